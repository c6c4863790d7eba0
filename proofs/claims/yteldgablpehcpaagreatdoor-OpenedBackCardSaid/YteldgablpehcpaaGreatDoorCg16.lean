/- Cg16 -/
import Derived.Test.YteldgablpehcpaaGreatDoorCg15
import Derived.Test.YteldgablpehcpaaGreatDoorRq16
set_option linter.unusedVariables false
set_option linter.unusedSimpArgs false
set_option maxRecDepth 100000
set_option maxHeartbeats 8000000
namespace Go.Proofs.YteldgablpehcpaaGreatDoor
open Go.RowKit
theorem yU(n:Int)(w:World):Calls Tryz.prog 48 #[.int .i64 n] w fun e w'=>e=.returned (.bool (decide (0<=n)&&decide (n<512)))/\w'=w:=by
 by_cases h1:0<=n
 ·have hd1:decide (n>=0)=true:=decide_eq_true h1;by_cases h2:n<512
  ·have hd2:decide (n<512)=true:=decide_eq_true h2;have hr:(decide (0<=n)&&decide (n<512))=true:=by rw[decide_eq_true h1,hd2];rfl
   rw[hr];clear hr;go_enter Tryz.func48,Tryz.ntmps48
   go_wp2_with fail;go_ret;exact⟨rfl,rfl⟩
  ·have hd2:decide (n<512)=false:=decide_eq_false h2;have hr:(decide (0<=n)&&decide (n<512))=false:=by rw[hd2,Bool.and_false]
   rw[hr];clear hr;go_enter Tryz.func48,Tryz.ntmps48
   go_wp2_with fail;go_ret;exact⟨rfl,rfl⟩
 ·have hd1:decide (n>=0)=false:=decide_eq_false h1;have hr:(decide (0<=n)&&decide (n<512))=false:=by rw[decide_eq_false h1,Bool.false_and]
  rw[hr];clear hr;go_enter Tryz.func48,Tryz.ntmps48
  go_wp2_with fail;go_ret;exact⟨rfl,rfl⟩
theorem rZ(k B:BL)(b:Nat)(n:Int)(o:Option Addr)(c:Nat)(w:World)(hA:Arr w b 179 (bytesV (Da.fil k)))(hB:RowIs w o (bytesV B) c)(hV:Cds w)(hl:B.length<=1000):
  Calls Tryz.prog 49 #[.pointer (some ⟨b,0,none⟩),.int .i64 n,.slice o B.length c] w fun e w'=>∃g cap,e=.returned (.slice (some ⟨g,0,none⟩) (B.length+8) cap)/\w.heap.size<=g/\RowV (Da.dZ k n B) (.slice (some ⟨g,0,none⟩) (B.length+8) cap) w'/\Below w.heap.size w w':=by
 have HA:=Lh hA;have HBR:=Lh hB;have HV:=Lh hV;obtain⟨L,hL⟩:=qM B.length;have HL:=Lh hL;rw[hL]at hl⊢;clear hA hB hV hL;go_enter Tryz.func49,Tryz.ntmps49
 go_upto_region 1 with fail
 apply wp_region_lit;iterate 3 (refine qP ?_)
 refine wpList_plain rfl (fun K hK=>?_);go_simp;refine(t7 (n:=n) rfl).mono ?_;rintro e W1 ⟨r,rfl,hr,hb1⟩;refine hK _ _ ?_;clear hK K;obtain⟨o1,c1,rfl,hr1⟩:=hr;have h8:=Da.a8 n;rw[h8];obtain⟨g2,hg2⟩:=qM W1.heap.size;obtain⟨W2,hW2⟩:=qM (W1.alloc (.cells #[.slice o1 8 c1,.slice o L c] 22));have hb2:Below W1.heap.size W1 W2:=by rw[<-hW2];exact aH _ _
 have HB2:=Lh (Ks hb1 hb2);have hrb:RbIs W2 (some ⟨g2,0,none⟩) [Da.bQ n,B] 2:=by
  have:=ie hr1 (HBR.out.later hb1);rw[h8,HL.out,hW2,hg2]at this;exact this
 have htg:=GR k b [Da.bQ n,B] (some ⟨g2,0,none⟩) 2 W2 (HA.out.later HB2.out HA.out.lt) hrb (HV.out.later HB2.out) (by simp[h8,HL.out];omega) qS;rw[show[Da.bQ n,B].flatten=Da.bQ n++B by simp,show([Da.bQ n,B]:L8).length=2 from rfl]at htg;obtain⟨TT,hTT⟩:=qM ((Da.eX k (Da.bQ n++B)).take 8);have hTl:TT.length=8:=by rw[<-hTT,List.length_take,Da.ay];rfl
 rw[hTT]at htg;have HTG:=Lh htg;have HTT:=Lh hTT;have HTL:=Lh hTl;have HW2:=Lh hW2;have HG2:=Lh hg2;clear hr1 h8 hg2 hW2 hb2 hrb htg hTT hTl hb1;refine qP ?_;refine wpList_plain rfl (fun K hK=>?_);go_simp;rw[HW2.out,HG2.out];refine hK _ _ ?_;clear hK K;refine wpList_plain rfl (fun K hK=>?_);go_simp;refine HTG.out.mono ?_;rintro e W3 ⟨g3,rfl,hr3,hb3⟩;refine hK _ _ ?_;clear hK K HTG HW2 HG2;obtain⟨g4,hg4⟩:=qM W3.heap.size;obtain⟨W4,hW4⟩:=qM (W3.alloc (.cells #[.slice o L c,.slice (some ⟨g3,0,none⟩) 8 8] 22));have hb4:Below W3.heap.size W3 W4:=by rw[<-hW4];exact aH _ _
 have HB4:=Lh (Ks (Ks HB2.out hb3) hb4);have hrb:RbIs W4 (some ⟨g4,0,none⟩) [B,TT] 2:=by
  have:=ie (HBR.out.later (Ks HB2.out hb3)) hr3;rw[HTL.out,HL.out,hW4,hg4]at this;exact this
 have hct:=sK [B,TT] (some ⟨g4,0,none⟩) 2 2 W4 hrb rfl (by simp[HTL.out]) (by simp[HTL.out,HL.out];omega) qO;rw[show[B,TT].flatten=B++TT by simp]at hct;have hlen:(B++TT).length=L+8:=by rw[List.length_append,HL.out,HTL.out]
 have htg:Da.dZ k n B=B++TT:=by unfold Da.dZ;rw[HTT.out]
 rw[hlen]at hct;have HCT:=Lh hct;have HLN:=Lh hlen;have HTG:=Lh htg;have HW4:=Lh hW4;have HG4:=Lh hg4;clear hr3 hg4 hW4 hb4 hrb hct hlen htg hb3;refine wpList_plain rfl (fun K hK=>?_);go_simp;rw[HW4.out,HG4.out];refine hK _ _ ?_;clear hK K;refine wpList_plain rfl (fun K hK=>?_);go_simp;refine HCT.out.mono ?_;rintro e W5 ⟨g,cap,rfl,hge,hbuf,hb5⟩;refine hK _ _ ?_;clear hK K HCT HW4 HG4;have HGE:Hid (w.heap.size<=g):=Lh (Nat.le_trans HB4.out.size hge);have HRV:Hid (RowV (Da.dZ k n B) (.slice (some ⟨g,0,none⟩) (L+8) cap) W5):=Lh (by rw[HTG.out];exact⟨_,cap,by rw[HLN.out],hbuf.row⟩);have HB5:=Lh (Ks HB4.out hb5);clear hbuf hb5 hge;go_wp2_with fail;go_ret;exact⟨g,cap,rfl,HGE.out,HRV.out,HB5.out⟩
theorem tD(A:Nat->Addr)(W:World)(oB:Option Addr)(cB:Nat)(B:BL)(hB:RowIs W oB (bytesV B) cB)(hl:B.length<=60)(hE:E16 W A):
  Calls Tryz.prog 60 #[.slice oB B.length cB] W fun e w'=>∃x y,e=.returned (.tuple #[x,y,eD A (if B.length=16 then 0 else 8)])/\RowV (if B.length=16 then B.take 8 else[]) x w'/\RowV (if B.length=16 then B.drop 8 else[]) y w'/\Below W.heap.size W w':=by
 have hc7:=hE.c7;by_cases h16:B.length=16
 ·rw[if_pos h16,if_pos h16,if_pos h16,h16];obtain⟨bb,off,rfl,hlt,_⟩:=hB.cells (by simp[h16]);have hle:=hB.le;have hca:=hB.cap;rw[bytesV_length,h16]at hle;unfold maxLen at hca;have hr1:RowIs W (some ⟨bb,off,none⟩) (bytesV (B.take 8)) cB:=by
   have:=hB.part 0 8 (by simp[h16]) cB qO hB.cap;simpa[bytesV,List.map_take]using this
  have hr2:RowIs W (some ⟨bb,off+8,none⟩) (bytesV (B.drop 8)) (cB-8):=by
   have:=hB.part 8 8 (by simp[h16]) (cB-8) qO (by have:=hB.cap;omega);rw[show(bytesV B).drop 8=bytesV (B.drop 8) by simp[bytesV,List.map_drop],List.take_of_length_le (by simp[h16])]at this;exact this
  have h1l:(B.take 8).length=8:=by rw[List.length_take,h16];rfl
  have h2l:(B.drop 8).length=8:=by rw[List.length_drop,h16]
  have CL1:Hid (∀v,Below W.heap.size W v->Calls Tryz.prog 98 #[.slice (some ⟨bb,off,none⟩) 8 cB] v fun e w'=>∃x,e=.returned x/\RowV (B.take 8) x w'/\Below v.heap.size v w'):=Lh fun v hv=>by
   have:=ij (B.take 8) _ cB v (hr1.later hv) qO qO;rw[h1l]at this;exact this.mono fun e w' ⟨g,cap,h1,_,h2,h3⟩=>⟨_,h1,⟨_,cap,rfl,h2.row⟩,h3⟩
  have CL2:Hid (∀v,Below W.heap.size W v->Calls Tryz.prog 98 #[.slice (some ⟨bb,off+8,none⟩) 8 (cB-8)] v fun e w'=>∃x,e=.returned x/\RowV (B.drop 8) x w'/\Below v.heap.size v w'):=Lh fun v hv=>by
   have:=ij (B.drop 8) _ (cB-8) v (hr2.later hv) qO qO;rw[h2l]at this;exact this.mono fun e w' ⟨g,cap,h1,_,h2,h3⟩=>⟨_,h1,⟨_,cap,rfl,h2.row⟩,h3⟩
  obtain⟨CC,hC⟩:∃CC:World->Prop,(fun v=>Below W.heap.size W v)=CC:=⟨_,rfl⟩;have HCm:Hid (∀v,CC v->Below W.heap.size W v):=Lh fun v hv=>by rw[<-hC]at hv;exact hv
  have HCi:Hid (∀v,Below W.heap.size W v->CC v):=Lh fun v hv=>by rw[<-hC];exact hv
  have hCC:CC {W with drawn:=W.drawn+1}:=HCi.out _ (Kit.dn' W 1);have hne:cB≠8:=qO;have hc8:¬((cB:Int)<8):=qO;have hc9:¬((16:Int)<8):=qO;clear hB hlt hr1 hr2 h1l h2l hC hl hE hc7 h16;go_enter Tryz.func60,Tryz.ntmps60
  go_upto_region 3 with fail
  refine wp_region_held (S:=CC) qK ?_;refine aI (i:=0) (x:=.slice (some ⟨bb,off,none⟩) 16 cB) rfl rfl qK qK qK qI (Or.inl ⟨qK,fun w hw=>qG⟩) hCC ?_;simp only[qA,qZ,qC];refine aI (i:=1) (x:=.slice (some ⟨bb,off,none⟩) 8 cB) rfl rfl qK qK qK qI (Or.inl ⟨qK,fun w hw=>qG⟩) hCC ?_;simp only[qA,qZ,qC];refine aI (i:=3) (x:=.slice (some ⟨bb,off,none⟩) 16 cB) rfl rfl qK qK qK qI (Or.inl ⟨qK,fun w hw=>qG⟩) hCC ?_;simp only[qA,qZ,qC];refine aI (i:=4) (x:=.slice (some ⟨bb,off+8,none⟩) 8 (cB-8)) rfl rfl qK qK qK qI (Or.inl ⟨qK,fun w hw=>qG⟩) hCC ?_;simp only[qA,qZ,qC];refine dF (i:=2) qK rfl qK (fun K hK=>?_);go_simp;refine(CL1.out _ (HCm.out _ hCC)).mono ?_;rintro e Y1 ⟨x,rfl,hx,hb⟩;have HX1:=Lh hx;have hCC1:=HCi.out _ (Ks (HCm.out _ hCC) hb);refine hK _ _ hCC1 ?_;clear hK K hCC hx hb CL1;refine dF (i:=5) qK rfl qK (fun K hK=>?_);go_simp;refine(CL2.out _ (HCm.out _ hCC1)).mono ?_;rintro e Y2 ⟨y,rfl,hy,hb⟩;have HY2:=Lh hy;have HX2:=Lh (HX1.out.later hb);have hCC2:=HCi.out _ (Ks (HCm.out _ hCC1) hb);refine hK _ _ hCC2 ?_;clear hK K hCC1 hy hb CL2;refine aI (i:=6) (x:=x) rfl rfl qK qK qK qI (Or.inl ⟨qK,fun w hw=>qG⟩) hCC2 ?_;simp only[qA,qZ,qC];refine aI (i:=7) (x:=y) rfl rfl qK qK qK qI (Or.inl ⟨qK,fun w hw=>qG⟩) hCC2 ?_;simp only[qA,qZ,qC];refine aI (i:=8) (x:=.nilIface) rfl rfl qK qK qK qI (Or.inl ⟨qK,fun w hw=>qG⟩) hCC2 ?_;simp only[qA,qZ,qC];refine wpAnyH_done qK ?_ _;have HB2:=Lh (HCm.out _ hCC2);clear hCC2;go_wp2_with fail;refine bodyPost_ret (results_tmp3 rfl _ _ _) rfl ?_;exact⟨x,y,rfl,HX2.out,HY2.out,HB2.out⟩
 ·rw[if_neg h16,if_neg h16,if_neg h16];obtain⟨L,hL⟩:=qM B.length;rw[hL]at h16⊢;have hq1:((L:Int) !=16)=true:=by rw[bne_iff_ne];omega
  have hq2:((L:Int)==16)=false:=beq_false_of_ne qO;clear hB hL hE hl;go_enter Tryz.func60,Tryz.ntmps60
  go_upto_region 2 with fail
  go_quiet (fail)
  go_wp2_with fail;refine bodyPost_ret (results_tmp3 rfl _ _ _) rfl ?_;exact⟨.slice none 0 0,.slice none 0 0,rfl,RowV.nil _,RowV.nil _,Kit.dn' _ _⟩
theorem Da.ll(b:Nat)(K:BL)(N:Int):(Da.lR b (Da.dp K N)).length=5:=by
 unfold Da.lR;split<;>rfl
theorem km{W:World}{bs:L8}{xs:List Value}(h:Els W bs xs):xs.toArray.all (·.oneCell')=true:=all_oneCell_toArray h.ones
theorem Da.C5(k B:BL)(n:Int)(h16:B.length=16)(h0:0<=n)(h1:n<512):(B.drop 8==(Da.eX k (Da.bQ n++B.take 8)).take 8)=Da.fi k n B:=by
 unfold Da.fi Da.dZ;rw[decide_eq_true h16,decide_eq_true h0,decide_eq_true h1,Bool.true_and,Bool.true_and,Bool.true_and,sc];have e:B=B.take 8++B.drop 8:=(List.take_append_drop 8 B).symm;congr 1
 apply propext;constructor
 ·intro h;rw[<-h];exact e.symm
 ·intro h;have h2:B.take 8++(Da.eX k (Da.bQ n++B.take 8)).take 8=B.take 8++B.drop 8:=h.trans e;exact(List.append_cancel_left h2).symm
theorem zq(ZK:Array Value)(hZK:eY.toArray=ZK)(hzk:∀w,Sem.run Tryz.prog (zeroValue 82) w=.ok (.agg ZK) w)(A:Nat->Addr)(W:World)(oK:Option Addr)(cK:Nat)(K9:BL)(N n:Int)(oB:Option Addr)(cB:Nat)(B:BL)(hK9:RowIs W oK (bytesV K9) cK)(hB:RowIs W oB (bytesV B) cB)(hKl:K9.length<=100)(hBl:B.length<=60)(hN:bG N)(hn:bG n)(hV:Cds W)(hE:E16 W A):
  Calls Tryz.prog 58 #[.slice oK K9.length cK,.int .i64 N,.int .i64 n,.slice oB B.length cB] W fun e w'=>e=.returned (.tuple #[.bool (if Da.dN (Da.aj K9.length) (Da.inR N)=0 then Da.fi (Da.aQ K9 N 3) n B else false),eD A (Da.dN (Da.aj K9.length) (Da.inR N))])/\Below W.heap.size W w':=by
 have hla:=lS K9 oK cK N A W hK9 hV hE.e9 qO;obtain⟨k,hk⟩:=qM (Da.dN (Da.aj K9.length) (Da.inR N));rw[hk];obtain⟨lk,hlk⟩:=qM K9.length;obtain⟨L,hL⟩:=qM B.length;rw[hk]at hla;rw[hlk]at hla⊢;rw[hL]at⊢;have HLA:=Lh hla;have HK:=Lh hk;have HL:=Lh hL;have HBR:=Lh hB;have HV:=Lh hV;have HE:=Lh hE;have HZK:=Lh hZK;have HBL:=Lh hBl;have hnn:=dO;clear hla hk hL hB hV hE hZK hK9 hBl hlk hKl hN;obtain⟨RB,hRB⟩:=qM ((if k=0 then Da.fi (Da.aQ K9 N 3) n B else false));rw[hRB];have HRB:=Lh hRB;clear hRB;go_enter Tryz.func58,Tryz.ntmps58
 go_upto_region 1 with fail
 apply wp_region_lit;iterate 2 (refine qP ?_)
 refine wpList_plain rfl (fun K hK=>?_);go_simp;refine HLA.out.mono ?_;rintro e V2 ⟨xs,rfl,hx,hb2⟩;refine hK _ _ ?_;clear hK K HLA;obtain⟨gk,hgk⟩:=qM V2.heap.size;obtain⟨FA,hFA⟩:∃FA:Array Value,xs.toArray=FA:=⟨_,rfl⟩;have h5:xs.length=5:=hx.len.trans (Da.ll _ _ _);have HFS:Hid ((Tryz.prog.info? 82).map (·.size)=some FA.size):=Lh (by rw[kT,<-hFA];simp[h5]);have HFZ:Hid (ZK.size=FA.size):=Lh (by rw[<-HZK.out,<-hFA];simp[h5,eY]);have HFO:Hid (FA.all (·.oneCell')=true):=Lh (by rw[<-hFA];exact km hx);obtain⟨V3,hV3⟩:=qM (V2.alloc (.cells ZK 82));have hz3:V3.heap[gk]? =some (.cells ZK 82 (0,0)):=by rw[<-hV3,<-hgk];exact World.alloc_heap_new V2 _
 obtain⟨V4,hV4⟩:=qM (V3.setRow gk FA);have hA4:Arr V4 gk 82 xs:=by rw[<-hV4];unfold Arr;rw[hFA];exact setRow_heap _ _ _ _ _ _ hz3
 have hb4:Below V2.heap.size V2 V4:=by rw[<-hV4,<-hV3];exact(aH _ _).trans (aA (Nat.le_of_eq hgk))
 have HX4:=Lh (hx.later hb4);have HA4:=Lh hA4;have HZ3:=Lh hz3;have HV3:=Lh hV3;have HV4:=Lh hV4;have HGK:=Lh hgk;have HFA:=Lh hFA;rw[hFA];have HB4:=Lh (Ks hb2 hb4);clear hx hb2 hgk hFA h5 hV3 hz3 hV4 hA4 hb4;iterate 4 (refine qP ?_)
 rw[HV3.out,HGK.out];refine wpList_store_rowTo rfl 82 (.tmp 10) (.tmp 18) rfl rfl gk FA rfl rfl 82 ZK HZ3.out HFS.out HFZ.out HFO.out ?_;rw[HV4.out];clear HV3 HV4 HZ3 HGK;refine qP ?_;by_cases h0:k=0
 rotate_left
 ·have hrb:RB=false:=by rw[<-HRB.out,if_neg h0]
  have HRF:=Lh hrb;clear hrb;obtain⟨a1,ha1⟩:=ii A k h0;rw[ha1];have HA1:=Lh ha1;have H0:=Lh h0;clear ha1 h0;go_wp2_with fail;refine bodyPost_ret (results_tmp2 rfl _ _ _) rfl ?_;exact⟨by rw[HRF.out,HA1.out];rfl,HB4.out⟩
 subst h0;have hrb:RB=Da.fi (Da.aQ K9 N 3) n B:=by rw[<-HRB.out,if_pos rfl]
 have HRT:=Lh hrb;clear hrb;rw[fN];go_upto_region 4 with fail
 apply wp_region_lit;refine qP ?_;refine wpList_plain rfl (fun K hK=>?_);go_simp;refine(yU n _).mono ?_;rintro e w1 ⟨rfl,rfl⟩;refine hK _ _ ?_;clear hK K;rename World=>V4
 by_cases hp:0<=n/\n<512
 rotate_left
 ·have hpb:(decide (0<=n)&&decide (n<512))=false:=by
   rw[Bool.eq_false_iff];intro h;rw[Bool.and_eq_true,decide_eq_true_eq,decide_eq_true_eq]at h;exact hp h
  rw[hpb];have hrf:RB=false:=by
   rw[HRT.out];unfold Da.fi;rw[<-Bool.and_assoc (decide (0<=n)),hpb,Bool.false_and,Bool.and_false]
  have HRF:=Lh hrf;clear hrf hp hpb;go_wp2_with fail;refine bodyPost_ret (results_tmp2 rfl _ _ _) rfl ?_;exact⟨by rw[HRF.out];rfl,HB4.out⟩
 have hpb:(decide (0<=n)&&decide (n<512))=true:=by rw[decide_eq_true hp.1,decide_eq_true hp.2];rfl
 rw[hpb];have HP:=Lh hp;clear hpb hp;by_cases h16:L=16
 rotate_left
 ·have hq1:((L:Int) !=16)=true:=by rw[bne_iff_ne];omega
  have hq2:((L:Int)==16)=false:=beq_false_of_ne qO;have hrf:RB=false:=by
   rw[HRT.out];unfold Da.fi;rw[HL.out,decide_eq_false h16,Bool.false_and]
  have HRF:=Lh hrf;clear hrf h16;go_wp2_with fail;refine bodyPost_ret (results_tmp2 rfl _ _ _) rfl ?_;exact⟨by rw[HRF.out];rfl,HB4.out⟩
 subst h16;have hB:=HBR.out.later HB4.out;obtain⟨bb,off,rfl,hlt,_⟩:=hB.cells (by simp[HL.out]);have hle:=hB.le;have hca:=hB.cap;rw[bytesV_length,HL.out]at hle;unfold maxLen at hca;have hr1:RowIs V4 (some ⟨bb,off,none⟩) (bytesV (B.take 8)) cB:=by
  have:=hB.part 0 8 (by simp[HL.out]) cB qO hB.cap;simpa[bytesV,List.map_take]using this
 have hr2:RowIs V4 (some ⟨bb,off+8,none⟩) (bytesV (B.drop 8)) (cB-8):=by
  have:=hB.part 8 8 (by simp[HL.out]) (cB-8) qO (by have:=hB.cap;omega);rw[show(bytesV B).drop 8=bytesV (B.drop 8) by simp[bytesV,List.map_drop],List.take_of_length_le (by simp[HL.out])]at this;exact this
 have h1l:(B.take 8).length=8:=by rw[List.length_take,HL.out];rfl
 have h2l:(B.drop 8).length=8:=by rw[List.length_drop,HL.out]
 have hne:cB≠8:=qO;have HR1:=Lh hr1;have HR2:=Lh hr2;have H1L:=Lh h1l;have H2L:=Lh h2l;clear hB hlt hr1 hr2 h1l h2l;go_upto_region 6 with fail
 go_quiet (fail)
 obtain⟨V5,hV5⟩:=qM (V4.drewN nq);have hbd:Below V4.heap.size V4 V5:=by rw[<-hV5];exact Kit.dn' V4 nq
 have hx4:Els V5 (Da.dp K9 N) xs:=(show Els V4 (Da.dp K9 N) xs from HX4.out).later hbd;obtain⟨x3,hx3,hr3⟩:=hx4.key16 3 qO;have hk3l:=Da.bP K9 N 3 qO;obtain⟨o3,c3,rfl,hr3⟩:=hr3;have HB5:=Lh (Ks HB4.out hbd);have hmk:=gV (Da.aQ K9 N 3) o3 c3 V5 hr3 (HV.out.later HB5.out) (by rw[hk3l];omega);rw[hk3l]at hmk hx3;have hc3:V5.cell? ⟨gk,3,none⟩=some (.slice o3 32 c3):=by rw[(HA4.out.later hbd HA4.out.lt).cell];exact hx3
 have HMK:=Lh hmk;have HR15:=Lh (HR1.out.later hbd);have HR25:=Lh (HR2.out.later hbd);rw[hV5];clear hx4 hx3 hr3 hmk hk3l hV5 hbd;obtain⟨gm,hgm⟩:=qM V5.heap.size;rw[hgm]at HMK;have HGM:=Lh hgm;clear hgm;go_upto_region 7 with fail
 apply wp_region_lit;iterate 2 (refine qP ?_)
 refine wpList_plain rfl (fun K hK=>?_);go_simp;refine HMK.out.mono ?_;rintro e V6 ⟨rfl,hA6,hb6⟩;rw[<-HGM.out]at hb6;refine hK _ _ ?_;clear hK K hc3 HMK;have HA6:=Lh hA6;have HB6:=Lh (Ks HB5.out hb6);have HR16:=Lh (HR15.out.later hb6);have HR26:=Lh (HR25.out.later hb6);clear hA6 hb6;iterate 2 (refine qP ?_)
 refine wpList_plain rfl (fun K hK=>?_);go_simp;refine(t7 (n:=n) rfl).mono ?_;rintro e V7 ⟨r,rfl,hr,hb7⟩;refine hK _ _ ?_;clear hK K;obtain⟨o1,c1,rfl,hr1⟩:=hr;have h8:=Da.a8 n;rw[h8];obtain⟨g2,hg2⟩:=qM V7.heap.size;obtain⟨V8,hV8⟩:=qM (V7.alloc (.cells #[.slice o1 8 c1,.slice (some ⟨bb,off,none⟩) 8 cB] 22));have hb8:Below V7.heap.size V7 V8:=by rw[<-hV8];exact aH _ _
 have hrb:RbIs V8 (some ⟨g2,0,none⟩) [Da.bQ n,B.take 8] 2:=by
  have:=ie hr1 (HR16.out.later hb7);rw[h8,H1L.out,hV8,hg2]at this;exact this
 have hb78:=Ks hb7 hb8;have htg:=uq (Da.aQ K9 N 3) gm (B.drop 8) (some ⟨bb,off+8,none⟩) (cB-8) [Da.bQ n,B.take 8] (some ⟨g2,0,none⟩) 2 V8 (HA6.out.later hb78 HA6.out.lt) (HR26.out.later hb78) (by rw[H2L.out];omega) hrb (HV.out.later (Ks HB6.out hb78)) (by simp[h8,H1L.out]) qS;rw[show[Da.bQ n,B.take 8].flatten=Da.bQ n++B.take 8 by simp,show([Da.bQ n,B.take 8]:L8).length=2 from rfl,H2L.out,Da.C5 _ B n HL.out HP.out.1 HP.out.2,<-HRT.out]at htg;have HTG:=Lh htg;have HV8:=Lh hV8;have HG2:=Lh hg2;have HB8:=Lh (Ks HB6.out hb78);clear hr1 h8 hg2 hV8 hb8 hrb htg hb7 hb78;refine qP ?_;refine wpList_plain rfl (fun K hK=>?_);go_simp;rw[HV8.out,HG2.out];refine hK _ _ ?_;clear hK K;refine wpList_plain rfl (fun K hK=>?_);go_simp;refine HTG.out.mono ?_;rintro e V9 ⟨rfl,hb9⟩;refine hK _ _ ?_;clear hK K HTG;have HB9:=Lh (Ks HB8.out hb9);clear hb9;go_wp2_with fail;refine bodyPost_ret (results_tmp2 rfl _ _ _) rfl ?_;exact⟨rfl,HB9.out⟩
theorem p6(A:Nat->Addr)(W:World)(oK:Option Addr)(cK:Nat)(K9:BL)(N n:Int)(oB:Option Addr)(cB:Nat)(B:BL)(hK9:RowIs W oK (bytesV K9) cK)(hB:RowIs W oB (bytesV B) cB)(hKl:K9.length<=100)(hBl:B.length<=60)(hN:bG N)(hn:bG n)(hV:Cds W)(hE:E16 W A):
  Calls Tryz.prog 58 #[.slice oK K9.length cK,.int .i64 N,.int .i64 n,.slice oB B.length cB] W fun e w'=>e=.returned (.tuple #[.bool (if Da.dN (Da.aj K9.length) (Da.inR N)=0 then Da.fi (Da.aQ K9 N 3) n B else false),eD A (Da.dN (Da.aj K9.length) (Da.inR N))])/\Below W.heap.size W w':=zq _ rfl rH A W oK cK K9 N n oB cB B hK9 hB hKl hBl hN hn hV hE
def iV(xs:List Value)(o:Option Addr)(n:Int):List Value:=xs++[.pointer o,.int .i64 n]
def oP:List Value:=iV eY none 0
theorem mt:(Tryz.prog.info? 106).map (·.size)=some 7:=qK
theorem rc(w:World):Sem.run Tryz.prog (zeroValue 106) w=.ok (.agg oP.toArray) w:=qK
theorem KY(w:World):(Instr.build 106 #[]).run Tryz.prog w=.ok (.agg oP.toArray) w:=qK
theorem PY(o0 o1 o2 o3 o4 p:Option Addr)(l0 l1 l2 l3 l4 c0 c1 c2 c3 c4:Nat)(n:Int):
  Tryz.prog.built 106 [(0,.agg [.slice o0 l0 c0,.slice o1 l1 c1,.slice o2 l2 c2,.slice o3 l3 c3,.slice o4 l4 c4].toArray),(1,.pointer p),(2,.int .i64 n)]=some (iV [.slice o0 l0 c0,.slice o1 l1 c1,.slice o2 l2 c2,.slice o3 l3 c3,.slice o4 l4 c4] p n).toArray:=qK
theorem KZ{xs:List Value}(h:Sl5 xs)(p:Option Addr)(n:Int): Tryz.prog.built 106 [(0,.agg xs.toArray),(1,.pointer p),(2,.int .i64 n)]=some (iV xs p n).toArray:=by
 obtain⟨o0,o1,o2,o3,o4,l0,l1,l2,l3,l4,c0,c1,c2,c3,c4,rfl⟩:=h;exact PY _ _ _ _ _ _ _ _ _ _ _ _ _ _ _ _ _
theorem Sl5.len{xs:List Value}(h:Sl5 xs):xs.length=5:=by
 obtain⟨o0,o1,o2,o3,o4,l0,l1,l2,l3,l4,c0,c1,c2,c3,c4,rfl⟩:=h;rfl
theorem Sl5.ones{xs:List Value}(h:Sl5 xs):∀v∈xs,v.oneCell'=true:=by
 obtain⟨o0,o1,o2,o3,o4,l0,l1,l2,l3,l4,c0,c1,c2,c3,c4,rfl⟩:=h;intro v hv;simp only[List.mem_cons,List.not_mem_nil,or_false]at hv;rcases hv with rfl|rfl|rfl|rfl|rfl<;>rfl
theorem FE{xs:List Value}(h:Sl5 xs)(p:Option Addr)(n:Int):(iV xs p n).toArray.all (·.oneCell')=true:=all_oneCell_toArray (fun v hv=>by
 rcases List.mem_append.1 hv with hv|hv
 ·exact h.ones v hv
 ·simp only[List.mem_cons,List.not_mem_nil,or_false]at hv;rcases hv with rfl|rfl<;>rfl)
theorem uD{xs:List Value}(h:Sl5 xs)(p:Option Addr)(n:Int):(iV xs p n).toArray.size=7:=by simp[iV,h.len]
theorem TH:Sl5 eY:=⟨_,_,_,_,_,_,_,_,_,_,_,_,_,_,_,rfl⟩
def TI(v:Value):Prop:=(∀W,(binOp .neq 34 v .nilIface).run Tryz.prog W=.ok (.bool true) W)/\∀j W,(eqGuard .neq 34 (.tmp j) (.const .nilIface) v .nilIface).run Tryz.prog W=.ok () W
theorem Hi(b:Nat):TI (jQ b):=⟨fun W=>fU b W,fun j W=>rfl⟩
theorem C6(a:Addr):TI (.iface 302 (.pointer (some a))):=⟨fun W=>qK,fun j W=>rfl⟩
theorem kn(W:World)(g:Nat)(cs:Array Value):W.grownBy (W.setRow g cs) (some g):=
 ⟨rfl,rfl,rfl,by simp[World.setRow],fun k hk hne=>setRow_other W g k cs (fun e=>hne (by rw[e]))⟩
theorem C7{W:World}{g c:Nat}{o:Option Addr}{z:BL}{cs:Array Value}{T:TypeId}(hg:W.heap[g]? =some (.cells cs T (0,0)))(hr:RowIs W o (bytesV z) c)(hz:cs.size<z.length):∀p,o=some p->p.block≠g:=fun p e e2=>by
 obtain⟨b,off,rfl,_,hc⟩:=hr.cells (by simp;omega);cases e
 have h1:=hc cs.size _ (aB z cs.size hz);have e3:b=g:=e2;subst e3;unfold World.cell? at h1;rw[hg]at h1;have:¬off+cs.size<cs.size:=qO;simp[this]at h1
theorem zr{W:World}{bs:L8}{xs:List Value}{g:Nat}{cs cs':Array Value}{T:TypeId}(h:Els W bs xs)(hg:W.heap[g]? =some (.cells cs T (0,0)))(hl:∀i,i<bs.length->cs.size<(bi bs i).length):Els (W.setRow g cs') bs xs:=
 ⟨h.len,fun i x hx=>by
  obtain⟨o,c,rfl,hr⟩:=h.at_ i x hx;have hi:i<bs.length:=by rw[<-h.len];exact(List.getElem?_eq_some_iff.1 hx).1
  refine⟨o,c,rfl,hr.kept (kn W g cs') (fun _ ad e h2=>C7 hg hr (hl i hi) ad e ?_)⟩;injection h2⟩
theorem xD{W:World}{K:BL}{N:Int}{xs:List Value}{g:Nat}{cs cs':Array Value}{T:TypeId}(h:Els W (Da.dp K N) xs)(hg:W.heap[g]? =some (.cells cs T (0,0)))(hl:cs.size<=30):Els (W.setRow g cs') (Da.dp K N) xs:=
 zr h hg fun i hi=>by
  have:=Da.bP K N i hi;unfold Da.aQ at this;omega
theorem zt{W:World}{g q n gl:Nat}{k:BL}{cs:Array Value}{T:TypeId}(h:OrdAt W g q k n)(hl:W.heap[gl]? =some (.cells cs T (0,0)))(h1: 175≠T)(h2: 179≠T)(C:Array Value):OrdAt (W.setRow gl C) g q k n:=by
 have hA:Arr W gl T cs.toList:=hl;exact⟨bE h.1 (ag h.1 hA h1) C,bE h.2 (ag h.2 hA h2) C⟩
theorem mu{A:Nat->Addr}{p:Pm15}{W:World}{v:Value}{g:Nat}{cs:Array Value}{T:TypeId}(h:WrV A p W v)(hg:W.heap[g]? =some (.cells cs T (0,0)))(hT:T≠ 159)(C:Array Value):WrV A p (W.setRow g C) v:=by
 rcases h with h|⟨h0,b,rfl,hw⟩
 ·exact .inl h
 ·refine .inr ⟨h0,b,rfl,?_⟩;unfold WrAt at hw⊢;rw[setRow_other W g b C (fun e=>?_)]
  ·exact hw
  ·subst e;rw[hw]at hg;injection hg with hg
   injection hg with _ h2 _
   exact hT h2.symm
def Ly16At(K:BL)(N:Int)(p:Pm15)(L:List Value)(W:World):Prop:=
 ∃xs g q,L=iV xs (some ⟨g,0,none⟩) (Da.ae p.sz:Int)/\Sl5 xs/\Els W (Da.dp K N) xs/\OrdAt W g q (Da.aQ K N 1) (Da.n16 p)
theorem Ly16At.later{K:BL}{N:Int}{p:Pm15}{L:List Value}{W W':World}(h:Ly16At K N p L W)(hb:Below W.heap.size W W'):Ly16At K N p L W':=by
 obtain⟨xs,g,q,h1,h2,h3,h4⟩:=h;exact⟨xs,g,q,h1,h2,h3.later hb,h4.later hb⟩
def Ly16(A:Nat->Addr)(K:BL)(N:Int)(p:Pm15)(L:List Value)(v:Value)(W:World):Prop:=
 L.toArray.size=7/\L.toArray.all (·.oneCell')=true/\((Da.fH K N p=0/\v=.nilIface/\Ly16At K N p L W)∨(Da.fH K N p≠0/\SeV A p (Da.dN (Da.aj K.length) (Da.inR N)) W v/\TI v))
theorem C8(ZK:Array Value)(hZK:eY.toArray=ZK)(hzk:∀w,Sem.run Tryz.prog (zeroValue 82) w=.ok (.agg ZK) w)(ZL:Array Value)(hZL:oP.toArray=ZL)(hzl:∀w,Sem.run Tryz.prog (zeroValue 106) w=.ok (.agg ZL) w)
  (hbl:∀w,(Instr.build 106 #[]).run Tryz.prog w=.ok (.agg ZL) w) (A:Nat->Addr) (W:World) (oK:Option Addr) (cK:Nat) (K9:BL) (N:Int) (p:Pm15) (hK9:RowIs W oK (bytesV K9) cK) (hKl:K9.length<=100) (hN:bG N) (hok:p.ok) (hV:Cds W) (hE:E16 W A):
  Calls Tryz.prog 42 #[.slice oK K9.length cK,.int .i64 N,.agg (pmA p)] W fun e w'=>∃L v,e=.returned (.tuple #[.agg L.toArray,v])/\Ly16 A K9 N p L v w'/\Below W.heap.size W w':=by
 obtain⟨g,hg⟩:=qM W.heap.size;obtain⟨PA,hPA⟩:=qM (pmA p);obtain⟨W2,hW2⟩:=qM ((W.alloc (.cells PA 24)).alloc (.cells ZL 106));have hb2:Below W.heap.size W W2:=by rw[<-hW2];exact Ks (aH _ _) (aH _ _)
 have hA2:Arr W2 g 24 (pmL p):=by
  have h1:Arr (W.alloc (.cells PA 24)) g 24 (pmL p):=by rw[<-hPA,<-hg];exact World.alloc_heap_new W _
  rw[<-hW2];exact h1.alloc _
 have hL2:W2.heap[g+1]? =some (.cells ZL 106 (0,0)):=by rw[<-hW2,<-hg];exact ff _ _ _ _
 have hP:=jL A W2 p hok (hE.later hb2).e15;have HPP:Hid (∀w',Below W2.heap.size W2 w'->w'.heap[g]? =some (.cells PA 24 (0,0))):=Lh fun w' hb=>by
  have:=hA2.later hb hA2.lt;unfold Arr at this;rw[show(pmL p).toArray=PA from hPA]at this;exact this
 have HPS:Hid ((Tryz.prog.info? 24).map (·.size)=some PA.size):=Lh (by rw[<-hPA];exact aM);have HSE:Hid (∀w',Below W2.heap.size W2 w'->w'.cell? ⟨g,1,none⟩=some (.int .i64 p.se)):=Lh fun w' hb=>by rw[(hA2.later hb hA2.lt).cell];rfl
 have HLZ:Hid (∀w',Below W2.heap.size W2 w'->w'.heap[g+1]? =some (.cells ZL 106 (0,0))):=Lh fun w' hb=>(hb.block (g+1) (aE.1 hL2).1).trans hL2
 have HZS:Hid ((Tryz.prog.info? 106).map (·.size)=some ZL.size):=Lh (by rw[mt,<-hZL];rfl);have HZO:Hid (ZL.all (·.oneCell')=true):=Lh (by rw[<-hZL];exact FE TH _ _);have HL7:Hid (ZL.size=7):=Lh (by rw[<-hZL];rfl);rw[hPA]at hP⊢;obtain⟨PT,hPT⟩:∃PT:Int,(if Da.aU p=0 then(Da.ae p.sz:Int)else 0)=PT:=⟨_,rfl⟩;rw[hPT]at hP;obtain⟨lk,hlk⟩:=qM K9.length;have HLA:Hid (∀w',Below W2.heap.size W2 w'->Calls Tryz.prog 29 #[.slice oK lk cK,.int .i64 N] w' fun e w2=>∃xs:List Value,e=.returned (.tuple #[.agg xs.toArray,eD A (Da.dN (Da.aj K9.length) (Da.inR N))])/\Els w2 (Da.lR (Da.dN (Da.aj K9.length) (Da.inR N)) (Da.dp K9 N)) xs/\Below w'.heap.size w' w2):=Lh fun w' hb=>by
  rw[<-hlk];exact lS K9 oK cK N A w' (hK9.later (Ks hb2 hb)) (hV.later (Ks hb2 hb)) (hE.later (Ks hb2 hb)).e9 qO
 rw[hlk];obtain⟨k,hk⟩:=qM (Da.dN (Da.aj K9.length) (Da.inR N));rw[hk]at HLA;have HP:=Lh hP;have HPT:=Lh hPT;have HK:=Lh hk;have HG:=Lh hg;have HW2:=Lh hW2;have HB2:=Lh hb2;have HV:=Lh hV;have HZK:=Lh hZK;have HZL:=Lh hZL;have hnn:=dO;clear hP hPT hk hg hW2 hb2 hA2 hL2 hV hE hZK hZL hK9 hKl hlk hPA hok hN;go_enter Tryz.func42,Tryz.ntmps42
 go_upto_region 1 with fail
 rw[HW2.out,HG.out];apply wp_region_lit;refine wpList_load_row rfl 24 (.tmp 5) rfl g rfl 24 PA (0,0) _ (HPP.out W2 qB) Tryz.underlying24 rfl HPS.out ?_;refine wpList_plain rfl (fun K hK=>?_);go_simp;refine HP.out.mono ?_;rintro e W3 ⟨v,rfl,hv,hb3⟩;refine hK _ _ ?_;clear hK K HP;have HB3:=Lh hb3;clear hb3;iterate 5 (refine qP ?_)
 rcases hv with ⟨h0,rfl⟩|⟨h0,b,rfl,hw⟩
 rotate_left
 ·have hwr:=mu (v:=jQ b) (.inr ⟨h0,b,rfl,hw⟩) (HLZ.out W3 HB3.out) qD ZL;have HFIN:Hid (Ly16 A K9 N p oP (jQ b) (W3.setRow (g+1) ZL)):=Lh ⟨by rw[HZL.out];exact HL7.out,by rw[HZL.out];exact HZO.out,.inr ⟨by unfold Da.fH;rw[if_neg h0];exact fun h=>h0 ((Da.dW (Da.fO p)).1 h),.inl ⟨h0,hwr⟩,Hi b⟩⟩;have HBF:Hid (Below W.heap.size W (W3.setRow (g+1) ZL)):=Lh ((Ks HB2.out HB3.out).trans (aA (by have:=HG.out;omega)));have HLW:=Lh (HLZ.out W3 HB3.out);have hq:=fU b;unfold jQ at hq⊢;clear h0 hw hwr;go_upto_region 3 with fail
  apply wp_region_lit;iterate 2 (refine qP ?_)
  refine wpList_store_rowTo rfl 106 (.tmp 6) (.tmp 19) rfl rfl (g+1) ZL rfl rfl 106 ZL HLW.out HZS.out rfl HZO.out ?_;go_wp2_with fail;refine bodyPost_ret (aD rfl _ _ (g+1) 106 ZL (0,0) _ rfl (setRow_heap _ _ _ _ _ _ HLW.out) Tryz.underlying106 rfl HZS.out) rfl ?_;exact⟨oP,_,by rw[HZL.out];rfl,HFIN.out,HBF.out⟩
 have hpt:PT=(Da.ae p.sz:Int):=by rw[<-HPT.out,if_pos h0]
 have H0:=Lh h0;have HTT:=Lh hpt;clear h0 hpt;go_upto_region 4 with fail
 apply wp_region_lit;iterate 2 (refine qP ?_)
 refine wpList_plain rfl (fun K hK=>?_);go_simp;refine(HLA.out W3 HB3.out).mono ?_;rintro e V2 ⟨xs,rfl,hx,hbv⟩;refine hK _ _ ?_;clear hK K HLA;obtain⟨gk,hgk⟩:=qM V2.heap.size;obtain⟨FA,hFA⟩:∃FA:Array Value,xs.toArray=FA:=⟨_,rfl⟩;have h5:xs.length=5:=hx.len.trans (Da.ll _ _ _);have HFS:Hid ((Tryz.prog.info? 82).map (·.size)=some FA.size):=Lh (by rw[kT,<-hFA];simp[h5]);have HFZ:Hid (ZK.size=FA.size):=Lh (by rw[<-HZK.out,<-hFA];simp[h5,eY]);have HFO:Hid (FA.all (·.oneCell')=true):=Lh (by rw[<-hFA];exact km hx);obtain⟨V3,hV3⟩:=qM (V2.alloc (.cells ZK 82));have hz3:V3.heap[gk]? =some (.cells ZK 82 (0,0)):=by rw[<-hV3,<-hgk];exact World.alloc_heap_new V2 _
 obtain⟨V4,hV4⟩:=qM (V3.setRow gk FA);have hA4:Arr V4 gk 82 xs:=by rw[<-hV4];unfold Arr;rw[hFA];exact setRow_heap _ _ _ _ _ _ hz3
 have hb4:Below V2.heap.size V2 V4:=by rw[<-hV4,<-hV3];exact(aH _ _).trans (aA (Nat.le_of_eq hgk))
 have HX4:=Lh (hx.later hb4);have HA4:=Lh hA4;have HZ3:=Lh hz3;have HV3:=Lh hV3;have HV4:=Lh hV4;have HGK:=Lh hgk;have HFA:=Lh hFA;rw[hFA];have hs5:=hx.five (Da.ll _ _ _);have HS5:=Lh hs5;have HB4:=Lh (Ks (Ks HB3.out hbv) hb4);clear hx hbv hgk hFA h5 hV3 hz3 hV4 hA4 hb4 hs5;iterate 4 (refine qP ?_)
 rw[HV3.out,HGK.out];refine wpList_store_rowTo rfl 82 (.tmp 10) (.tmp 25) rfl rfl gk FA rfl rfl 82 ZK HZ3.out HFS.out HFZ.out HFO.out ?_;rw[HV4.out];clear HV3 HV4 HZ3;refine qP ?_;by_cases hk0:k=0
 rotate_left
 ·obtain⟨a1,ha1⟩:=ii A k hk0;have HLW:=Lh (HLZ.out V4 HB4.out);have HFIN:Hid (Ly16 A K9 N p oP (eD A k) (V4.setRow (g+1) ZL)):=Lh ⟨by rw[HZL.out];exact HL7.out,by rw[HZL.out];exact HZO.out,.inr ⟨by unfold Da.fH;rw[if_pos H0.out,HK.out];exact hk0,.inr ⟨H0.out,by rw[HK.out]⟩,by rw[ha1];exact C6 a1⟩⟩;have HBF:Hid (Below W.heap.size W (V4.setRow (g+1) ZL)):=Lh ((Ks HB2.out HB4.out).trans (aA (by have:=HG.out;omega)));rw[ha1]at HFIN⊢;clear ha1 hk0;go_upto_region 6 with fail
  apply wp_region_lit;iterate 2 (refine qP ?_)
  refine wpList_store_rowTo rfl 106 (.tmp 6) (.tmp 29) rfl rfl (g+1) ZL rfl rfl 106 ZL HLW.out HZS.out rfl HZO.out ?_;go_wp2_with fail;refine bodyPost_ret (aD rfl _ _ (g+1) 106 ZL (0,0) _ rfl (setRow_heap _ _ _ _ _ _ HLW.out) Tryz.underlying106 rfl HZS.out) rfl ?_;exact⟨oP,_,by rw[HZL.out];rfl,HFIN.out,HBF.out⟩
 subst hk0;rw[fN];have hR:=Da.cN H0.out;have hn:=Da.iy hR;have hni:=Da.pO hR;obtain⟨n,hne⟩:=qM (Da.n16 p);rw[hne]at hn hni;have hws:IntKind.i64.wrap (PT+p.se)=(n:Int):=by rw[IntKind.wrap_i64,HTT.out,hni];omega
 have hx4:Els V4 (Da.dp K9 N) xs:=HX4.out;have HX4:=Lh hx4;obtain⟨x1,hx1,hr1⟩:=hx4.key16 1 qO;have hk1l:=Da.bP K9 N 1 qO;obtain⟨o1,c1,rfl,hr1⟩:=hr1;have hsn:=BU (Da.aQ K9 N 1) o1 c1 n qO qO V4 hr1 (HV.out.later (Ks HB2.out HB4.out)) (by rw[hk1l];omega);rw[hk1l]at hsn hx1;have hc1:V4.cell? ⟨gk,1,none⟩=some (.slice o1 32 c1):=by rw[HA4.out.cell];exact hx1
 have hse:=HSE.out V4 HB4.out;have HSN:=Lh hsn;have HNE:=Lh hne;clear hR hn hni hne hx4 hx1 hr1 hk1l hsn;go_upto_region 7 with fail
 apply wp_region_lit;iterate 6 (refine qP ?_)
 refine wpList_plain rfl (fun K hK=>?_);go_simp;refine HSN.out.mono ?_;rintro e V5 ⟨go,q,rfl,hO,hb5⟩;refine hK _ _ ?_;clear hK K HSN hc1 hse hws;have HO:=Lh hO;have HA5:=Lh (HA4.out.later hb5 HA4.out.lt);have HX5:=Lh (HX4.out.later hb5);have HB5:=Lh (Ks HB4.out hb5);clear hO hb5;iterate 5 (refine qP ?_)
 have HLW:=Lh (HLZ.out V5 HB5.out);obtain⟨LA,hLA⟩:=qM ((iV xs (some ⟨go,0,none⟩) PT).toArray);have HBT:Hid (Tryz.prog.built 106 [(0,.agg FA),(1,.pointer (some ⟨go,0,none⟩)),(2,.int .i64 PT)]=some LA):=Lh (by rw[<-HFA.out,<-hLA];exact KZ HS5.out _ _);have HLS:Hid ((Tryz.prog.info? 106).map (·.size)=some LA.size):=Lh (by rw[mt,<-hLA,uD HS5.out]);have HLO:Hid (LA.all (·.oneCell')=true):=Lh (by rw[<-hLA];exact FE HS5.out _ _);have HLQ:Hid (ZL.size=LA.size):=Lh (by rw[HL7.out,<-hLA,uD HS5.out]);have HFA5:Hid (V5.heap[gk]? =some (.cells FA 82 (0,0))):=Lh (by have:=HA5.out;unfold Arr at this;rw[HFA.out]at this;exact this);have HFIN:Hid (Ly16 A K9 N p (iV xs (some ⟨go,0,none⟩) PT) .nilIface (V5.setRow (g+1) LA)):=Lh ⟨uD HS5.out _ _,FE HS5.out _ _,.inl ⟨by unfold Da.fH;rw[if_pos H0.out,HK.out],rfl,xs,go,q,by rw[HTT.out],HS5.out,xD HX5.out HLW.out (by rw[HL7.out];omega),by rw[HNE.out];exact zt HO.out HLW.out qD qD LA⟩⟩;have HBF:Hid (Below W.heap.size W (V5.setRow (g+1) LA)):=Lh ((Ks HB2.out HB5.out).trans (aA (by have:=HG.out;omega)));have HLAE:=Lh hLA;clear hLA;go_upto_region 10 with fail
 apply wp_region_lit;refine wpList_load_row rfl 82 (.tmp 10) rfl gk rfl 82 FA (0,0) _ HFA5.out Tryz.underlying82 rfl HFS.out ?_;iterate 2 (refine qP ?_)
 refine bN rfl 106 _ rfl [(0,.agg FA),(1,.pointer (some ⟨go,0,none⟩)),(2,.int .i64 PT)] (by simp[Act.eval]) _ HBT.out ?_;refine wpList_store_rowTo rfl 106 (.tmp 6) (.tmp 48) rfl rfl (g+1) LA rfl rfl 106 ZL HLW.out HLS.out HLQ.out HLO.out ?_;go_wp2_with fail;refine bodyPost_ret (aD rfl _ _ (g+1) 106 LA (0,0) _ rfl (setRow_heap _ _ _ _ _ _ HLW.out) Tryz.underlying106 rfl HLS.out) rfl ?_;exact⟨_,_,by rw[HLAE.out];rfl,HFIN.out,HBF.out⟩
theorem j5(A:Nat->Addr)(W:World)(oK:Option Addr)(cK:Nat)(K9:BL)(N:Int)(p:Pm15)(hK9:RowIs W oK (bytesV K9) cK)(hKl:K9.length<=100)(hN:bG N)(hok:p.ok)(hV:Cds W)(hE:E16 W A):
  Calls Tryz.prog 42 #[.slice oK K9.length cK,.int .i64 N,.agg (pmA p)] W fun e w'=>∃L v,e=.returned (.tuple #[.agg L.toArray,v])/\Ly16 A K9 N p L v w'/\Below W.heap.size W w':=C8 _ rfl rH _ rfl rc KY A W oK cK K9 N p hK9 hKl hN hok hV hE
theorem Ly16.later{A:Nat->Addr}{K:BL}{N:Int}{p:Pm15}{L:List Value}{v:Value}{W W':World}(h:Ly16 A K N p L v W)(hb:Below W.heap.size W W'):Ly16 A K N p L v W':=by
 obtain⟨h1,h2,h3|h3⟩:=h
 ·exact⟨h1,h2,.inl ⟨h3.1,h3.2.1,h3.2.2.later hb⟩⟩
 ·exact⟨h1,h2,.inr ⟨h3.1,h3.2.1.later hb,h3.2.2⟩⟩
theorem PZ{xs:List Value}(h:Sl5 xs)(o:Option Addr)(n:Int)(i:Nat)(hi:i<5):(iV xs o n)[i]? =xs[i]? :=by
 unfold iV;rw[List.getElem?_append_left (by rw[h.len];exact hi)]
theorem wS{xs:List Value}(h:Sl5 xs)(o:Option Addr)(n:Int):(iV xs o n)[5]? =some (.pointer o):=by
 unfold iV;rw[List.getElem?_append_right (by rw[h.len];omega),h.len];rfl
theorem P9{xs:List Value}(h:Sl5 xs)(o:Option Addr)(n:Int):(iV xs o n)[6]? =some (.int .i64 n):=by
 unfold iV;rw[List.getElem?_append_right (by rw[h.len];omega),h.len];rfl
theorem Da.gK{K:BL}{N:Int}{p:Pm15}(h:Da.fH K N p=0):Da.aU p=0/\Da.dN (Da.aj K.length) (Da.inR N)=0:=by
 unfold Da.fH at h;by_cases h0:Da.aU p=0
 ·rw[if_pos h0]at h;exact⟨h0,h⟩
 ·rw[if_neg h0]at h;exact absurd ((Da.dW (Da.fO p)).1 h) h0
theorem Da.qW{K:BL}{N:Int}{p:Pm15}(h:Da.fH K N p≠0)(f:Nat->Nat):Da.a6 p (if Da.dN (Da.aj K.length) (Da.inR N)=0 then f 0 else Da.dN (Da.aj K.length) (Da.inR N))≠0:=by
 unfold Da.fH at h;unfold Da.a6;by_cases h0:Da.aU p=0
 ·rw[if_pos h0]at h⊢;rw[if_neg h];exact h
 ·rw[if_neg h0]at h⊢;exact h
theorem qX{A:Nat->Addr}{K:BL}{N:Int}{p:Pm15}{W:World}{v:Value}(h:SeV A p (Da.dN (Da.aj K.length) (Da.inR N)) W v)(hr:Da.fH K N p≠0)(f:Nat):SeV A p (if Da.dN (Da.aj K.length) (Da.inR N)=0 then f else Da.dN (Da.aj K.length) (Da.inR N)) W v:=by
 rcases h with h|⟨h0,rfl⟩
 ·exact .inl h
 ·refine .inr ⟨h0,?_⟩;unfold Da.fH at hr;rw[if_pos h0]at hr;rw[if_neg hr]
theorem Da.FG{K:BL}{N:Int}{p:Pm15}(i:Int)(h:Da.fH K N p=0):(if Da.a6 p (Da.dE K N p i)=0 then Da.rU K N p i.toNat else 0)=Da.jI (Da.sbk (Da.aQ K N 1) (Da.bw (Da.n16 p))) (Da.n16 p) (4^Da.bw (Da.n16 p)) i:=by
 obtain⟨h0,h1⟩:=Da.gK h;unfold Da.a6 Da.dE;rw[if_pos h0,if_pos h1];unfold Da.iQ Da.jI;by_cases hi:Da.inO (Da.n16 p) i=true
 ·rw[if_pos hi,if_pos rfl,if_pos hi];rfl
 ·rw[if_neg hi,if_neg qO,if_neg hi]
theorem tF(K9:BL)(N:Int)(p:Pm15)(hr:Da.Right15 p)(L:List Value)(W:World)(h:Ly16At K9 N p L W):
  Calls Tryz.prog 83 #[.agg L.toArray] W fun e w'=>e=.returned (.int .i64 p.se)/\Below W.heap.size W w':=by
 obtain⟨xs,go,q,rfl,h5,hx,hO⟩:=h;have hn:=Da.pO hr;have hn4:=Da.iy hr;obtain⟨n,hne⟩:=qM (Da.n16 p);obtain⟨T,hT⟩:=qM (Da.ae p.sz);rw[hne]at hn hn4 hO;rw[hT]at hn⊢;obtain⟨g,hg⟩:=qM W.heap.size;obtain⟨FL,hFL⟩:=qM ((iV xs (some ⟨go,0,none⟩) (T:Int)).toArray);obtain⟨W1,hW1⟩:=qM (W.alloc (.cells FL 106));have hA1:Arr W1 g 106 (iV xs (some ⟨go,0,none⟩) (T:Int)):=by unfold Arr;rw[hFL,<-hW1,<-hg];exact World.alloc_heap_new W _
 have hb1:Below W.heap.size W W1:=by rw[<-hW1];exact aH _ _
 obtain⟨CC,hC⟩:∃CC:World->Prop,(fun v=>Below W1.heap.size W1 v)=CC:=⟨_,rfl⟩;have HCm:Hid (∀v,CC v->Below W1.heap.size W1 v):=Lh fun v hv=>by rw[<-hC]at hv;exact hv
 have HCi:Hid (∀v,Below W1.heap.size W1 v->CC v):=Lh fun v hv=>by rw[<-hC];exact hv
 have hCC:CC {W1 with drawn:=W1.drawn+1}:=HCi.out _ (Kit.dn' W1 1);have HC5:Hid (∀v,CC v->v.cell? ⟨g,5,none⟩=some (.pointer (some ⟨go,0,none⟩))):=Lh fun v hv=>by rw[(hA1.later (HCm.out v hv) hA1.lt).cell,wS h5]
 have HC6:Hid (∀v,CC v->v.cell? ⟨g,6,none⟩=some (.int .i64 (T:Int))):=Lh fun v hv=>by rw[(hA1.later (HCm.out v hv) hA1.lt).cell,P9 h5]
 have HSZ:Hid (∀v,CC v->Calls Tryz.prog 131 #[.pointer (some ⟨go,0,none⟩)] v fun e w'=>e=.returned (.int .i64 (n:Int))/\w'=v):=Lh fun v hv=>xq go q _ n v (hO.later (Ks hb1 (HCm.out v hv)))
 have hws:IntKind.i64.wrap ((n:Int)-(T:Int))=p.se:=by rw[IntKind.wrap_i64];have:=hr.e0;have:=hr.e1;omega
 have HB1:=Lh hb1;have HW1:=Lh hW1;have HG:=Lh hg;rw[hFL];clear hn hn4 hO hx h5 hA1 hb1 hW1 hC hne hT hg hFL hr;go_enter Tryz.func83,Tryz.ntmps83
 go_upto_region 1 with fail
 rw[HW1.out,HG.out];refine wp_region_held (S:=CC) qK ?_;refine aI (i:=0) (x:=.pointer (some ⟨g,5,none⟩)) rfl rfl qK qK qK qI (Or.inl ⟨qK,fun w hw=>qG⟩) hCC ?_;simp only[qA,qZ,qC];refine aI (i:=1) (x:=.pointer (some ⟨go,0,none⟩)) rfl rfl qK qK qK qI (Or.inl ⟨qK,fun w hw=>by have hc:=HC5.out w hw;(go_simp<;>with_reducible rfl)⟩) hCC ?_;simp only[qA,qZ,qC];refine aI (i:=3) (x:=.pointer (some ⟨g,6,none⟩)) rfl rfl qK qK qK qI (Or.inl ⟨qK,fun w hw=>qG⟩) hCC ?_;simp only[qA,qZ,qC];refine aI (i:=4) (x:=.int .i64 (T:Int)) rfl rfl qK qK qK qI (Or.inl ⟨qK,fun w hw=>by have hc:=HC6.out w hw;(go_simp<;>with_reducible rfl)⟩) hCC ?_;simp only[qA,qZ,qC];refine dF (i:=2) qK rfl qK (fun K hK=>?_);go_simp;refine(HSZ.out _ hCC).mono ?_;rintro e Y1 ⟨rfl,rfl⟩;refine hK _ _ hCC ?_;clear hK K HSZ;refine aI (i:=5) (x:=.int .i64 p.se) rfl rfl qK qK qK qI (Or.inl ⟨qK,fun w hw=>qG⟩) hCC ?_;simp only[qA,qZ,qC];refine aI (i:=6) (x:=.int .i64 p.se) rfl rfl qK qK qK qI (Or.inl ⟨qK,fun w hw=>qG⟩) hCC ?_;simp only[qA,qZ,qC];refine wpAnyH_done qK ?_ _;have HB2:=Lh (Ks HB1.out (HCm.out _ hCC));clear hCC;go_wp2_with fail;go_ret;exact⟨rfl,HB2.out⟩
theorem FH(ZL:Array Value)(hZL:oP.toArray=ZL)(hzl:∀w,Sem.run Tryz.prog (zeroValue 106) w=.ok (.agg ZL) w)(A:Nat->Addr)(W:World)(oK:Option Addr)(cK:Nat)(K9:BL)(N:Int)(p:Pm15)(i:Int)(hK9:RowIs W oK (bytesV K9) cK)(hKl:K9.length<=100)(hN:bG N)(hi:bG i)(hok:p.ok)(hV:Cds W)(hE:E16 W A):
  Calls Tryz.prog 59 #[.slice oK K9.length cK,.int .i64 N,.agg (pmA p),.int .i64 i] W fun e w'=>∃v,e=.returned (.tuple #[.int .i64 ((if Da.a6 p (Da.dE K9 N p i)=0 then Da.rU K9 N p i.toNat else 0:Nat):Int),v])/\SeV A p (Da.dE K9 N p i) w' v/\Below W.heap.size W w':=by
 obtain⟨PV,hPV⟩:∃PV:Nat,(if Da.a6 p (Da.dE K9 N p i)=0 then Da.rU K9 N p i.toNat else 0)=PV:=⟨_,rfl⟩;rw[hPV];have HPV:=Lh hPV;clear hPV;obtain⟨g,hg⟩:=qM W.heap.size;obtain⟨PA,hPA⟩:=qM (pmA p);obtain⟨W1,hW1⟩:=qM (W.alloc (.cells PA 24));have hb1:Below W.heap.size W W1:=by rw[<-hW1];exact aH _ _
 have hP1:W1.heap[g]? =some (.cells PA 24 (0,0)):=by rw[<-hW1,<-hg];exact World.alloc_heap_new W _
 have hly:=j5 A W1 oK cK K9 N p (hK9.later hb1) hKl hN hok (hV.later hb1) (hE.later hb1);have HPS:Hid ((Tryz.prog.info? 24).map (·.size)=some PA.size):=Lh (by rw[<-hPA];exact aM);rw[hPA]at hly⊢;obtain⟨lk,hlk⟩:=qM K9.length;rw[hlk]at hly⊢;have HLY:=Lh hly;have HP1:=Lh hP1;have HB1:=Lh hb1;have HW1:=Lh hW1;have HG:=Lh hg;have HV:=Lh hV;have HE:=Lh hE;have HZL:=Lh hZL;have hnn:=dO;clear hly hP1 hb1 hW1 hg hV hE hZL hK9 hKl hN hi hok hPA hlk;go_enter Tryz.func59,Tryz.ntmps59
 go_upto_region 1 with fail
 rw[HW1.out,HG.out];apply wp_region_lit;iterate 2 (refine qP ?_)
 refine wpList_load_row rfl 24 (.tmp 6) rfl g rfl 24 PA (0,0) _ HP1.out Tryz.underlying24 rfl HPS.out ?_;refine wpList_plain rfl (fun K hK=>?_);go_simp;refine HLY.out.mono ?_;rintro e V2 ⟨L,v,rfl,hly,hb2⟩;refine hK _ _ ?_;clear hK K HLY;obtain⟨gl,hgl⟩:=qM V2.heap.size;obtain⟨FL,hFL⟩:=qM L.toArray;obtain⟨V3,hV3⟩:=qM (V2.alloc (.cells ZL 106));have hz3:V3.heap[gl]? =some (.cells ZL 106 (0,0)):=by rw[<-hV3,<-hgl];exact World.alloc_heap_new V2 _
 obtain⟨V4,hV4⟩:=qM (V3.setRow gl FL);have hA4:Arr V4 gl 106 L:=by rw[<-hV4];unfold Arr;rw[hFL];exact setRow_heap _ _ _ _ _ _ hz3
 have hb4:Below V2.heap.size V2 V4:=by rw[<-hV4,<-hV3];exact(aH _ _).trans (aA (Nat.le_of_eq hgl))
 have HLS:Hid ((Tryz.prog.info? 106).map (·.size)=some FL.size):=Lh (by rw[mt,<-hFL,hly.1]);have HLQ:Hid (ZL.size=FL.size):=Lh (by rw[<-hFL,hly.1,<-HZL.out];rfl);have HLO:Hid (FL.all (·.oneCell')=true):=Lh (by rw[<-hFL];exact hly.2.1);have hcs:=(hly.later hb4).2.2;have HA4:=Lh hA4;have HZ3:=Lh hz3;have HV3:=Lh hV3;have HV4:=Lh hV4;have HGL:=Lh hgl;have HFL:=Lh hFL;have HB4:=Lh (Ks (Ks HB1.out hb2) hb4);have HCS:=Lh hcs;rw[hFL];clear hly hb2 hgl hFL hV3 hz3 hV4 hA4 hb4 hcs;iterate 4 (refine qP ?_)
 rw[HV3.out,HGL.out];refine wpList_store_rowTo rfl 106 (.tmp 10) (.tmp 17) rfl rfl gl FL rfl rfl 106 ZL HZ3.out HLS.out HLQ.out HLO.out ?_;rw[HV4.out];clear HV3 HV4 HZ3;refine qP ?_;rcases HCS.out with ⟨hr,rfl,xs,go,q,rfl,h5,hx,hO⟩|⟨hr,hsv,hn1,hn2⟩
 rotate_left
 ·have HF1:Hid (PV=0):=Lh (by rw[<-HPV.out];exact if_neg (Da.qW hr (fun _=>Da.iQ (Da.n16 p) i)));have HF2:Hid (SeV A p (Da.dE K9 N p i) V4 v):=Lh (qX hsv hr _);clear hr hsv HCS;go_wp2_with fail;refine bodyPost_ret (results_tmp2 rfl _ _ _) rfl ?_;exact⟨v,by rw[HF1.out];rfl,HF2.out,HB4.out⟩
 have h0:=Da.gK hr;have hn4:=Da.iy (Da.cN h0.1);have hto:=xu go q (Da.aQ K9 N 1) (Da.n16 p) qO i A V4 hO (HV.out.later HB4.out) (HE.out.later HB4.out).e11;have hpv:=Da.FG (K:=K9) (N:=N) (p:=p) i hr;rw[HPV.out]at hpv;rw[<-hpv]at hto;obtain⟨ob,hob⟩:=qM (Da.iQ (Da.n16 p) i);rw[hob]at hto;have HF2:Hid (∀w',SeV A p (Da.dE K9 N p i) w' (eD A ob)):=Lh fun w'=>.inr ⟨h0.1,by unfold Da.dE;rw[if_pos h0.2,hob]⟩
 have hc5:V4.cell? ⟨gl,5,none⟩=some (.pointer (some ⟨go,0,none⟩)):=by rw[HA4.out.cell,wS h5]
 have HTO:=Lh hto;clear hr h5 hx hO h0 hn4 hto hpv hob HCS;go_upto_region 4 with fail
 apply wp_region_lit;iterate 3 (refine qP ?_)
 refine wpList_plain rfl (fun K hK=>?_);go_simp;refine HTO.out.mono ?_;rintro e V5 ⟨rfl,hb5⟩;refine hK _ _ ?_;clear hK K HTO hc5;have HB5:=Lh (Ks HB4.out hb5);clear hb5;go_wp2_with fail;refine bodyPost_ret (results_tmp2 rfl _ _ _) rfl ?_;exact⟨eD A ob,rfl,HF2.out _,HB5.out⟩
theorem tG(A:Nat->Addr)(W:World)(oK:Option Addr)(cK:Nat)(K9:BL)(N:Int)(p:Pm15)(i:Int)(hK9:RowIs W oK (bytesV K9) cK)(hKl:K9.length<=100)(hN:bG N)(hi:bG i)(hok:p.ok)(hV:Cds W)(hE:E16 W A):
  Calls Tryz.prog 59 #[.slice oK K9.length cK,.int .i64 N,.agg (pmA p),.int .i64 i] W fun e w'=>∃v,e=.returned (.tuple #[.int .i64 ((if Da.a6 p (Da.dE K9 N p i)=0 then Da.rU K9 N p i.toNat else 0:Nat):Int),v])/\SeV A p (Da.dE K9 N p i) w' v/\Below W.heap.size W w':=FH _ rfl rc A W oK cK K9 N p i hK9 hKl hN hi hok hV hE
