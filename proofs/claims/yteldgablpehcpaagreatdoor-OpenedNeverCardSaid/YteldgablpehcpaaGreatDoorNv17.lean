/- Nv17 -/
import Derived.Test.YteldgablpehcpaaGreatDoorYN
import Derived.Test.YteldgablpehcpaaGreatDoorAn17
set_option linter.unusedVariables false
set_option linter.unusedSimpArgs false
set_option maxRecDepth 100000
set_option maxHeartbeats 8000000
namespace Go.Proofs.YteldgablpehcpaaGreatDoor
open Go.RowKit
theorem Da.Op17.size{K:List UInt8}{N:Int}{p:Pm15}{S:List (List UInt8)}{R:Nat}{F:List UInt8}{g:Nat}{E C:List Int}(h:Da.Op17 K N p S R F g E C)(h0:Da.a6 p R=0):(F.length:Int)=p.sz:=by
 obtain⟨hb,rfl⟩:=Da.iq h0;have hR:=Da.cN hb;rcases h with ⟨h1,h2,_⟩|⟨_,_,h2,_⟩|⟨_,V,_,_,_,rfl,_⟩
 ·rw[<-h2]at h1;exact absurd h0 h1
 ·omega
 ·have h1:=hR.s0;have h2:=pn p.sz.toNat;rw[List.length_take,iM _ _ _ qN,List.take_length,db];omega
theorem Da.Rs17.cases{K:List UInt8}{N:Int}{p:Pm15}{S:List (List UInt8)}{D:List UInt8}{Q:Nat}{G:List UInt8}(h:Da.Rs17 K N p S D Q G):(Da.a6 p Q≠0/\G=[])∨(Da.aU p=0/\Q=0/\Da.sha G=D/\(G.length:Int)=p.sz):=by
 obtain⟨R,F,g,E,C,hop,⟨h1,h2,h3⟩|⟨h1,h2,h3,h4⟩|⟨h1,h2,h3,h4⟩⟩:=h
 ·exact .inl ⟨by rw[h2];exact h1,h3⟩
 ·refine .inl ⟨?_,h4⟩;unfold Da.a6;rw[if_pos (Da.iq h1).1,h3];omega
 ·exact .inr ⟨(Da.iq h1).1,h3,by rw[h4];exact h2,by rw[h4];exact hop.size h1⟩
def Cm(kv:Value)(n:Int)(fv:Value)(p:Pm15):List Value:=[kv,.int .i64 n,fv]++pmL p
theorem Kk:(Tryz.prog.info? 26).map (·.size)=some 9:=qK
theorem F5:(Tryz.prog.info? 28).map (·.size)=some 32:=qK
theorem Kl(xs ys:List UInt8)(hx:xs.length=32)(hy:ys.length=32)(w:World):(Op.equalIn 10000 28 (.agg (bytesV xs).toArray) (.agg (bytesV ys).toArray)).run Tryz.prog w=.ok (xs==ys) w:=
 run_equalIn_bytes (P:= Tryz.prog) w 9998 28 5 32 cQ Tryz.underlying5 (fun w=>by
  obtain⟨i0,hi,_,hz1,_⟩:=info_parts ao;simp[sizeOf,typeInfo,hi,hz1]) xs ys hx hy
theorem nv17_any(A:Nat->Addr)(MK F:List UInt8)(ok oF:Option Addr)(ck cF:Nat)(N:Int)(p:Pm15)(oS:Option Addr)(cS:Nat)(S:List (List UInt8))(D:List UInt8)(hD:D.length=32)(w:World)
  (hK:RowIs w ok (bytesV MK) ck) (hS:RbIs w oS S cS) (hN:bG N) (hok:p.ok) (hV:Cds w) (hR:Rds w) (hE:E17 w A) (hc4:w.cell? ⟨1,0,none⟩=some (.iface 302 (.pointer (some (A 4))))):
  Calls Tryz.prog 5 #[.agg (mdA (.slice ok MK.length ck) N (.slice oF F.length cF) p),.slice oS S.length cS,.agg (bytesV D).toArray] w fun e w'=>e=.returned (.bool true)/\Below w.heap.size w w':=by
 obtain⟨g,hg⟩:∃g,w.heap.size=g:=⟨_,rfl⟩;obtain⟨MA,hMA⟩:∃MA,mdA (.slice ok MK.length ck) N (.slice oF F.length cF) p=MA:=⟨_,rfl⟩;obtain⟨DA,hDA⟩:∃DA,(bytesV D).toArray=DA:=⟨_,rfl⟩;obtain⟨W1,hW1⟩:∃W1,(w.alloc (.cells MA 26)).alloc (.cells DA 28)=W1:=⟨_,rfl⟩;have hb1:Below w.heap.size w W1:=by rw[<-hW1];exact Ks (aH _ _) (aH _ _)
 have hM1:Arr W1 g 26 (Cm (.slice ok MK.length ck) N (.slice oF F.length cF) p):=by
  have h1:Arr (w.alloc (.cells MA 26)) g 26 (Cm (.slice ok MK.length ck) N (.slice oF F.length cF) p):=by rw[<-hMA,<-hg];exact World.alloc_heap_new w _
  rw[<-hW1];exact h1.alloc _
 have hD1:W1.heap[g+1]? =some (.cells DA 28 (0,0)):=by rw[<-hW1,<-hg];exact ff _ _ _ _
 have HMA:Hid (∀v,Below W1.heap.size W1 v->Arr v g 26 (Cm (.slice ok MK.length ck) N (.slice oF F.length cF) p)):=Lh fun v hv=>hM1.later hv hM1.lt
 have HM:Hid (∀v,Below W1.heap.size W1 v->v.heap[g]? =some (.cells MA 26 (0,0))):=Lh fun v hv=>by
  have:=hM1.later hv hM1.lt;unfold Arr at this;rw[show(Cm (.slice ok MK.length ck) N (.slice oF F.length cF) p).toArray=MA from hMA]at this;exact this
 have HDD:Hid (∀v,Below W1.heap.size W1 v->v.heap[g+1]? =some (.cells DA 28 (0,0))):=Lh fun v hv=>(hv.block (g+1) (aE.1 hD1).1).trans hD1
 have HC0:Hid (∀v,Below W1.heap.size W1 v->v.cell? ⟨g,0,none⟩=some (.slice ok MK.length ck)):=Lh fun v hv=>by rw[(hM1.later hv hM1.lt).cell];rfl
 have HC1:Hid (∀v,Below W1.heap.size W1 v->v.cell? ⟨g,1,none⟩=some (.int .i64 N)):=Lh fun v hv=>by rw[(hM1.later hv hM1.lt).cell];rfl
 have HC3:Hid (∀v,Below W1.heap.size W1 v->v.cell? ⟨g,3,none⟩=some (.int .i64 p.sz)):=Lh fun v hv=>by rw[(hM1.later hv hM1.lt).cell];rfl
 have HRG:Hid (∀v,Below W1.heap.size W1 v->v.rangeAt g 3 (pmL p)):=Lh fun v hv=>(hM1.later hv hM1.lt).range 3 (pmL p) fun j u hu=>by
  unfold Cm;rw[List.getElem?_append_right qS];simpa using hu
 have HLG:Hid (∀v,Calls Tryz.prog 8 #[.agg MA] v fun e w'=>e=.returned (.bool (Da.CJ MK F p))/\Below v.heap.size v w'):=Lh fun v=>by rw[<-hMA];exact Ee MK F ok oF ck cF N p v
 have HAL:=Lh (Cl A W1 (hV.later hb1) (hE.later hb1));obtain⟨n,hn⟩:∃n,S.length=n:=⟨_,rfl⟩;have HFW:Hid (∀v,Below W1.heap.size W1 v->Calls Tryz.prog 9 #[.slice oS n cS] v fun e w'=>∃b,e=.returned (.bool b)/\(b=true->kg S)/\w'=v):=Lh fun v hv=>yW S n cS oS v (hS.later (Ks hb1 hv)) hn
 have HRE:Hid (∀v,Below W1.heap.size W1 v->MK.length<=100->kg S->Calls Tryz.prog 12 #[.slice ok MK.length ck,.int .i64 N,.agg (pmL p).toArray,.slice oS n cS,.agg DA] v fun e w'=>∃Q G x u,Da.Rs17 MK N p S D Q G/\e=.returned (.tuple #[x,u])/\RowV G x w'/\SeV A p Q w' u/\Below v.heap.size v w'):=Lh fun v hv h1 h2=>by
  have:=xF A v ok ck MK N p oS cS S D hD (hK.later (Ks hb1 hv)) (hS.later (Ks hb1 hv)) h1 h2 hN hok (hV.later (Ks hb1 hv)) (hE.later (Ks hb1 hv)) (((Ks hb1 hv).cell (de hc4)).trans hc4);rw[hn,hDA]at this;exact this
 have HMS:Hid ((Tryz.prog.info? 26).map (·.size)=some MA.size):=Lh (by rw[Kk,<-hMA];rfl);have HDS:Hid ((Tryz.prog.info? 28).map (·.size)=some DA.size):=Lh (by rw[F5,<-hDA];simp[hD]);have HPC:Hid ((Tryz.prog.info? 24).map (·.size)=some (pmL p).length):=Lh aM;have HB1:=Lh hb1;have HG:=Lh hg;have HW1:=Lh hW1;have HRD:=Lh hR;have HD:=Lh hD;have HDA:=Lh hDA;rw[hMA,hn,hDA];obtain⟨lm,hlm⟩:∃lm,MK.length=lm:=⟨_,rfl⟩;have HLM:=Lh hlm;rw[hlm]at HC0 HRE;have hs1:=hS.le;rw[hn]at hs1;have hs2:=hs1.2;unfold maxLen at hs2;have hnn:=dO;clear hg hMA hDA hW1 hb1 hM1 hD1 hK hS hN hok hV hR hE hc4 hn hlm hD;go_enter Tryz.func5,Tryz.ntmps5
 go_upto_region 1 with fail
 rw[HW1.out,HG.out];go_wp2_with fail;refine HAL.out.mono ?_;rintro e W2 ⟨rfl,hb2⟩;have HB2:=Lh hb2;clear hb2 HAL;go_upto_region 3 with fail
 apply wp_region_lit;refine wpList_load_row rfl 26 (.tmp 3) rfl g rfl 26 MA (0,0) _ (HM.out W2 HB2.out) Tryz.underlying26 rfl HMS.out ?_;refine wpList_plain rfl (fun K hK=>?_);go_simp;refine(HLG.out W2).mono ?_;rintro e W3 ⟨rfl,hb3⟩;refine hK _ _ ?_;clear hK K;have HB3:=Lh (Ks HB2.out hb3);clear hb3;obtain⟨lg,hlg⟩:∃lg,Da.CJ MK F p=lg:=⟨_,rfl⟩;rw[hlg];cases lg with
 |true=>
  clear hlg;go_wp2_with fail;go_ret;exact⟨rfl,Ks HB1.out HB3.out⟩
 |false=>
  have hKl:MK.length<=100:=by
   unfold Da.CJ at hlg;simp only[Bool.or_eq_false_iff,decide_eq_false_iff_not]at hlg;omega
  have HKL:=Lh hKl;clear hlg hKl;refine qP ?_;refine BigFrame.wpList_want (by rfl) (fun K hK=>?_);go_simp;refine hK _ _ ?_;clear hK K;refine BigFrame.wpList_want (by rfl) (fun K hK=>?_);go_simp;refine(HFW.out W3 HB3.out).mono ?_;rintro e w' ⟨b,rfl,hfw,rfl⟩;refine hK _ _ ?_;clear hK K;cases b with
  |false=>
   go_wp2_with fail;go_ret;exact⟨rfl,Ks HB1.out HB3.out⟩
  |true=>
   have hre:=HRE.out w' HB3.out (by rw[<-HLM.out];exact HKL.out) (hfw rfl);have HRR:=Lh hre;clear hfw hre;go_upto_region 5 with fail
   have hc0:=HC0.out w' HB3.out;have hc1:=HC1.out w' HB3.out;apply wp_region_lit;iterate 5 (refine qP ?_)
   refine wpList_load_mid rfl 24 (.tmp 23) rfl g 3 rfl (pmL p) _ (HRG.out w' HB3.out) Tryz.underlying24 rfl HPC.out ?_;refine qP ?_;refine wpList_load_row rfl 28 (.tmp 5) rfl (g+1) rfl 28 DA (0,0) _ (HDD.out w' HB3.out) cQ rfl HDS.out ?_;refine wpList_plain rfl (fun K hK=>?_);go_simp;refine HRR.out.mono ?_;rintro e W4 ⟨Q,G,x,u,hrs,rfl,hx,hu,hb4⟩;refine hK _ _ ?_;clear hK K HRR hc0 hc1;obtain⟨ox,cx,rfl,hrx⟩:=hx;have HB4:=Lh (Ks HB3.out hb4);clear hb4;iterate 5 (refine qP ?_)
   rcases hrs.cases with ⟨hse,rfl⟩|⟨h0,rfl,hsh,hsz⟩
   ·obtain⟨hn1,hn2⟩:=wY hu hse;clear hse hrs hu hrx;go_wp2_with fail;go_ret;exact⟨rfl,Ks HB1.out HB4.out⟩
   obtain rfl:u=.nilIface:=by
    rcases hu with ⟨h,_⟩|⟨_,h⟩
    ·exact absurd h0 h
    ·exact h
   obtain⟨lx,hlx⟩:∃lx,G.length=lx:=⟨_,rfl⟩;rw[hlx]at hsz⊢;have hlb:G.length<=2000:=by
    have:=(Da.cN h0).s1;omega
   obtain⟨CC,hC⟩:∃CC:World->Prop,(fun v=>Below W4.heap.size W4 v)=CC:=⟨_,rfl⟩;have HCm:Hid (∀v,CC v->Below W4.heap.size W4 v):=Lh fun v hv=>by rw[<-hC]at hv;exact hv
   have HCi:Hid (∀v,Below W4.heap.size W4 v->CC v):=Lh fun v hv=>by rw[<-hC];exact hv
   have hCC:CC {W4 with drawn:=W4.drawn+1}:=HCi.out _ (Kit.dn' W4 1);have HDX:Hid (∀v,CC v->v.heap[g+1]? =some (.cells DA 28 (0,0))):=Lh fun v hv=>HDD.out v (Ks HB4.out (HCm.out v hv))
   have HCX:Hid (∀v,CC v->v.cell? ⟨g,3,none⟩=some (.int .i64 (lx:Int))):=Lh fun v hv=>by rw[hsz];exact HC3.out v (Ks HB4.out (HCm.out v hv))
   have HOF:Hid (∀v,CC v->Calls Tryz.prog 25 #[.slice ox lx cx] v fun e w'=>e=.returned (.agg DA)/\Below v.heap.size v w'):=Lh fun v hv=>by
    have:=mO G ox cx v (hrx.later (HCm.out v hv)) (HRD.out.later (Ks HB1.out (Ks HB4.out (HCm.out v hv)))) qO;rw[hlx,hsh,HDA.out]at this;exact this
   have HEQ:Hid (∀v,(Op.equalIn 10000 28 (.agg DA) (.agg DA)).run Tryz.prog v=.ok true v):=Lh fun v=>by
    rw[<-HDA.out];have:=Kl D D HD.out HD.out v;rw[beq_self_eq_true]at this;exact this
   clear hC hsz hlb hsh hrs hrx hu h0 hlx;go_upto_region 8 with fail
   refine wp_region_held (S:=CC) qK ?_;refine aI (i:=0) (x:=.slice ox lx cx) rfl rfl qK qK qK qI (Or.inl ⟨qK,fun w hw=>qG⟩) hCC ?_;simp only[qA,qZ,qC];refine aI (i:=2) (x:=.agg DA) rfl rfl qK qK qK qI (Or.inl ⟨qK,fun w hw=>mz (t:= 28) (fr:=(0,0)) rfl rfl (HDX.out w hw) cQ rfl HDS.out⟩) hCC ?_;simp only[qA,qZ,qC];refine dF (i:=1) qK rfl qK (fun K hK=>?_);go_simp;refine(HOF.out _ hCC).mono ?_;rintro e Y1 ⟨rfl,hby⟩;have hC1:=HCi.out _ (Ks (HCm.out _ hCC) hby);refine hK _ _ hC1 ?_;clear hK K HOF hby
   refine aI (i:=3) (x:=.bool true) rfl rfl qK qK qK qI (Or.inl ⟨qK,fun w hw=>by have hc:=HEQ.out w;(go_simp<;>with_reducible rfl)⟩) hC1 ?_;simp only[qA,qZ,qC];refine aI (i:=4) (x:=.bool true) rfl rfl qK qK qK qI (Or.inl ⟨qK,fun w hw=>qG⟩) hC1 ?_;simp only[qA,qZ,qC];refine aI (i:=5) (x:=.slice ox lx cx) rfl rfl qK qK qK qI (Or.inl ⟨qK,fun w hw=>qG⟩) hC1 ?_;simp only[qA,qZ,qC];refine aI (i:=6) (x:=.int .i64 (lx:Int)) rfl rfl qK qK qK qI (Or.inl ⟨qK,fun w hw=>qG⟩) hC1 ?_;simp only[qA,qZ,qC];refine aI (i:=7) (x:=.pointer (some ⟨g,3,none⟩)) rfl rfl qK qK qK qI (Or.inl ⟨qK,fun w hw=>qG⟩) hC1 ?_;simp only[qA,qZ,qC];refine aI (i:=8) (x:=.pointer (some ⟨g,3,none⟩)) rfl rfl qK qK qK qI (Or.inl ⟨qK,fun w hw=>qG⟩) hC1 ?_;simp only[qA,qZ,qC];refine aI (i:=9) (x:=.int .i64 (lx:Int)) rfl rfl qK qK qK qI (Or.inl ⟨qK,fun w hw=>by have hc:=HCX.out w hw;(go_simp<;>with_reducible rfl)⟩) hC1 ?_;simp only[qA,qZ,qC];refine aI (i:=10) (x:=.bool true) rfl rfl qK qK qK qI (Or.inl ⟨qK,fun w hw=>qG⟩) hC1 ?_;simp only[qA,qZ,qC];refine aI (i:=11) (x:=.bool true) rfl rfl qK qK qK qI (Or.inl ⟨qK,fun w hw=>qG⟩) hC1 ?_;simp only[qA,qZ,qC];refine aI (i:=12) (x:=.bool true) rfl rfl qK qK qK qI (Or.inl ⟨qK,fun w hw=>qG⟩) hC1 ?_;simp only[qA,qZ,qC];refine wpAnyH_done qK ?_ _;have HB6:=Lh (Ks HB1.out (Ks HB4.out (HCm.out _ hC1)));clear hCC hC1;go_wp2_with fail;go_ret;exact⟨rfl,HB6.out⟩
end Go.Proofs.YteldgablpehcpaaGreatDoor
