/- Cg15 -/
import Derived.Test.YteldgablpehcpaaGreatDoorPl15
import Derived.Defers
import Derived.Recover
import Derived.Laws.Pointers
import Derived.Shelf.LaysM
import Derived.Test.YteldgablpehcpaaGreatDoorChecked
set_option linter.unusedVariables false
set_option linter.unusedSimpArgs false
set_option maxRecDepth 100000
set_option maxHeartbeats 8000000
namespace Go.Proofs.YteldgablpehcpaaGreatDoor
open Go.RowKit
theorem uC:(Tryz.prog.info? 151).map (·.size)=some 6:=qK
theorem ff(w:World)(o1:Obj)(xs:Array Value)(t:TypeId):((w.alloc o1).alloc (.cells xs t)).heap[w.heap.size+1]? =some (.cells xs t (0,0)):=by
 have h:=World.alloc_heap_new (w.alloc o1) (.cells xs t);have e:(w.alloc o1).heap.size=w.heap.size+1:=qS;rw[e]at h;exact h
theorem rX(p:Pm15)(w:World):Calls Tryz.prog 78 #[.agg (pmA p)] w fun e w'=>e=.returned (.agg (pmA p))/\Below w.heap.size w w':=by
 obtain⟨g,hg⟩:=qM w.heap.size;obtain⟨W2,hW2⟩:=qM ((w.alloc (.cells (pmA p) 24)).alloc (.cells (pmA p) 151));have hA:W2.heap[g+1]? =some (.cells (pmA p) 151 (0,0)):=by rw[<-hW2,<-hg];exact ff _ _ _ _
 have hb:Below w.heap.size w W2:=by rw[<-hW2];exact Ks (aH _ _) (aH _ _)
 rw[hg]at hb;have HB:=Lh hb;have HA:=Lh hA;have HG:=Lh hg;obtain⟨sz,se,sp,pe,pa,re⟩:=p;unfold pmA at hW2⊢;dsimp only at hW2⊢;have HW2:=Lh hW2;clear hb hA hW2 hg;go_enter Tryz.func78,Tryz.ntmps78
 go_wp2_with fail;rw[HW2.out,HG.out];refine bodyPost_ret (results_cell_row rfl _ _ (g+1) 151 _ (0,0) _ rfl HA.out Tryz.underlying151 rfl uC) rfl ?_;exact⟨rfl,HB.out⟩
def tP(A:Nat->Addr)(p:Pm15):Array Value:=#[txt15 (Da.js 1),.int .i64 0,.int .i64 2000,ec A 8,txt15 (Da.js 2),.int .i64 0,.int .i64 8,ec A 18,txt15 (Da.js 3),.int .i64 1,.int .i64 12,ec A 1,txt15 (Da.js 4),.int .i64 1,.int .i64 10000,ec A 1,txt15 (Da.js 5),.int .i64 1,.int .i64 p.pe,ec A 1,txt15 (Da.js 6),.int .i64 0,.int .i64 5,ec A 1]
theorem Ol:(Tryz.prog.info? 155).map (·.size)=some 24:=qK
def Yh:Array Value:=#[.string ⟨#[]⟩,.int .i64 0,.int .i64 0,.nilIface,.string ⟨#[]⟩,.int .i64 0,.int .i64 0,.nilIface,.string ⟨#[]⟩,.int .i64 0,.int .i64 0,.nilIface,.string ⟨#[]⟩,.int .i64 0,.int .i64 0,.nilIface,.string ⟨#[]⟩,.int .i64 0,.int .i64 0,.nilIface,.string ⟨#[]⟩,.int .i64 0,.int .i64 0,.nilIface]
theorem ze(A:Nat->Addr)(p:Pm15)(w:World)(hE:E15 w A):Calls Tryz.prog 79 #[.agg (pmA p)] w fun e w'=>e=.returned (.agg (tP A p))/\Below w.heap.size w w':=by
 obtain⟨g,hg⟩:=qM w.heap.size;obtain⟨Z,hZ⟩:∃Z:Array Value,Yh=Z:=⟨_,rfl⟩;obtain⟨W2,hW2⟩:=qM ((w.alloc (.cells (pmA p) 24)).alloc (.cells Z 155));have hz:W2.heap[g+1]? =some (.cells Z 155 (0,0)):=by rw[<-hW2,<-hg];exact ff _ _ _ _
 have hb2:Below w.heap.size w W2:=by rw[<-hW2];exact Ks (aH _ _) (aH _ _)
 have hpe:W2.cell? ⟨g,3,none⟩=some (.int .i64 p.pe):=by
  rw[<-hW2,<-hg,(aH (w.alloc (.cells (pmA p) 24)) _).cell qS];unfold World.cell?;rw[World.alloc_heap_new];rfl
 obtain⟨C,hC⟩:=qM (tP A p);obtain⟨W3,hW3⟩:=qM (W2.setRow (g+1) C);have hA:W3.heap[g+1]? =some (.cells C 155 (0,0)):=by rw[<-hW3];exact setRow_heap _ _ _ _ _ _ hz
 have hb:Below w.heap.size w W3:=by rw[<-hW3];exact hb2.trans (aA qO)
 rw[hg]at hb;have hE2:=hE.later hb2;have c0:=hE2.c0;have c7:=hE2.c7;have c17:=hE2.c17;have hsz:(Tryz.prog.info? 155).map (·.size)=some C.size:=by rw[Ol,<-hC];rfl
 have hone:C.all (·.oneCell')=true:=by rw[<-hC];simp[tP,txt15,ec,Value.oneCell']
 have HB:=Lh hb;have HA:=Lh hA;have HG:=Lh hg;have HZ:=Lh hz;have HSZ:=Lh hsz;have HZS:Hid (Z.size=C.size):=Lh (by rw[<-hZ,<-hC];rfl);have HON:=Lh hone;rw[<-hZ]at hW2;obtain⟨sz,se,sp,pe,pa,re⟩:=p;unfold tP txt15 ec at hC;unfold pmA at hW2⊢;unfold Yh at hW2;dsimp only[Da.js,Nat.reduceSub]at hW2 hC hpe⊢;have HW2:=Lh hW2;have HW3:=Lh hW3;have HC:=Lh hC;clear hb hA hW2 hg hE hE2 hZ hz hb2 hC hW3 hsz hone;go_enter Tryz.func79,Tryz.ntmps79
 go_upto_region 1 with fail
 rw[HW2.out,HG.out];apply wp_region_lit;repeat (refine qP ?_)
 refine wpList_store_row rfl 155 (.tmp 2) (.tmp 17) rfl (g+1) C rfl (by rw[<-HC.out];rfl) 155 Z HZ.out HSZ.out HZS.out HON.out ?_;rw[HW3.out];go_wp2_with fail;refine bodyPost_ret (results_cell_row rfl _ _ (g+1) 155 _ (0,0) _ rfl HA.out Tryz.underlying155 rfl HSZ.out) rfl ?_;exact⟨by rw[<-HC.out];rfl,by rw[HG.out];exact HB.out⟩
theorem Da.CN(n:Int):32<=Da.ae n:=by
 unfold Da.ae gi n0;split<;>simp only[List.length_cons,List.length_nil]<;>omega
def Da.wM(i:Nat):Int:=match i with
 |0=>0
 |1=>0
 |2=>1
 |3=>1
 |4=>1
 |_=>0
def Da.wN(p:Pm15)(i:Nat):Int:=match i with
 |0=>2000
 |1=>8
 |2=>12
 |3=>10000
 |4=>p.pe
 |_=>5
def Da.CP(p:Pm15)(i:Nat):Prop:=Da.wM i<=Da.cH p (i+1)/\Da.cH p (i+1)<=Da.wN p i
theorem Da.Om{p:Pm15}{i:Nat}(hi:i<6)(h:∀j,j<i->Da.CP p j)(hn:¬Da.CP p i):Da.aU p=i+1:=by
 have ht:=Da.CN p.sz;have g:∀j,j<i->Da.wM j<=Da.cH p (j+1)/\Da.cH p (j+1)<=Da.wN p j:=h;unfold Da.CP at hn
 match i,hi with
 |0,_=>
  simp only[Da.wM,Da.wN,Da.cH]at hn;unfold Da.aU;rw[if_pos qO]
 |1,_=>
  have g0:=g 0 qO;simp only[Da.wM,Da.wN,Da.cH]at hn g0;unfold Da.aU;rw[if_neg qO,if_pos qO]
 |2,_=>
  have g0:=g 0 qO;have g1:=g 1 qO;simp only[Da.wM,Da.wN,Da.cH]at hn g0 g1;unfold Da.aU;rw[if_neg qO,if_neg qO,if_pos qO]
 |3,_=>
  have g0:=g 0 qO;have g1:=g 1 qO;have g2:=g 2 qO;simp only[Da.wM,Da.wN,Da.cH]at hn g0 g1 g2;unfold Da.aU;rw[if_neg qO,if_neg qO,if_neg qO,if_pos qO]
 |4,_=>
  have g0:=g 0 qO;have g1:=g 1 qO;have g2:=g 2 qO;have g3:=g 3 qO;simp only[Da.wM,Da.wN,Da.cH]at hn g0 g1 g2 g3;unfold Da.aU;rw[if_neg qO,if_neg qO,if_neg qO,if_neg qO,if_pos qO]
 |5,_=>
  have g0:=g 0 qO;have g1:=g 1 qO;have g2:=g 2 qO;have g3:=g 3 qO;have g4:=g 4 qO;simp only[Da.wM,Da.wN,Da.cH]at hn g0 g1 g2 g3 g4;unfold Da.aU;rw[if_neg qO,if_neg qO,if_neg qO,if_neg qO,if_neg qO,if_pos qO]
 |n+6,h=>omega
theorem Da.Ek{p:Pm15}(g:∀j,j<6->Da.CP p j):Da.aU p=0:=by
 have ht:=Da.CN p.sz;have g0:=g 0 qO;have g1:=g 1 qO;have g2:=g 2 qO;have g3:=g 3 qO;have g4:=g 4 qO;have g5:=g 5 qO;simp only[Da.CP,Da.wM,Da.wN,Da.cH]at g0 g1 g2 g3 g4 g5;unfold Da.aU;rw[if_neg qO,if_neg qO,if_neg qO,if_neg qO,if_neg qO,if_neg qO]
theorem Vt(p:Pm15)(i:Nat)(hi:i<6):(pmL p)[i]? =some (.int .i64 (Da.cH p (i+1))):=by
 match i,hi with
 |0,_|1,_|2,_|3,_|4,_|5,_=>rfl
 |n+6,h=>omega
theorem Em:(Tryz.prog.info? 154).map (·.size)=some 4:=qK
def pY(A:Nat->Addr)(p:Pm15)(i:Nat):Array Value:=#[txt15 (Da.js (i+1)),.int .i64 (Da.wM i),.int .i64 (Da.wN p i),ec A (Da.ef (i+1))]
theorem S8(A:Nat->Addr)(p:Pm15)(W:World):(Instr.index 155 (.agg (tP A p)) (.int .i64 ((0:Nat):Int))).run Tryz.prog W=.ok (.agg (pY A p 0)) W:=qK
theorem S9(A:Nat->Addr)(p:Pm15)(W:World):(Instr.index 155 (.agg (tP A p)) (.int .i64 ((1:Nat):Int))).run Tryz.prog W=.ok (.agg (pY A p 1)) W:=qK
theorem Sa(A:Nat->Addr)(p:Pm15)(W:World):(Instr.index 155 (.agg (tP A p)) (.int .i64 ((2:Nat):Int))).run Tryz.prog W=.ok (.agg (pY A p 2)) W:=qK
theorem Sb(A:Nat->Addr)(p:Pm15)(W:World):(Instr.index 155 (.agg (tP A p)) (.int .i64 ((3:Nat):Int))).run Tryz.prog W=.ok (.agg (pY A p 3)) W:=qK
theorem Sc(A:Nat->Addr)(p:Pm15)(W:World):(Instr.index 155 (.agg (tP A p)) (.int .i64 ((4:Nat):Int))).run Tryz.prog W=.ok (.agg (pY A p 4)) W:=qK
theorem Sd(A:Nat->Addr)(p:Pm15)(W:World):(Instr.index 155 (.agg (tP A p)) (.int .i64 ((5:Nat):Int))).run Tryz.prog W=.ok (.agg (pY A p 5)) W:=qK
theorem Vu(A:Nat->Addr)(p:Pm15)(i:Nat)(hi:i<6)(W:World):(Instr.index 155 (.agg (tP A p)) (.int .i64 (i:Int))).run Tryz.prog W=.ok (.agg (pY A p i)) W:=by
 match i,hi with
 |0,_=>exact S8 A p W
 |1,_=>exact S9 A p W
 |2,_=>exact Sa A p W
 |3,_=>exact Sb A p W
 |4,_=>exact Sc A p W
 |5,_=>exact Sd A p W
 |n+6,h=>omega
structure Ck15(A:Nat->Addr)(p:Pm15)(w:World)(g gv:Nat)(v10:Value)(W:World):Prop where
 ex:∃i:Nat,i<=6/\v10=.int .i64 (i:Int)/\(∀j,j<i->Da.CP p j)
 av:Arr W gv 151 (pmL p)
 b:Below w.heap.size w W
theorem fT(A:Nat->Addr)(W0:World)(p:Pm15)(hok:p.ok)(hE:E15 W0 A):
  Calls Tryz.prog 41 #[.agg (pmA p)] W0 fun e w'=>∃v,e=.returned v/\WrV A p w' v/\Below W0.heap.size W0 w':=by
 obtain⟨g,hg⟩:=qM W0.heap.size;obtain⟨W1,hW1⟩:=qM (W0.alloc (.cells (pmA p) 24));have hA1:Arr W1 g 24 (pmL p):=by rw[<-hW1,<-hg];exact World.alloc_heap_new W0 _
 have hb1:Below W0.heap.size W0 W1:=by rw[<-hW1];exact aH _ _
 have HV:=Lh (rX p W1);have HE:=Lh hE;have HA1:=Lh hA1;have HB1:=Lh hb1;have HW1:=Lh hW1;have HG:=Lh hg;have HOK:=Lh hok;clear hE hA1 hb1 hW1 hg hok;obtain⟨P,hP⟩:=qM (pmA p);rw[hP]at HV HW1⊢;have HP:=Lh hP;clear hP;go_enter Tryz.func41,Tryz.ntmps41
 go_upto_region 1 with fail
 rw[HW1.out,HG.out];apply wp_region_lit;refine wpList_load_row rfl 24 (.tmp 1) rfl g rfl 24 P (0,0) _ (by rw[<-HP.out];exact HA1.out) Tryz.underlying24 rfl (by rw[<-HP.out];exact aM) ?_;refine wpList_plain rfl (fun K hK=>?_);go_simp;refine HV.out.mono ?_;rintro e W2 ⟨rfl,hb2⟩;refine hK _ _ ?_;clear hK K HV;obtain⟨gv,hgv⟩:=qM W2.heap.size;obtain⟨W3,hW3⟩:=qM (W2.alloc (.cells #[.int .i64 0,.int .i64 0,.int .i64 0,.int .i64 0,.int .i64 0,.int .i64 0] 151));have hz3:W3.heap[gv]? =some (.cells #[.int .i64 0,.int .i64 0,.int .i64 0,.int .i64 0,.int .i64 0,.int .i64 0] 151 (0,0)):=by rw[<-hW3,<-hgv];exact World.alloc_heap_new W2 _
 obtain⟨W4,hW4⟩:=qM (W3.setRow gv P);have hA4:Arr W4 gv 151 (pmL p):=by rw[<-hW4,<-HP.out];exact setRow_heap _ _ _ _ _ _ hz3
 have hb4:Below W2.heap.size W2 W4:=by rw[<-hW4,<-hW3];exact(aH _ _).trans (aA (Nat.le_of_eq hgv))
 have HA4:=Lh hA4;have HP4:=Lh (((HA1.out.later hb2 HA1.out.lt).later hb4 (HA1.out.later hb2 HA1.out.lt).lt));have HB4:=Lh (Ks (Ks HB1.out hb2) hb4);have HZ3:=Lh hz3;have HW3:=Lh hW3;have HW4:=Lh hW4;have HGV:=Lh hgv;have HBN:=Lh (ze A p W4 (HE.out.later HB4.out));clear hA4 hb4 hz3 hW3 hW4 hgv hb2;refine qP ?_;rw[HW3.out,HGV.out];refine wpList_store_row rfl 151 (.tmp 3) (.tmp 7) rfl gv P rfl rfl 151 _ HZ3.out (by rw[<-HP.out];exact uC) (by rw[<-HP.out];rfl) (by rw[<-HP.out];exact dw _) ?_;rw[HW4.out];rw[HP.out]at HBN;obtain⟨BA,hBA⟩:=qM (tP A p);rw[hBA]at HBN;have HBA:=Lh hBA;clear hBA;go_upto_region 2 with fail
 apply wp_region_lit;refine wpList_load_row rfl 24 (.tmp 1) rfl g rfl 24 P (0,0) _ (by rw[<-HP.out];exact HP4.out) Tryz.underlying24 rfl (by rw[<-HP.out];exact aM) ?_;refine wpList_plain rfl (fun K hK=>?_);go_simp;refine HBN.out.mono ?_;rintro e W5 ⟨rfl,hb5⟩;refine hK _ _ ?_;clear hK K HBN;have HA5:=Lh (HA4.out.later hb5 HA4.out.lt);have HB5:=Lh (Ks HB4.out hb5);clear hb5;refine qP ?_;go_wp2_with fail;go_loopw [10] (fun v10 W=>Ck15 A p W0 g gv v10 W) (fun v _=>6-(intOf v).toNat)
 case atStart=>
  exact⟨⟨0,qO,rfl,fun j hj=>absurd hj qO⟩,HA5.out,HB5.out⟩
 case round=>
  obtain⟨⟨i,hi,rfl,hin⟩,hav,hbl⟩:=hrel;have HIN:=Lh hin;have HAV:=Lh hav;have HBL:=Lh hbl;clear hin hav hbl;by_cases h6:i<6
  ·have d0:decide ((i:Int)<6)=true:=decide_eq_true qO;have hix:=fun W=>Vu A p i h6 W
   rw[HBA.out]at hix;obtain⟨BI,hBI⟩:=qM (pY A p i);rw[hBI]at hix;have HBI:=Lh hBI;clear hBI;go_upto_region 4 with fail
   obtain⟨gb,hgb⟩:=qM wr.heap.size;obtain⟨W6,hW6⟩:=qM (wr.alloc (.cells #[.string ⟨#[]⟩,.int .i64 0,.int .i64 0,.nilIface] 154));have hz6:W6.heap[gb]? =some (.cells #[.string ⟨#[]⟩,.int .i64 0,.int .i64 0,.nilIface] 154 (0,0)):=by rw[<-hW6,<-hgb];exact World.alloc_heap_new wr _
   obtain⟨W7,hW7⟩:=qM (W6.setRow gb BI);have hh7:W7.heap[gb]? =some (.cells BI 154 (0,0)):=by rw[<-hW7];exact setRow_heap _ _ _ _ _ _ hz6
   have hb7:Below wr.heap.size wr W7:=by rw[<-hW7,<-hW6];exact(aH _ _).trans (aA (Nat.le_of_eq hgb))
   have hA7:=HAV.out.later hb7 HAV.out.lt;have hB7:=Ks HBL.out hb7;have HZ6:=Lh hz6;have HW6:=Lh hW6;have HW7:=Lh hW7;have HGB:=Lh hgb;have HBS:Hid (BI.size=4):=Lh (by rw[<-HBI.out];rfl);have HB1C:Hid (BI.all (·.oneCell')=true):=Lh (by rw[<-HBI.out];simp[pY,txt15,ec,Value.oneCell']);clear hz6 hW6 hW7 hgb;apply wp_region_lit;refine qP ?_;refine qP ?_;refine qP ?_;rw[HW6.out,HGB.out];refine qP ?_;refine wpList_store_row rfl 154 (.tmp 5) (.tmp 13) rfl gb BI rfl rfl 154 _ HZ6.out (by rw[HBS.out];exact Em) (by rw[HBS.out];rfl) HB1C.out ?_;rw[HW7.out];have hbi:=HBI.out;obtain⟨X,hX⟩:=qM (Da.cH p (i+1));obtain⟨lo,hlo⟩:=qM (Da.wM i);obtain⟨hh,hhi⟩:=qM (Da.wN p i);obtain⟨FF,hFF⟩:∃FF:ByteArray,(⟨(Da.js (i+1)).toArray⟩:ByteArray)=FF:=⟨_,rfl⟩;obtain⟨ad,had⟩:=qM (A (Da.ef (i+1)-1));unfold pY txt15 ec at hbi;rw[hlo,hhi,hFF,had]at hbi;have hcv:W7.cell? ⟨gv,i,none⟩=some (.int .i64 X):=by rw[hA7.cell,Vt p i h6,hX]
   have hc0:W7.cell? ⟨gb,0,none⟩=some (.string FF):=by unfold World.cell?;rw[hh7,<-hbi];rfl
   have hc1:W7.cell? ⟨gb,1,none⟩=some (.int .i64 lo):=by unfold World.cell?;rw[hh7,<-hbi];rfl
   have hc2:W7.cell? ⟨gb,2,none⟩=some (.int .i64 hh):=by unfold World.cell?;rw[hh7,<-hbi];rfl
   have hc3:W7.cell? ⟨gb,3,none⟩=some (.iface 302 (.pointer (some ad))):=by unfold World.cell?;rw[hh7,<-hbi];rfl
   have HA7:=Lh hA7;have HB7:=Lh hB7;have HX:=Lh hX;have HLO:=Lh hlo;have HHI:=Lh hhi;have HFF:=Lh hFF;have HAD:=Lh had;clear hh7 hb7 hA7 hB7 hbi hX hlo hhi hFF had;have hbd:0<=(i:Int)/\(i:Int)<6:=qO;clear hix;have hfail:¬(lo<=X/\X<=hh)->∀k,WrV A p ((W7.drewN k).alloc (.cells #[.string FF,.int .i64 X,.iface 302 (.pointer (some ad))] 159)) (.iface 157 (.pointer (some ⟨W7.heap.size,0,none⟩)))/\Below W0.heap.size W0 ((W7.drewN k).alloc (.cells #[.string FF,.int .i64 X,.iface 302 (.pointer (some ad))] 159)):=by
    intro hn k;have hbad:Da.aU p=i+1:=Da.Om h6 HIN.out (by unfold Da.CP;rw[HX.out,HLO.out,HHI.out];exact hn);refine⟨.inr ⟨qO,W7.heap.size,rfl,?_⟩,?_⟩
    ·unfold WrAt txt15 ec;rw[hbad,HX.out,HFF.out,HAD.out];exact World.alloc_heap_new (W7.drewN k) _
    ·exact Ks (Ks HB7.out (Kit.dn' W7 k)) (aH _ _)
   have HFAIL:=Lh hfail;clear hfail;by_cases c1:X<lo
   ·have d1:decide (X<lo)=true:=decide_eq_true c1;go_upto_region 5 with fail
    go_quiet (fail)
    go_upto_region 6 with fail
    go_region
    go_wp2_with fail;go_ret;exact⟨_,rfl,HFAIL.out qO _⟩
   ·have d1:decide (X<lo)=false:=decide_eq_false c1;by_cases c2:hh<X
    ·have d2:decide (X>hh)=true:=decide_eq_true c2;have d3:decide (hh<X)=true:=decide_eq_true c2;go_upto_region 5 with fail
     go_quiet (fail)
     go_upto_region 6 with fail
     go_region
     go_wp2_with fail;go_ret;exact⟨_,rfl,HFAIL.out qO _⟩
    ·have d2:decide (X>hh)=false:=decide_eq_false c2;have d3:decide (hh<X)=false:=decide_eq_false c2;have hw:IntKind.i64.wrap ((i:Int)+1)=(i:Int)+1:=by rw[IntKind.wrap_i64];omega
     go_upto_region 5 with fail
     go_quiet (fail)
     go_wp2_with fail;go_roundw
     case rel=>
      refine⟨⟨i+1,qO,by go_num,fun j hj=>?_⟩,?_,?_⟩
      ·by_cases e:j=i
       ·subst e;unfold Da.CP;rw[HX.out,HLO.out,HHI.out];omega
       ·exact HIN.out j qO
      ·exact HA7.out.drewN _
      ·exact Kit.dn HB7.out _
     case measure=>simp[intOf];omega
  ·have e6:i=6:=qO;have hnone:Da.aU p=0:=Da.Ek (by rw[<-e6];exact HIN.out);have HN:=Lh hnone;have d0:decide ((i:Int)<6)=false:=decide_eq_false qO;clear hnone e6;go_wp2_with fail;go_ret;exact⟨_,rfl,.inl ⟨HN.out,rfl⟩,HBL.out⟩
theorem jc(v:World):(binOp .neq 34 .nilIface .nilIface).run Tryz.prog v=.ok (.bool false) v:=qK
theorem fU(b:Nat)(v:World):(binOp .neq 34 (jQ b) .nilIface).run Tryz.prog v=.ok (.bool true) v:=qK
theorem jL(A:Nat->Addr)(W0:World)(p:Pm15)(hok:p.ok)(hE:E15 W0 A):
  Calls Tryz.prog 20 #[.agg (pmA p)] W0 fun e w'=>∃v,e=.returned (.tuple #[.int .i64 (if Da.aU p=0 then(Da.ae p.sz:Int)else 0),v])/\WrV A p w' v/\Below W0.heap.size W0 w':=by
 obtain⟨g,hg⟩:=qM W0.heap.size;obtain⟨W1,hW1⟩:=qM (W0.alloc (.cells (pmA p) 24));have hA1:Arr W1 g 24 (pmL p):=by rw[<-hW1,<-hg];exact World.alloc_heap_new W0 _
 have hb1:Below W0.heap.size W0 W1:=by rw[<-hW1];exact aH _ _
 have HCK:=Lh (fT A W1 p hok (hE.later hb1));have HA1:=Lh hA1;have HB1:=Lh hb1;have HW1:=Lh hW1;have HG:=Lh hg;obtain⟨TT,hTT⟩:∃TT:Int,(if Da.aU p=0 then(Da.ae p.sz:Int)else 0)=TT:=⟨_,rfl⟩;rw[hTT];have HTT:=Lh hTT;clear hE hA1 hb1 hW1 hg hok hTT;obtain⟨P,hP⟩:=qM (pmA p);rw[hP]at HCK HW1⊢;have HP:=Lh hP;clear hP;go_enter Tryz.func20,Tryz.ntmps20
 go_upto_region 1 with fail
 rw[HW1.out,HG.out];apply wp_region_lit;refine wpList_load_row rfl 24 (.tmp 1) rfl g rfl 24 P (0,0) _ (by rw[<-HP.out];exact HA1.out) Tryz.underlying24 rfl (by rw[<-HP.out];exact aM) ?_;refine wpList_plain rfl (fun K hK=>?_);go_simp;refine HCK.out.mono ?_;rintro e W2 ⟨v,rfl,hv,hb2⟩;refine hK _ _ ?_;clear hK K HCK;have HA2:=Lh (HA1.out.later hb2 HA1.out.lt);have HB2:=Lh (Ks HB1.out hb2);clear hb2;refine qP ?_;rcases hv with ⟨h0,rfl⟩|⟨h0,b,rfl,hw⟩
 ·have hr:=Da.cN h0;have hT:=vU p.sz.toNat W2 (by have:=hr.s0;have:=hr.s1;omega);rw[show((p.sz.toNat:Nat):Int)=p.sz by have:=hr.s0;omega,show((gi (nbk p.sz.toNat):Nat):Int)=TT by rw[<-HTT.out,if_pos h0];rfl]at hT;have hc0:W2.cell? ⟨g,0,none⟩=some (.int .i64 p.sz):=by rw[HA2.out.cell];rfl
  have HT:=Lh hT;have H0:=Lh h0;have hq:=jc;clear hT h0 hr;go_wp2_with fail;refine HT.out.mono ?_;rintro e W3 ⟨rfl,hb3⟩;go_wp2_with fail;go_ret2
  exact⟨_,rfl,.inl ⟨H0.out,rfl⟩,Ks HB2.out hb3⟩
 ·have HW:=Lh hw;have H0:=Lh h0;have hT0:TT=0:=by rw[<-HTT.out,if_neg h0]
  have HT0:=Lh hT0;have hq:=fU b;unfold jQ at hq⊢;clear hw h0 hT0;go_wp2_with fail;go_ret2
  rw[HT0.out];exact⟨_,rfl,.inr ⟨H0.out,b,rfl,HW.out⟩,HB2.out⟩
