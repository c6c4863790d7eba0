/- An17 -/
import Derived.Test.YteldgablpehcpaaGreatDoorAm17
set_option linter.unusedVariables false
set_option linter.unusedSimpArgs false
set_option maxRecDepth 100000
set_option maxHeartbeats 8000000
namespace Go.Proofs.YteldgablpehcpaaGreatDoor
open Go.RowKit
structure AlP(PA:Array Value)(SL:Value->Array Value)(ST:L8)(T:Array Value)(w0:World)(C:Nat->Bool)(b:Act)(v:World):Prop where
 size:b.tmps.size=33
 defers:b.defers=[]
 below:Below w0.heap.size w0 v
 rest:∀s,(∀i,i<9->D17 i≠s)/\s≠3->b.tmps.getD s undef=T.getD s undef
 come:∀i,i<7∨i=8∨i=9->C i=true
 post:∃y y5 p,b.tmps.getD 13 undef=.agg (SL y)/\b.tmps.getD 2 undef=.pointer (some ⟨p,0,none⟩)/\v.heap[p]? =some (.cells (SL y) 57 (0,0))/\RbV ST y v/\b.tmps.getD 7 undef=.tuple #[.agg (SL y5),.nilIface]
 nil7:C 7=true->b.tmps.getD 14 undef=.nilIface
 nil10:C 10=true->b.tmps.getD 3 undef=.nilIface
theorem AlP.put{PA:Array Value}{SL:Value->Array Value}{ST:L8}{T:Array Value}{w0:World}{C:Nat->Bool}{b:Act}{v:World}(h:AlP PA SL ST T w0 C b v){i d:Nat}{x:Value}(hd:d<33)(hf:∀s,(∀i,i<9->D17 i≠s)/\s≠3->d≠s)(h13:d≠13)(h2:d≠2)(h7:d≠7)
  (hi:(i=7/\d=14)∨(i=10/\d=3)) (hx7:i=7->x=.nilIface) (hx10:i=10->x=.nilIface):AlP PA SL ST T w0 (fun k=>decide (k=i)||C k) (b.put (some d) x) v:=by
 obtain⟨y,y5,p,q1,q2,q3,q4,q5⟩:=h.post;refine⟨by rw[Rg.nJ];exact h.size,h.defers,h.below,fun s hs=>by rw[Rg.bl _ _ _ _ (hf s hs)];exact h.rest s hs,fun k hk=>by rw[h.come k hk,Bool.or_true],⟨y,y5,p,by rw[Rg.bl _ _ _ _ h13];exact q1,by rw[Rg.bl _ _ _ _ h2];exact q2,q3,q4,by rw[Rg.bl _ _ _ _ h7];exact q5⟩,fun hc=>?_,fun hc=>?_⟩
 ·rcases hi with ⟨rfl,rfl⟩|⟨rfl,rfl⟩
  ·rw[Rg.iz _ _ _ (by rw[h.size];exact hd)];exact hx7 rfl
  ·rw[Rg.bl _ _ _ _ qD];exact h.nil7 (by simpa using hc)
 ·rcases hi with ⟨rfl,rfl⟩|⟨rfl,rfl⟩
  ·rw[Rg.bl _ _ _ _ qD];exact h.nil10 (by simpa using hc)
  ·rw[Rg.iz _ _ _ (by rw[h.size];exact hd)];exact hx10 rfl
theorem Ck{P:Program}{o:Oper}{a:Act}{w w':World}{s d:TypeId}{x:Operand}{y:Value}(ho:o.op=.convert s d x)(h:(convert s d (a.eval x)).run P w=.ok y w'):(execOp a.eval o).run P w=.ok (.value y) w':=by
 simp[execOp,ho,h,Result.andThen]
theorem Kj(w:World):Sem.run Tryz.prog (zeroValue 24) w=.ok (.agg (pmA ⟨0,0,0,0,0,0⟩)) w:=qK
theorem F2(w:World):Sem.run Tryz.prog (zeroValue 57) w=.ok (.agg (jJ (.slice none 0 0) Da.gJ Da.gJ).toArray) w:=qK
theorem yX(v:World):(binOp .eql 34 .nilIface .nilIface).run Tryz.prog v=.ok (.bool true) v:=qK
theorem Pp(v:World):(binOp .eql 9 (.string ⟨lG.toArray⟩) (.string ⟨#[104,105]⟩)).run Tryz.prog v=.ok (.bool true) v:=qK
theorem TR(ZP:Array Value)(hZP:pmA ⟨0,0,0,0,0,0⟩=ZP)(hzp:∀w,Sem.run Tryz.prog (zeroValue 24) w=.ok (.agg ZP) w)
  (Z:Array Value) (hZ:(jJ (.slice none 0 0) Da.gJ Da.gJ).toArray=Z) (hzs:∀w,Sem.run Tryz.prog (zeroValue 57) w=.ok (.agg Z) w)
  (ZR:Array Value) (hZR:#[.int .i64 0,.slice none 0 0,.slice none 0 0]=ZR) (hzr:∀w,Sem.run Tryz.prog (zeroValue 39) w=.ok (.agg ZR) w)
  (A:Nat->Addr) (w:World) (hV:Cds w) (hE:E17 w A):
  Calls Tryz.prog 7 #[] w fun e w'=>e=.returned (.bool true)/\Below w.heap.size w w':=by
 obtain⟨g,hg⟩:=qM w.heap.size;obtain⟨PA,hPA⟩:=qM (pmA pR);obtain⟨W1,hW1⟩:=qM (w.alloc (.cells ZP 24));have hz1:W1.heap[g]? =some (.cells ZP 24 (0,0)):=by rw[<-hW1,<-hg];exact World.alloc_heap_new w _
 obtain⟨W2,hW2⟩:=qM (W1.setRow g PA);have hP2:W2.heap[g]? =some (.cells PA 24 (0,0)):=by rw[<-hW2];exact setRow_heap _ _ _ _ _ _ hz1
 have hb2:Below w.heap.size w W2:=by rw[<-hW2,<-hW1];exact(aH _ _).trans (aA (Nat.le_of_eq hg))
 have HPS:Hid ((Tryz.prog.info? 24).map (·.size)=some PA.size):=Lh (by rw[<-hPA];exact aM);have HPZ:Hid (ZP.size=PA.size):=Lh (by rw[<-hZP,<-hPA];rfl);have HPO:Hid (PA.all (·.oneCell')=true):=Lh (by rw[<-hPA];kernel_rfl);have HBT:Hid (∀w,(Instr.build 24 #[(0,.int .i64 2),(2,.int .i64 1),(3,.int .i64 1),(4,.int .i64 1)]).run Tryz.prog w=.ok (.agg PA) w):=Lh fun w=>by rw[<-hPA];exact F0 w
 have HPH:Hid (∀v,Below W2.heap.size W2 v->v.heap[g]? =some (.cells PA 24 (0,0))):=Lh fun v hb=>(hb.block g (aE.1 hP2).1).trans hP2
 obtain⟨ST,hST⟩:=qM (Da.dx (List.replicate 16 0) 0 lG pR);have hl:ST.length=33:=by rw[<-hST,Da.fe,FZ]
 have h16:∀i,i<ST.length->(bi ST i).length=16:=fun i hi=>by
  rw[<-hST]at hi⊢;rw[Da.fe]at hi;exact Da.lA _ _ _ _ (by rw[FZ];omega) i hi
 have hfew:kg ST:=⟨qO,fun b hb=>by
  obtain⟨i,hi,e⟩:=List.getElem_of_mem hb;have:=h16 i hi;unfold bi at this;rw[List.getD_eq_getElem?_getD,List.getElem?_eq_getElem hi,e]at this;have h2:b.length=16:=this;omega⟩
 obtain⟨R,hR⟩:=qM (Da.mth ST);obtain⟨FD,hFD⟩:=qM (Da.sha lG);have hrl:R.length=32:=by rw[<-hR];exact Da.gE ST
 have hfl:FD.length=32:=by rw[<-hFD];exact Da.ai _
 obtain⟨SL,hSL⟩:∃SL:Value->Array Value,(fun y=>(jJ y R FD).toArray)=SL:=⟨_,rfl⟩;have HSE:Hid (∀(v:World)(p1 p2:Nat),Below W2.heap.size W2 v->RowIs v (some ⟨p1,0,none⟩) (bytesV (List.replicate 16 0)) 16->RowIs v (some ⟨p2,0,none⟩) (bytesV lG) 2->Calls Tryz.prog 19 #[.slice (some ⟨p1,0,none⟩) 16 16,.int .i64 0,.slice (some ⟨p2,0,none⟩) 2 2,.agg PA] v fun e w'=>∃y,e=.returned (.tuple #[.agg (SL y),.nilIface])/\RbF v.heap.size ST y w'/\Below v.heap.size v w'):=Lh fun v p1 p2 hb h1 h2=>by
  have:=tI A v (some ⟨p1,0,none⟩) 16 (List.replicate 16 0) 0 (some ⟨p2,0,none⟩) 2 lG pR h1 h2 qD qD (by unfold bG;omega) Hj (hV.later (Ks hb2 hb)) (hE.later (Ks hb2 hb)).e;rw[Pn,if_pos rfl,if_pos rfl,if_pos rfl,hST,hR,hFD,hPA]at this;refine this.mono ?_;rintro e w' ⟨y,x,rfl,hy,hx,hbx⟩;obtain rfl:x=.nilIface:=by
   rcases hx with ⟨h,_⟩|⟨_,h⟩
   ·exact absurd sg h
   ·exact h
  exact⟨y,by rw[<-hSL],hy,hbx⟩
 have HOP:Hid (∀(v:World)(p1 cS:Nat)(oS:Option Addr),Below W2.heap.size W2 v->RowIs v (some ⟨p1,0,none⟩) (bytesV (List.replicate 16 0)) 16->RbIs v oS ST cS->Calls Tryz.prog 11 #[.slice (some ⟨p1,0,none⟩) 16 16,.int .i64 0,.agg PA,.slice oS 33 cS] v fun e w'=>∃ox cx n o1 l1 c1 o2 l2 c2,e=.returned (.tuple #[.slice ox 2 cx,.agg #[.int .i64 n,.slice o1 l1 c1,.slice o2 l2 c2],.nilIface])/\RowIs w' ox (bytesV lG) cx/\Below v.heap.size v w'):=Lh fun v p1 cS oS hb h1 h2=>by
  have:=wZ A v (some ⟨p1,0,none⟩) 16 (List.replicate 16 0) 0 pR oS cS ST h1 h2 qD hfew (by unfold bG;omega) Hj (hV.later (Ks hb2 hb)) (hE.later (Ks hb2 hb));rw[hPA,hl]at this;refine this.mono ?_;rintro e w' ⟨Q,F,gq,E,C,x,y,z,v2,hop,rfl,hx,hy,hz,hv,hbx⟩;rw[<-hST]at hop;obtain⟨rfl,rfl⟩:=Kh hop;obtain⟨ox,cx,rfl,hrx⟩:=hx;obtain⟨oy,cy,rfl,_⟩:=hy;obtain⟨oz,cz,rfl,_⟩:=hz;obtain rfl:v2=.nilIface:=by
   rcases hv with ⟨h,_⟩|⟨_,h⟩
   ·exact absurd sg h
   ·exact h
  exact⟨ox,cx,_,oy,_,cy,oz,_,cz,rfl,hrx,hbx⟩
 have HFS:Hid (∀y,(Tryz.prog.info? 57).map (·.size)=some (SL y).size/\Z.size=(SL y).size):=Lh fun y=>by
  rw[<-hSL,<-hZ];exact⟨by rw[rW];simp[ip,hrl,hfl],by simp[ip,hrl,hfl,Da.gJ]⟩
 have HFO:Hid (∀y,y.oneCell'=true->(SL y).all (·.oneCell')=true):=Lh fun y hy=>by rw[<-hSL];exact uB y hy R FD
 have HCY:Hid (∀(v:World)(p:Nat)(y:Value),v.heap[p]? =some (.cells (SL y) 57 (0,0))->v.cell? ⟨p,0,none⟩=some y):=Lh fun v p y h=>by
  rw[<-hSL]at h;have hA:Arr v p 57 (jJ y R FD):=h;rw[hA.cell];rfl
 have HRS:Hid ((Tryz.prog.info? 39).map (·.size)=some 3/\ZR.size=3):=Lh ⟨kE,by rw[<-hZR];rfl⟩;have HZR:=Lh hZR;have HMK:Hid (∀W:World,(Instr.makeSlice 22 (.int .i64 16) (.int .i64 16)).run Tryz.prog W=.ok (.slice (some ⟨W.heap.size,0,none⟩) 16 16) (W.alloc (.cells (bytesV (List.replicate 16 0)).toArray 5))):=Lh Ki;have HRW:Hid (∀(v:World)(l:BL)(n:Nat),l.length=n->n<=100->RowIs (v.alloc (.cells (bytesV l).toArray 5)) (some ⟨v.heap.size,0,none⟩) (bytesV l) n):=Lh fun v l n e hn=>by
  subst e;exact Arr.row (Arr.made v 5 (bytesV l)) (by unfold maxLen;omega)
 have HL:=Lh hl;have H16:=Lh h16;have HG:=Lh hg;have HW1:=Lh hW1;have HW2:=Lh hW2;have HZ1:=Lh hz1;have HB2:=Lh hb2;have hnn:=dO;clear hZP hZ hZR hV hE hg hPA hW1 hz1 hW2 hP2 hb2 hST hl h16 hfew hR hFD hrl hfl hSL;go_enter Tryz.func7,Tryz.ntmps7
 go_upto_region 1 with fail
 apply wp_region_lit;refine wpList_plain rfl (fun K hK=>Rg.kF (.agg PA) (rh rfl (by simp[Act.eval]) (HBT.out _)) (hK _ _ ?_));refine wpList_plain rfl (fun K hK=>?_);go_simp;rw[HW1.out,HG.out];refine hK _ _ ?_;clear hK K;refine wpList_store_rowTo rfl 24 (.tmp 1) (.tmp 6) rfl rfl g PA rfl rfl 24 ZP HZ1.out HPS.out HPZ.out HPO.out ?_;rw[HW2.out];clear HZ1 HW1 HW2 HBT hzp;go_upto_region 2 with fail
 refine Code.wp_mono (Q:=fun e b v=>e=.normal/\∃(p:Nat)(y:Value)(f:Nat->Value),b={tmps:=#[.bool false,.pointer (some ⟨g,0,none⟩),.pointer (some ⟨p,0,none⟩),.nilIface,undef,undef,.agg PA,f 7,f 8,f 9,f 10,f 11,f 12,f 13,f 14,undef,undef,undef,undef,undef,undef,undef,undef,undef,undef,undef,undef,undef,undef,undef,undef,undef,undef],defers:=[]}/\v.heap[p]? =some (.cells (SL y) 57 (0,0))/\RbV ST y v/\Below W2.heap.size W2 v) ?rest ?reg
 case reg=>
  refine Rg.FY qK (fun C b v=>(C 9=false/\C 10=false/\AlJ PA Z SL ST #[.bool false,.pointer (some ⟨g,0,none⟩),undef,undef,undef,undef,.agg PA,undef,undef,undef,undef,undef,undef,undef,undef,undef,undef,undef,undef,undef,undef,undef,undef,undef,undef,undef,undef,undef,undef,undef,undef,undef,undef] W2 C b v)∨AlP PA SL ST #[.bool false,.pointer (some ⟨g,0,none⟩),undef,undef,undef,undef,.agg PA,undef,undef,undef,undef,undef,undef,undef,undef,undef,undef,undef,undef,undef,undef,undef,undef,undef,undef,undef,undef,undef,undef,undef,undef,undef,undef] W2 C b v) qK ?h0 ?step ?fin;case h0=>exact .inl ⟨rfl,rfl,rfl,rfl,Kit.dn' W2 1,fun s _=>rfl,fun i _ h=>(by cases h),fun i _ h=>(by cases h)⟩
  case step=>
   intro i op C b v ho hJ hC hdep;have his:=(aE.1 ho).1;rcases hJ with ⟨hc9,hc10,hJ⟩|hP
   rotate_left
   ·have hi:i=7∨i=10:=by
     have h1:¬(i<7∨i=8∨i=9):=fun h=>by
      have:=hP.come i h;rw[hC]at this;cases this
     have h2:i<11:=by simpa using his
     omega
    rcases hi with rfl|rfl
    ·obtain rfl:=Option.some.inj ho;obtain⟨y,y5,p,h13,h2,hh,hy,h7⟩:=hP.post;have f1:b.tmps[7]?.getD undef=.tuple #[.agg (SL y5),.nilIface]:=(show _=b.tmps.getD 7 undef by simp).trans h7;exact Rg.kF .nilIface (by simp only[execOp];go_simp) (.inr (hP.put qD (fun s hs=>hs.1 7 qD) qD qD qD qD (fun _=>rfl) (fun h=>by cases h)))
    ·obtain rfl:=Option.some.inj ho;have e14:b.eval (.tmp 14)=.nilIface:=hP.nil7 (hdep ⟨7,.data⟩ qS rfl);exact Rg.wp_assign rfl (by rw[e14];exact .inr (hP.put qD (fun s hs e=>hs.2 e.symm) qD qD qD qD (fun h=>by cases h) (fun _=>rfl)))
   match i,his with
   |0,_=>
    obtain rfl:=Option.some.inj ho;exact Rg.kF _ (by have hm:=HMK.out v;simp only[execOp];go_simp) (.inl ⟨hc9,hc10,hJ.put qD (aH v _) ⟨_,rfl,HRW.out v _ 16 rfl qO⟩ (fun h=>qO) (fun h=>qO)⟩)
   |1,_=>
    obtain rfl:=Option.some.inj ho;exact Rg.kF (v':=v.alloc (.cells (bytesV lG).toArray 5)) (.slice (some ⟨v.heap.size,0,none⟩) 2 2) (by simp only[execOp];go_simp;rfl) (.inl ⟨hc9,hc10,hJ.put qD (aH v _) ⟨_,rfl,HRW.out v _ 2 rfl qO,hJ.below.size,(0,0),World.alloc_heap_new _ _⟩ (fun h=>qO) (fun h=>qO)⟩)
   |2,_=>
    obtain rfl:=Option.some.inj ho;obtain⟨p,e,hr,hm,fr,hh⟩:=hJ.good 1 qO (hdep ⟨1,.data⟩ qS rfl);have f1:b.eval (.tmp 9)=.slice (some ⟨p,0,none⟩) 2 2:=e;obtain⟨v',hcv,hsm⟩:=Yq hh 2 2;refine Rg.kF (v':=v') (.slice (some ⟨p,0,none⟩) 2 2) (Ck rfl (by rw[f1];exact hcv)) (.inl ⟨hc9,hc10,(hJ.same hsm hm ⟨_,_,hh⟩).put qD qB ⟨p,rfl,hr.same17 hsm⟩ (fun h=>qO) (fun h=>qO)⟩)
   |3,_=>
    obtain rfl:=Option.some.inj ho;have r1:b.eval (.tmp 1)=.pointer (some ⟨g,0,none⟩):=hJ.rest 1 qD;exact Rg.kF (.agg PA) (mz (t:= 24) (fr:=(0,0)) rfl r1 (HPH.out v hJ.below) Tryz.underlying24 rfl HPS.out) (.inl ⟨hc9,hc10,hJ.put qD qB rfl (fun h=>qO) (fun h=>qO)⟩)
   |4,_=>
    obtain rfl:=Option.some.inj ho;obtain⟨p1,e1,hr1⟩:=hJ.good 0 qO (hdep ⟨0,.data⟩ qS rfl);obtain⟨p2,e2,hr2⟩:=hJ.good 2 qO (hdep ⟨2,.data⟩ qS rfl);have e3:b.tmps.getD 11 undef=.agg PA:=hJ.good 3 qO (hdep ⟨3,.data⟩ qS rfl);have e1:b.eval (.tmp 8)=.slice (some ⟨p1,0,none⟩) 16 16:=e1;have e2:b.eval (.tmp 10)=.slice (some ⟨p2,0,none⟩) 2 2:=e2;have e3:b.eval (.tmp 11)=.agg PA:=e3;have hs:=HSE.out v p1 p2 hJ.below hr1 hr2;refine Rg.Yp (R:=fun x v'=>∃y,x=.tuple #[.agg (SL y),.nilIface]/\RbF v.heap.size ST y v'/\Below v.heap.size v v') rfl (enters_of Tryz.func19 qK rfl) (args:=#[.slice (some ⟨p1,0,none⟩) 16 16,.int .i64 0,.slice (some ⟨p2,0,none⟩) 2 2,.agg PA]) (by simp[e1,e2,e3];rfl) (hs.mono fun e v' ⟨y,h1,h2,h3⟩=>⟨_,h1,y,rfl,h2,h3⟩) ?_;rintro x v' ⟨y,rfl,hy,hbv⟩;refine .inl ⟨hc9,hc10,hJ.put qD hbv trivial (fun _=>⟨y,rfl,hy.rb,fun p hc hp=>hy.apt17 ?_⟩) (fun h=>qO)⟩;obtain⟨p',e',_,hh⟩:=hJ.good 8 qO hc;have e':b.tmps.getD 2 undef=.pointer (some ⟨p',0,none⟩):=e';rw[hp]at e';cases e'
    exact(aE.1 hh).1
   |5,_=>
    obtain rfl:=Option.some.inj ho;obtain⟨y,e,hy,ha⟩:=hJ.yy 4 (.inl rfl) (hdep ⟨4,.data⟩ qS rfl);have e:b.eval (.tmp 12)=.tuple #[.agg (SL y),.nilIface]:=e;exact Rg.wp_move rfl (by rw[e];exact .inl ⟨hc9,hc10,hJ.put qD qB trivial (fun _=>⟨y,rfl,hy,ha⟩) (fun h=>qO)⟩)
   |6,_=>
    obtain rfl:=Option.some.inj ho;obtain⟨y,e,hy,ha⟩:=hJ.yy 5 (.inr (.inl rfl)) (hdep ⟨5,.data⟩ qS rfl);have f1:b.tmps[7]?.getD undef=.tuple #[.agg (SL y),.nilIface]:=(show _=b.tmps.getD 7 undef by simp).trans e;exact Rg.kF (.agg (SL y)) (by simp only[execOp];go_simp) (.inl ⟨hc9,hc10,hJ.put qD qB trivial (fun _=>⟨y,rfl,hy,ha⟩) (fun h=>qO)⟩)
   |7,_=>
    obtain rfl:=Option.some.inj ho;obtain⟨y,e,hy,ha⟩:=hJ.yy 5 (.inr (.inl rfl)) (hdep ⟨5,.data⟩ qS rfl);have f1:b.tmps[7]?.getD undef=.tuple #[.agg (SL y),.nilIface]:=(show _=b.tmps.getD 7 undef by simp).trans e;exact Rg.kF .nilIface (by simp only[execOp];go_simp) (.inl ⟨hc9,hc10,hJ.put qD qB rfl (fun h=>qO) (fun h=>qO)⟩)
   |8,_=>
    obtain rfl:=Option.some.inj ho;refine Rg.kF (v':=v.alloc (.cells Z 57)) (.pointer (some ⟨v.heap.size,0,none⟩)) (by simp only[execOp];go_simp) (.inl ⟨hc9,hc10,hJ.put qD (aH v _) ⟨_,rfl,hJ.below.size,World.alloc_heap_new _ _⟩ (fun h=>qO) (fun _ p e y hy=>?_)⟩);cases e
    exact(hy.apt17 (by rw[HL.out];omega) (fun j hj=>by rw[H16.out j hj];omega)).later (aH v _)
   |9,_=>
    obtain rfl:=Option.some.inj ho;obtain⟨p,e2,hm,hh⟩:=hJ.good 8 qO (hdep ⟨8,.data⟩ qS rfl);obtain⟨y,e13,hy,ha⟩:=hJ.yy 6 (.inr (.inr rfl)) (hdep ⟨6,.data⟩ qS rfl);have e2:b.tmps.getD 2 undef=.pointer (some ⟨p,0,none⟩):=e2;have e13:b.tmps.getD 13 undef=.agg (SL y):=e13;have hap:=ha p (hdep ⟨8,.data⟩ qS rfl) e2;have hone:y.oneCell'=true:=by obtain⟨_,_,rfl,_⟩:=hy;rfl
    have h5:=hdep ⟨5,.phase⟩ qS rfl;obtain⟨y5,e5,_⟩:=hJ.yy 5 (.inr (.inl rfl)) h5;refine wp_store_row 57 (.tmp 2) (.tmp 13) rfl p (SL y) e2 e13 57 Z hh (HFS.out y).1 (HFS.out y).2 (HFO.out y hone) (.inr ⟨hJ.size,hJ.defers,hJ.below.trans (aA hm),fun s hs=>hJ.rest s hs.1,fun k hk=>?_,⟨y,y5,p,e13,e2,setRow_heap _ _ _ _ _ _ hh,hap.set _,e5⟩,fun h7=>?_,fun h10=>?_⟩)
    ·rcases hk with hk|rfl|rfl
     ·match k,hk with
      |0,_=>exact hdep ⟨0,.phase⟩ qS rfl
      |1,_=>exact hdep ⟨1,.phase⟩ qS rfl
      |2,_=>exact hdep ⟨2,.phase⟩ qS rfl
      |3,_=>exact hdep ⟨3,.phase⟩ qS rfl
      |4,_=>exact hdep ⟨4,.phase⟩ qS rfl
      |5,_=>exact hdep ⟨5,.phase⟩ qS rfl
      |6,_=>exact hdep ⟨6,.phase⟩ qS rfl
     ·exact hdep ⟨8,.phase⟩ qS rfl
     ·rfl
    ·exact hJ.good 7 qO h7
    ·have h10:C 10=true:=h10;rw[hc10]at h10;cases h10
   |10,_=>
    have:=hdep ⟨9,.chain⟩ (by obtain rfl:=Option.some.inj ho;simp) rfl;rw[hc9]at this;cases this
   |m+11,h=>exact absurd h qS
  case fin=>
   intro C b v hJ hall;rcases hJ with ⟨hc9,_⟩|hP
   ·have:=hall 9 qS;rw[hc9]at this;cases this
   obtain⟨y,y5,p,h13,h2,hh,hy,h7⟩:=hP.post;have h3:=hP.nil10 (hall 10 qS);refine⟨rfl,p,y,fun i=>b.tmps.getD i undef,?_,hh,hy,hP.below⟩;have hr:=hP.rest;have hs:=hP.size;obtain⟨tm,df⟩:=b;obtain rfl:df=[]:=hP.defers;dsimp only at hs hr h2 h3⊢;have e:=Rg.Mi tm 33 hs;congr 1
   refine e.trans ?_;simp only[show List.range 33=[0,1,2,3,4,5,6,7,8,9,10,11,12,13,14,15,16,17,18,19,20,21,22,23,24,25,26,27,28,29,30,31,32] from rfl,List.map_cons,List.map_nil];rw[h2,h3,hr 0 qD,hr 1 qD,hr 4 qD,hr 5 qD,hr 6 qD,hr 15 qD,hr 16 qD,hr 17 qD,hr 18 qD,hr 19 qD,hr 20 qD,hr 21 qD,hr 22 qD,hr 23 qD,hr 24 qD,hr 25 qD,hr 26 qD,hr 27 qD,hr 28 qD,hr 29 qD,hr 30 qD,hr 31 qD,hr 32 qD];rfl
 rintro e a' W5 ⟨rfl,p,y,f,rfl,hh,hy,hb5⟩;rename_i K0 hK0;show K0 _ _;refine hK0 _ _ ?_;clear hK0 K0;obtain⟨oS,cS,rfl,hrS⟩:=hy;rw[HL.out]at hh;have hcS:=HCY.out W5 p _ hh;have hpl:=(aE.1 hh).1;obtain⟨CC,hC⟩:∃CC:World->Prop,(fun v=>Below W5.heap.size W5 v)=CC:=⟨_,rfl⟩;have HCm:Hid (∀v,CC v->Below W5.heap.size W5 v):=Lh fun v hv=>by rw[<-hC]at hv;exact hv
 have HCi:Hid (∀v,Below W5.heap.size W5 v->CC v):=Lh fun v hv=>by rw[<-hC];exact hv
 have hCC:CC {W5 with drawn:=W5.drawn+1}:=HCi.out _ (Kit.dn' W5 1);have HCS:Hid (∀v,CC v->v.cell? ⟨p,0,none⟩=some (.slice oS 33 cS)):=Lh fun v hv=>((HCm.out v hv).cell (p:=⟨p,0,none⟩) hpl).trans hcS
 have HPH5:Hid (∀v,CC v->v.heap[g]? =some (.cells PA 24 (0,0))):=Lh fun v hv=>HPH.out v (Ks hb5 (HCm.out v hv))
 have HOP5:Hid (∀(v:World)(p1:Nat),CC v->RowIs v (some ⟨p1,0,none⟩) (bytesV (List.replicate 16 0)) 16->Calls Tryz.prog 11 #[.slice (some ⟨p1,0,none⟩) 16 16,.int .i64 0,.agg PA,.slice oS 33 cS] v fun e w'=>∃ox cx n o1 l1 c1 o2 l2 c2,e=.returned (.tuple #[.slice ox 2 cx,.agg #[.int .i64 n,.slice o1 l1 c1,.slice o2 l2 c2],.nilIface])/\RowIs w' ox (bytesV lG) cx/\Below v.heap.size v w'):=Lh fun v p1 hv hr=>HOP.out v p1 cS oS (Ks hb5 (HCm.out v hv)) hr (hrS.later (HCm.out v hv))
 have HB5:=Lh hb5;clear hh hrS hcS hpl hC hb5 HSE HOP HFS HFO HCY HPH;go_upto_region 5 with fail
 refine wp_region_held (S:=CC) qK ?_;refine aI (i:=1) (x:=.agg PA) rfl rfl qK qK qK qI (Or.inl ⟨qK,fun w hw=>mz (t:= 24) (fr:=(0,0)) rfl rfl (HPH5.out w hw) Tryz.underlying24 rfl HPS.out⟩) hCC ?_;simp only[qA,qZ,qC];refine aI (i:=2) (x:=.pointer (some ⟨p,0,none⟩)) rfl rfl qK qK qK qI (Or.inl ⟨qK,fun w hw=>qG⟩) hCC ?_;simp only[qA,qZ,qC];refine aI (i:=3) (x:=.slice oS 33 cS) rfl rfl qK qK qK qI (Or.inl ⟨qK,fun w hw=>by have hc:=HCS.out w hw;(go_simp<;>with_reducible rfl)⟩) hCC ?_;simp only[qA,qZ,qC];obtain⟨V0,hV0⟩:∃V0,({W5 with drawn:=W5.drawn+1}:World)=V0:=⟨_,rfl⟩;rw[hV0]at hCC;first|rw[hV0]|rw[show World.drew W5=V0 from hV0]
 clear hV0;refine q6 (i:=0) (j:=9) qK rfl rfl qK qK (fun K hK=>?o1) (fun K hK=>?o2)
 case' o1=>
  have hm:=HMK.out V0;have hrw:=HRW.out V0 (List.replicate 16 0) 16 rfl qO;obtain⟨p1,hp1⟩:=qM V0.heap.size;obtain⟨V1,hn⟩:∃V',V0.alloc (.cells (bytesV (List.replicate 16 0)).toArray 5)=V':=⟨_,rfl⟩;have hbn:Below V0.heap.size V0 V1:=by rw[<-hn];exact aH _ _
  rw[hn,hp1]at hm hrw;have hC1:=HCi.out _ (Ks (HCm.out _ hCC) hbn);go_simp;refine hK _ _ hC1 ?_;clear hK K hm hp1 hn;clear hbn;refine q6 (i:=4) (j:=9) qK rfl rfl qK qK (fun K hK=>?o3) (fun K hK=>?o4)
 case' o3=>
  have hcall:=HOP5.out V1 p1 hC1 hrw;go_simp;refine hcall.mono ?_;rintro e V2 ⟨ox,cx,n,o1,l1,c1,o2,l2,c2,rfl,hrx,hbc⟩;have hC2:=HCi.out _ (Ks (HCm.out _ hC1) hbc);refine hK _ _ hC2 ?_;clear hK K hcall;refine aI (i:=5) (x:=.tuple #[.slice ox 2 cx,.agg #[.int .i64 n,.slice o1 l1 c1,.slice o2 l2 c2],.nilIface]) rfl rfl qK qK qK qI (Or.inl ⟨qK,fun w hw=>qG⟩) hC2 ?_;simp only[qA,qZ,qC];refine aI (i:=6) (x:=.slice ox 2 cx) rfl rfl qK qK qK qI (Or.inl ⟨qK,fun w hw=>qG⟩) hC2 ?_;simp only[qA,qZ,qC];refine aI (i:=7) (x:=.agg #[.int .i64 n,.slice o1 l1 c1,.slice o2 l2 c2]) rfl rfl qK qK qK qI (Or.inl ⟨qK,fun w hw=>qG⟩) hC2 ?_;simp only[qA,qZ,qC];refine aI (i:=8) (x:=.nilIface) rfl rfl qK qK qK qI (Or.inl ⟨qK,fun w hw=>qG⟩) hC2 ?_;simp only[qA,qZ,qC];refine dF (i:=9) qK rfl qK (fun K hK=>?_);obtain⟨q5,hq5⟩:=qM V2.heap.size;obtain⟨V3,hn⟩:∃V',V2.alloc (.cells ZR 39)=V':=⟨_,rfl⟩;have hbn:Below V2.heap.size V2 V3:=by rw[<-hn];exact aH _ _
  have hz5:V3.heap[q5]? =some (.cells ZR 39 (0,0)):=by rw[<-hn,<-hq5];exact World.alloc_heap_new _ _
  have hq0:W5.heap.size<=q5:=by rw[<-hq5];exact(HCm.out _ hC2).size
  have hC3:=HCi.out _ (Ks (HCm.out _ hC2) hbn);go_simp
  (try rw[hn])
  (try rw[hq5])
  refine hK _ _ hC3 ?_;clear hK K hn hq5;have hrx:=hrx.later hbn;clear hbn hbc hrw hC1 hC2 hCC
 case' o4=>
  obtain⟨q5,hq5⟩:=qM V1.heap.size;obtain⟨V2,hn⟩:∃V',V1.alloc (.cells ZR 39)=V':=⟨_,rfl⟩;have hbn:Below V1.heap.size V1 V2:=by rw[<-hn];exact aH _ _
  have hz5:V2.heap[q5]? =some (.cells ZR 39 (0,0)):=by rw[<-hn,<-hq5];exact World.alloc_heap_new _ _
  have hq0:W5.heap.size<=q5:=by rw[<-hq5];exact(HCm.out _ hC1).size
  have hC2:=HCi.out _ (Ks (HCm.out _ hC1) hbn);go_simp
  (try rw[hn])
  (try rw[hq5])
  refine hK _ _ hC2 ?_;clear hK K hn hq5;have hrw:=hrw.later hbn;clear hbn;refine dF (i:=4) qK rfl qK (fun K hK=>?_);have hcall:=HOP5.out V2 p1 hC2 hrw;go_simp;refine hcall.mono ?_;rintro e V3 ⟨ox,cx,n,o1,l1,c1,o2,l2,c2,rfl,hrx,hbc⟩;have hC3:=HCi.out _ (Ks (HCm.out _ hC2) hbc);refine hK _ _ hC3 ?_;clear hK K hcall;have hz5:V3.heap[q5]? =some (.cells ZR 39 (0,0)):=(hbc.block q5 (aE.1 hz5).1).trans hz5;refine aI (i:=5) (x:=.tuple #[.slice ox 2 cx,.agg #[.int .i64 n,.slice o1 l1 c1,.slice o2 l2 c2],.nilIface]) rfl rfl qK qK qK qI (Or.inl ⟨qK,fun w hw=>qG⟩) hC3 ?_;simp only[qA,qZ,qC];refine aI (i:=6) (x:=.slice ox 2 cx) rfl rfl qK qK qK qI (Or.inl ⟨qK,fun w hw=>qG⟩) hC3 ?_;simp only[qA,qZ,qC];refine aI (i:=7) (x:=.agg #[.int .i64 n,.slice o1 l1 c1,.slice o2 l2 c2]) rfl rfl qK qK qK qI (Or.inl ⟨qK,fun w hw=>qG⟩) hC3 ?_;simp only[qA,qZ,qC];refine aI (i:=8) (x:=.nilIface) rfl rfl qK qK qK qI (Or.inl ⟨qK,fun w hw=>qG⟩) hC3 ?_;simp only[qA,qZ,qC];clear hbc hrw hC1 hC2 hCC
 case' o2=>
  obtain⟨q5,hq5⟩:=qM V0.heap.size;obtain⟨V1,hn⟩:∃V',V0.alloc (.cells ZR 39)=V':=⟨_,rfl⟩;have hbn:Below V0.heap.size V0 V1:=by rw[<-hn];exact aH _ _
  have hz5:V1.heap[q5]? =some (.cells ZR 39 (0,0)):=by rw[<-hn,<-hq5];exact World.alloc_heap_new _ _
  have hq0:W5.heap.size<=q5:=by rw[<-hq5];exact(HCm.out _ hCC).size
  have hC1:=HCi.out _ (Ks (HCm.out _ hCC) hbn);go_simp
  (try rw[hn])
  (try rw[hq5])
  refine hK _ _ hC1 ?_;clear hK K hn hq5;clear hbn;refine dF (i:=0) qK rfl qK (fun K hK=>?_);have hm:=HMK.out V1;have hrw:=HRW.out V1 (List.replicate 16 0) 16 rfl qO;obtain⟨p1,hp1⟩:=qM V1.heap.size;obtain⟨V2,hn⟩:∃V',V1.alloc (.cells (bytesV (List.replicate 16 0)).toArray 5)=V':=⟨_,rfl⟩;have hbn:Below V1.heap.size V1 V2:=by rw[<-hn];exact aH _ _
  rw[hn,hp1]at hm hrw;have hC2:=HCi.out _ (Ks (HCm.out _ hC1) hbn);go_simp;refine hK _ _ hC2 ?_;clear hK K hm hp1 hn;have hz5:V2.heap[q5]? =some (.cells ZR 39 (0,0)):=(hbn.block q5 (aE.1 hz5).1).trans hz5;clear hbn;refine dF (i:=4) qK rfl qK (fun K hK=>?_);have hcall:=HOP5.out V2 p1 hC2 hrw;go_simp;refine hcall.mono ?_;rintro e V3 ⟨ox,cx,n,o1,l1,c1,o2,l2,c2,rfl,hrx,hbc⟩;have hC3:=HCi.out _ (Ks (HCm.out _ hC2) hbc);refine hK _ _ hC3 ?_;clear hK K hcall;have hz5:V3.heap[q5]? =some (.cells ZR 39 (0,0)):=(hbc.block q5 (aE.1 hz5).1).trans hz5;refine aI (i:=5) (x:=.tuple #[.slice ox 2 cx,.agg #[.int .i64 n,.slice o1 l1 c1,.slice o2 l2 c2],.nilIface]) rfl rfl qK qK qK qI (Or.inl ⟨qK,fun w hw=>qG⟩) hC3 ?_;simp only[qA,qZ,qC];refine aI (i:=6) (x:=.slice ox 2 cx) rfl rfl qK qK qK qI (Or.inl ⟨qK,fun w hw=>qG⟩) hC3 ?_;simp only[qA,qZ,qC];refine aI (i:=7) (x:=.agg #[.int .i64 n,.slice o1 l1 c1,.slice o2 l2 c2]) rfl rfl qK qK qK qI (Or.inl ⟨qK,fun w hw=>qG⟩) hC3 ?_;simp only[qA,qZ,qC];refine aI (i:=8) (x:=.nilIface) rfl rfl qK qK qK qI (Or.inl ⟨qK,fun w hw=>qG⟩) hC3 ?_;simp only[qA,qZ,qC];clear hbc hrw hC1 hC2 hCC
 all_goals
  refine aI (i:=10) (x:=.slice ox 2 cx) rfl rfl qK qK qK qI (Or.inl ⟨qK,fun w hw=>qG⟩) hC3 ?_;simp only[qA,qZ,qC];obtain⟨FA,hFA⟩:∃FA:Array Value,(#[.int .i64 n,.slice o1 l1 c1,.slice o2 l2 c2]:Array Value)=FA:=⟨_,rfl⟩;have hfs:(Tryz.prog.info? 39).map (·.size)=some FA.size:=by rw[HRS.out.1,<-hFA];rfl
  have hfz:ZR.size=FA.size:=by rw[HRS.out.2,<-hFA];rfl
  have hfo:FA.all (·.oneCell')=true:=by rw[<-hFA];exact Cf rfl rfl rfl
  have hzl:=hz5;rw[<-HZR.out]at hzl;have hrf:RowV lG (.slice ox 2 cx) (V3.setRow q5 FA):=⟨ox,cx,rfl,my hrx (Cj hzl hrx qD) FA⟩;have hbf:Below W5.heap.size W5 (V3.setRow q5 FA):=(HCm.out _ hC3).trans (aA hq0);have hC4:=HCi.out _ hbf;rw[hFA];refine dF (i:=11) qK rfl qK (fun K hK=>?_);refine wp_store_row 39 (.tmp 5) (.tmp 24) rfl q5 FA rfl rfl 39 ZR hz5 hfs hfz hfo (hK _ _ hC4 ?_);clear hK K hfs hfz hfo hzl hz5 hrx hFA hC3;simp only[Act.put];refine aI (i:=12) (x:=.nilIface) rfl rfl qK qK qK qI (Or.inl ⟨qK,fun w hw=>qG⟩) hC4 ?_;simp only[qA,qZ,qC];refine wpAnyH_done qK ?_ _;obtain⟨V4,hV4⟩:=qM (V3.setRow q5 FA);rw[hV4]at hrf hbf⊢;have k1:=fD hrf;have k2:=yX;have k3:=Pp;have HBX:=Lh (Ks HB2.out (Ks HB5.out hbf));clear hrf hbf hV4 hC4 hq0;go_wp2_with fail;go_ret;exact⟨rfl,HBX.out⟩
theorem Cl(A:Nat->Addr)(w:World)(hV:Cds w)(hE:E17 w A):Calls Tryz.prog 7 #[] w fun e w'=>e=.returned (.bool true)/\Below w.heap.size w w':=TR _ rfl Kj _ rfl F2 _ rfl q9 A w hV hE
