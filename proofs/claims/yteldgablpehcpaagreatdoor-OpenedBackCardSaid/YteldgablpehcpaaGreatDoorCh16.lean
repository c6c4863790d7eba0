/- Ch16 -/
import Derived.Test.YteldgablpehcpaaGreatDoorCg16
set_option linter.unusedVariables false
set_option linter.unusedSimpArgs false
set_option maxRecDepth 100000
set_option maxHeartbeats 8000000
namespace Go.Proofs.YteldgablpehcpaaGreatDoor
open Go.RowKit
theorem tH{α:Type}(off:Nat):∀(vs:List α)(k:Nat)(cs:List α),off+k+vs.length<=cs.length->
  ((vs.zipIdx k).foldl (fun(c:List α) x=>c.set (off+x.2) x.1) cs)=cs.take (off+k)++vs++cs.drop (off+k+vs.length)
 |[],k,cs,h=>qS
 |v::vs,k,cs,h=>by
  rw[List.zipIdx_cons,List.foldl_cons,tH off vs (k+1) _ (by simp at h⊢;omega)];simp only[List.length_cons]at h⊢;have h1:(cs.set (off+k) v).take (off+(k+1))=cs.take (off+k)++[v]:=by
   rw[show off+(k+1)=(off+k)+1 by omega,List.take_add_one,List.take_set_of_le qO];congr 1
   rw[List.getElem?_set_self qO];rfl
  rw[h1,List.drop_set_of_lt qO,show off+(k+1)+vs.length=off+k+(vs.length+1) by omega];simp[List.append_assoc]
theorem FJ{α:Type}(off:Nat)(vs cs:Array α)(h:off+vs.size<=cs.size):
  (vs.zipIdx.foldl (fun(c:Array α)(x:α×Nat)=>c.setIfInBounds (off+x.2) x.1) cs).toList=cs.toList.take off++vs.toList++cs.toList.drop (off+vs.size):=by
 have e:∀(l:List (α×Nat))(c:Array α),(l.foldl (fun(c:Array α)(x:α×Nat)=>c.setIfInBounds (off+x.2) x.1) c).toList=l.foldl (fun(c:List α) x=>c.set (off+x.2) x.1) c.toList:=by
  intro l;induction l with
  |nil=>intro c;rfl
  |cons a t ih=>intro c;rw[List.foldl_cons,List.foldl_cons,ih];simp
 rw[<-Array.foldl_toList,e,Array.toList_zipIdx,tH off vs.toList 0 cs.toList (by simpa using h)];simp
theorem oQ(place:Nat->Option (Nat×Nat))(cs:Array Value)(i off:Nat)(v:Value)(rest:List (Nat×Value))(xs:List Value)(h:place i=some (off,xs.length))(hv:v.cells=xs.toArray)(hl:off+xs.length<=cs.size):
  Instr.fill place cs ((i,v)::rest)=Instr.fill place (cs.toList.take off++xs++cs.toList.drop (off+xs.length)).toArray rest:=by
 rw[Instr.fill,h];dsimp only;rw[hv,if_neg (by simp;omega)];congr 1
 apply Array.toList_inj.1;have:=FJ off xs.toArray cs (by simpa using hl);simpa using this
theorem FK(parts:List (Nat×Value)): Tryz.prog.built 57 parts=Instr.fill (([(0,1),(1,32),(33,32)]:List (Nat×Nat)).toArray[·]?) (jJ (.slice none 0 0) Da.gJ Da.gJ).toArray parts:=qK
theorem Ka(o:Option Addr)(l c:Nat)(R F:BL)(hR:R.length=32)(hF:F.length=32): Tryz.prog.built 57 [(0,.slice o l c),(1,.agg (bytesV R).toArray),(2,.agg (bytesV F).toArray)]=some (jJ (.slice o l c) R F).toArray:=by
 have hz:Da.gJ.length=32:=rfl;rw[FK,oQ _ _ 0 0 _ _ [.slice o l c] rfl rfl (by simp[jJ])];rw[oQ _ _ 1 1 _ _ (bytesV R) (by simp[hR]) rfl (by simp[jJ,hz,hR])];rw[oQ _ _ 2 33 _ _ (bytesV F) (by simp[hF]) rfl (by simp[jJ,hz,hR,hF])];rw[Instr.fill];congr 2
 simp[jJ,hz,hR,hF,List.take_append,List.drop_append,List.take_of_length_le,List.drop_of_length_le]
theorem FN(w:World):(Instr.build 57 #[]).run Tryz.prog w=.ok (.agg (jJ (.slice none 0 0) Da.gJ Da.gJ).toArray) w:=qK
def Da.oT(K:BL)(N:Int)(F:BL)(n:Nat):L8:=(List.range n).map (Da.eh K N F)
@[simp] theorem Da.dz(K:BL)(N:Int)(F:BL)(n:Nat):(Da.oT K N F n).length=n:=by simp[Da.oT]
theorem Da.wU(K:BL)(N:Int)(F:BL)(n i:Nat)(hi:i<n):bi (Da.oT K N F n) i=Da.eh K N F i:=by
 unfold bi;rw[List.getD_eq_getElem?_getD];simp[Da.oT,hi]
theorem Da.FO(K:BL)(N:Int)(F:BL)(n:Nat):Da.oT K N F (n+1)=Da.oT K N F n++[Da.eh K N F n]:=by simp[Da.oT,List.range_succ]
theorem Da.FP(bs:L8)(n:Nat)(h:∀b∈bs,b.length=8)(hn:n+bs.length<=1000000):Da.mbs (n:Int) bs=0:=by
 induction bs generalizing n with
 |nil=>rfl
 |cons b t ih=>
  unfold Da.mbs;rw[if_pos (Da.Jv b n (h b List.mem_cons_self) (by simp at hn;omega))];have:=ih (n+1) (fun c hc=>h c (List.mem_cons_of_mem _ hc)) (by simp at hn;omega);rw[show((n+1:Nat):Int)=(n:Int)+1 by omega]at this;exact this
theorem FQ(F:BL):∀b∈fl F,b.length=8:=fun b hb=>by
 obtain⟨i,hi,e⟩:=List.getElem_of_mem hb;have:=dy F i hi;unfold bi at this;rw[List.getD_eq_getElem?_getD,List.getElem?_eq_getElem hi,e]at this;exact this
theorem Da.Kb(K:BL)(N:Int)(F:BL)(hl:(fl F).length<=1000000):Da.mkL (Da.aQ K N 0) 0 (fl F)=Da.oT K N F (fl F).length:=by
 apply List.ext_getElem (by rw[Da.pz,Da.dz]);intro i h1 h2;rw[Da.dz]at h2;have e1:∀(l:L8)(h:i<l.length),l[i]=bi l i:=fun l h=>by
  unfold bi;rw[List.getD_eq_getElem?_getD,List.getElem?_eq_getElem h];rfl
 rw[e1,e1,Da.Mq _ _ _ _ h2,Da.wU _ _ _ _ _ h2];unfold Da.eh Da.mk1;rw[if_pos h2,if_pos (Da.Jv _ i (dy F i h2) qO),Int.zero_add]
theorem FR{W:World}{base b:Nat}{xs:List Value}(h:Arr W b 22 xs)(hb:base<=b)(hm:xs.length<=maxLen):W.ownsRow base 22 1 (.slice (some ⟨b,0,none⟩) xs.length xs.length) xs.length xs:=
 ⟨qS,.inr ⟨b,xs.length,xs.toArray,rfl,hb,h,Nat.le_refl _,hm,qS,by rw[Nat.mul_one];exact List.take_of_length_le qS⟩⟩
theorem mw{T:TypeId}{W W':World}{n:Nat}{v:Value}{xs:List Value}{m:Nat}(h:W.ownsRow n T 1 v m xs)(hb:Below W.heap.size W W'):W'.ownsRow n T 1 v m xs:=by
 obtain⟨h1,h2|⟨g,cap,cur,e,hbs,hg,hr⟩⟩:=h
 ·exact⟨h1,.inl h2⟩
 ·exact⟨h1,.inr ⟨g,cap,cur,e,hbs,by rw[hb.block g (aE.1 hg).1];exact hg,hr⟩⟩
theorem qY{W W':World}{bs:L8}{xs:List Value}{r:Option Nat}(h:Els W bs xs)(hg:W.grownBy W' r)(hn:∀ad l c,Value.slice (some ad) l c∈xs->r≠some ad.block):Els W' bs xs:=
 ⟨h.len,fun i x hx=>by
  obtain⟨o,c,rfl,hr⟩:=h.at_ i x hx;exact⟨o,c,rfl,hr.kept hg (fun _ ad e=>by subst e;exact(hn ad _ _ (List.mem_of_getElem? hx)).symm)⟩⟩
theorem Cb{W:World}{bs:L8}{xs:List Value}(h:Els W bs xs)(h8:∀i,i<bs.length->0<(bi bs i).length):∀ad l c,Value.slice (some ad) l c∈xs->ad.block<W.heap.size:=fun ad l c hm=>by
 obtain⟨i,hi,e⟩:=List.getElem_of_mem hm;obtain⟨o,c',e2,hr⟩:=h.at_ i _ (by rw[List.getElem?_eq_getElem hi,e]);cases e2
 obtain⟨b,off,e3,hlt,_⟩:=hr.cells (by rw[bytesV_length];exact h8 i (by rw[<-h.len];exact hi));cases e3
 exact hlt
def WJ(K:BL)(N:Int)(F:BL)(T s:Nat)(W1:World)(v iv:Value)(wr:World):Prop:=
 ∃(k:Nat)(xs:List Value),k<=s/\iv=.int .i64 (k:Int)/\wr.ownsRow W1.heap.size 22 1 v (T+k) xs/\Els wr (Da.oT K N F (T+k)) xs/\(∀ad l c,Value.slice (some ad) l c∈xs->v.ownBlock≠some ad.block)/\Below W1.heap.size W1 wr
theorem zv(A:Nat->Addr)(W:World)(K9:BL)(N:Int)(p:Pm15)(L:List Value)(oF:Option Addr)(cF:Nat)(F:BL)(hR:Da.Right15 p)(hsz:(F.length:Int)=p.sz)(hfl:F.length<=400)(hLy:Ly16At K9 N p L W)(hF:RowIs W oF (bytesV F) cF)(hV:Cds W)(hE:E16 W A):
  Calls Tryz.prog 43 #[.agg L.toArray,.slice oF F.length cF] W fun e w'=>∃x,e=.returned (.tuple #[x,.nilIface])/\RbV (Da.oT K9 N F (Da.n16 p)) x w'/\Below W.heap.size W w':=by
 have hLc:=hLy;obtain⟨xs,go,q,hLe,h5,hx,hO⟩:=hLc;have hal:(fl F).length=Da.ae p.sz:=by
  rw[kQ];unfold Da.ae;rw[show p.sz.toNat=F.length by omega]
 have hn90:=Da.Ed hR qO;obtain⟨Tn,hT⟩:=qM (Da.ae p.sz);obtain⟨s,hs⟩:=qM p.se.toNat;have hse:p.se=(s:Int):=by have:=hR.e0;omega
 have hnT:Da.n16 p=Tn+s:=by unfold Da.n16;rw[hT,hs]
 rw[hT]at hal;rw[hnT]at hn90⊢;obtain⟨g,hg⟩:=qM W.heap.size;obtain⟨FL,hFL⟩:=qM L.toArray;obtain⟨W1,hW1⟩:=qM (W.alloc (.cells FL 106));have hA1:Arr W1 g 106 L:=by unfold Arr;rw[hFL,<-hW1,<-hg];exact World.alloc_heap_new W _
 have hb1:Below W.heap.size W W1:=by rw[<-hW1];exact aH _ _
 have HCI:Hid (∀w' i,i<5->Below W1.heap.size W1 w'->w'.cell? ⟨g,i,none⟩=xs[i]?):=Lh fun w' i hi hb=>by rw[(hA1.later hb hA1.lt).cell,hLe,PZ h5 _ _ i hi]
 have HFH:Hid (∀w',Below W1.heap.size W1 w'->w'.heap[g]? =some (.cells FL 106 (0,0))):=Lh fun w' hb=>by
  have:=hA1.later hb hA1.lt;unfold Arr at this;rw[hFL]at this;exact this
 have HLS:Hid ((Tryz.prog.info? 106).map (·.size)=some FL.size):=Lh (by rw[mt,<-hFL,hLe,uD h5]);have HSS:Hid (∀w',Below W1.heap.size W1 w'->Calls Tryz.prog 83 #[.agg FL] w' fun e w2=>e=.returned (.int .i64 (s:Int))/\Below w'.heap.size w' w2):=Lh fun w' hb=>by
  rw[<-hFL,<-hse];exact tF K9 N p hR L w' (hLy.later (Ks hb1 hb))
 have hbl:=B6 F oF cF W1 (hF.later hb1) qO;obtain⟨lf,hlf⟩:=qM F.length;rw[hlf]at hbl⊢;have HBL:=Lh hbl;have HX:=Lh hx;have HV:=Lh hV;have HE:=Lh hE;have HB1:=Lh hb1;have HW1:=Lh hW1;have HG:=Lh hg;have HAL:=Lh hal;have HN90:=Lh hn90;have hnn:=dO;rw[hFL];clear hbl hx hV hE hb1 hW1 hg hal hn90 hLy hLe h5 hO hF hR hsz hfl hT hs hse hnT hFL hA1 hlf;go_enter Tryz.func43,Tryz.ntmps43
 go_upto_region 1 with fail
 rw[HW1.out,HG.out];apply wp_region_lit;refine qP ?_;refine wpList_plain rfl (fun K hK=>?_);go_simp;refine HBL.out.mono ?_;rintro e W2 ⟨y,rfl,hy,hb2⟩;refine hK _ _ ?_;clear hK K HBL;obtain⟨oy,cy,rfl,hry⟩:=hy;rw[HAL.out];have HRY:=Lh hry;have HB2:=Lh hb2;clear hry hb2;iterate 5 (refine qP ?_)
 have hx2:=HX.out.later (Ks HB1.out HB2.out);obtain⟨x0,hx0,hr0⟩:=hx2.key16 0 qO;have hk0l:=Da.bP K9 N 0 qO;obtain⟨o0,c0,rfl,hr0⟩:=hr0;have hms:=xl (Da.aQ K9 N 0) o0 c0 0 (fl F) oy cy A W2 hr0 HRY.out (HV.out.later (Ks HB1.out HB2.out)) (HE.out.later (Ks HB1.out HB2.out)).e10 (by rw[hk0l];omega) (by rw[HAL.out];have:=HN90.out;omega) qO qO;have hmz:Da.mbs 0 (fl F)=0:=Da.FP (fl F) 0 (FQ F) (by rw[HAL.out];have:=HN90.out;omega);rw[hmz,hk0l,HAL.out,Da.Kb K9 N F (by rw[HAL.out];have:=HN90.out;omega),HAL.out]at hms;rw[hk0l]at hx0;have hc0:W2.cell? ⟨g,0,none⟩=some (.slice o0 32 c0):=by rw[HCI.out W2 0 qO HB2.out];exact hx0
 have HMS:=Lh hms;clear hx2 hx0 hr0 hk0l hms hmz;go_upto_region 4 with fail
 apply wp_region_lit;iterate 4 (refine qP ?_)
 refine wpList_plain rfl (fun K hK=>?_);go_simp;refine HMS.out.mono ?_;rintro e W3 ⟨y3,rfl,_,hb3,hown⟩;refine hK _ _ ?_;clear hK K HMS hc0;obtain⟨g3,ys,rfl,hg3,hA3,hE3,hap⟩:=hown rfl;clear hown;have HB3:=Lh (Ks HB2.out hb3);have hyl:ys.length=Tn:=by rw[hE3.len,Da.dz]
 have hwn:W3.ownsRow W1.heap.size 22 1 (.slice (some ⟨g3,0,none⟩) Tn Tn) (Tn+0) ys:=by
  have:=FR (base:=W1.heap.size) hA3 (by have:=HB2.out.size;omega) (by rw[hyl];have:=HN90.out;unfold maxLen;omega);rw[hyl]at this;exact this
 have HE3:=Lh hE3;have HWN:=Lh hwn;have HAP:=Lh hap;rw[fN];clear hg3 hA3 hE3 hap hb3 hyl hwn;iterate 5 (refine qP ?_)
 go_upto_region 7 with fail
 apply wp_region_lit;refine wpList_load_row rfl 106 (.tmp 2) rfl g rfl 106 FL (0,0) _ (HFH.out W3 HB3.out) Tryz.underlying106 rfl HLS.out ?_;refine wpList_plain rfl (fun K hK=>?_);go_simp;refine(HSS.out W3 HB3.out).mono ?_;rintro e W4 ⟨rfl,hb4⟩;refine hK _ _ ?_;clear hK K HSS;have HX0:Hid (WJ K9 N F Tn s W1 (.slice (some ⟨g3,0,none⟩) Tn Tn) (.int .i64 0) W4):=Lh ⟨0,ys,Nat.zero_le _,rfl,mw HWN.out hb4,HE3.out.later hb4,fun ad l c hm h=>HAP.out ad l c hm (by injection h with h;exact h.symm),Ks HB3.out hb4⟩;clear hb4 HWN HE3 HAP HB3 HB2 HRY;refine qP ?_;go_wp2_with fail;go_loopw [8,33] (fun v iv wr=>WJ K9 N F Tn s W1 v iv wr) (fun _ iv _=>s-(intOf iv).toNat)
 case atStart=>exact HX0.out
 case round=>
  obtain⟨k,zs,hk,rfl,hown,hEl,hap,hB⟩:=hrel;have HOW:=Lh hown;have HEL:=Lh hEl;have HAP:=Lh hap;have HBR:=Lh hB;clear hown hEl hap hB HX0;by_cases hlt:k<s
  ·as_aux_lemma=>
    have hx4:=HX.out.later (Ks HB1.out HBR.out);obtain⟨x2,hx2,hr2⟩:=hx4.key16 2 qO;have hk2l:=Da.bP K9 N 2 qO;obtain⟨o2,c2,rfl,hr2⟩:=hr2;have hbk:=BG (Da.aQ K9 N 2) o2 c2 (k:Int) A wr hr2 (HV.out.later (Ks HB1.out HBR.out)) (HE.out.later (Ks HB1.out HBR.out)).e10 (by rw[hk2l];omega);have hrb0:Da.rb (k:Int)=0:=by unfold Da.rb;rw[Da.Hc _ (by have:=HN90.out;omega)];rfl
    rw[hrb0,hk2l]at hbk;rw[hk2l]at hx2;have HC2:Hid (wr.cell? ⟨g,2,none⟩=some (.slice o2 32 c2)):=Lh (by rw[HCI.out wr 2 qO HBR.out];exact hx2);have HBK:=Lh hbk;clear hx4 hx2 hr2 hk2l hbk hrb0;have hc2:=HC2.out;have dk:decide ((k:Int)<(s:Int))=true:=decide_eq_true qO;have dk2:decide (k<s)=true:=decide_eq_true hlt;go_upto_region 10 with fail
    apply wp_region_lit;iterate 4 (refine qP ?_)
    refine wpList_plain rfl (fun K hK=>?_);go_simp;refine HBK.out.mono ?_;rintro e W5 ⟨xb,rfl,hxb,hb5,hfr⟩;refine hK _ _ ?_;clear hK K HBK hc2 HC2;obtain⟨ob,cb,rfl,hrb⟩:=hxb;have hl8:(Da.pv 0 (Da.sb (Da.aQ K9 N 2) (k:Int))).length=8:=by
     show(Da.sb _ _).length=8;exact Da.dH _ _
    have hraw:Da.eh K9 N F (Tn+k)=Da.sb (Da.aQ K9 N 2) (k:Int):=by
     unfold Da.eh;rw[HAL.out,if_neg qO,show Tn+k-Tn=k by omega]
    rw[hl8];rw[hl8]at hfr;have hrv:RowV (Da.eh K9 N F (Tn+k)) (.slice ob 8 cb) W5:=by
     rw[hraw];exact⟨ob,cb,by rw[Da.dH],hrb⟩
    have hown5:=mw HOW.out hb5;have hel5:=HEL.out.later hb5;have hlt5:∀k2,u8.ownBlock=some k2->k2<wr.heap.size:=fun k2 e=>(World.ownsRow.lt HOW.out k2 e).2
    have hB5:=Ks HBR.out hb5;obtain⟨gh,hgh⟩:=qM W5.heap.size;obtain⟨W6,hW6⟩:=qM (W5.alloc (.cells #[.slice ob 8 cb] 22));have hb6:Below W5.heap.size W5 W6:=by rw[<-hW6];exact aH _ _
    have hs6:W6.heap.size=gh+1:=by rw[<-hW6,World.size_alloc,hgh]
    have HRB5:∀ad,ob=some ad->ad.block<W5.heap.size:=fun ad e=>by
     obtain⟨b,off,e3,hlt3,_⟩:=hrb.cells (by rw[bytesV_length,hl8];omega);rw[e]at e3;cases e3
     exact hlt3
    have hnew:∀u,Value.slice (some u) 8 cb=.slice ob 8 cb->wr.heap.size<=u.block/\u.block<gh:=fun u e=>by
     injection e with e1 e2 e3
     exact⟨hfr u 8 cb (by rw[<-e1]),by rw[<-hgh];exact HRB5 u e1.symm⟩
    have HH6:Hid (∀j u,([.slice ob 8 cb]:List Value)[j]? =some u->W6.cell? ((⟨gh,0,none⟩:Addr).add j)=some u):=Lh (by rw[<-hW6,<-hgh];exact cell_one_new _ _ _);have hold:=Cb HEL.out (fun i hi=>by rw[Da.dz]at hi;rw[Da.wU _ _ _ _ _ hi,Da.cX _ _ _ _ (by have:=HN90.out;omega)];omega);have HOW6:=Lh (mw hown5 hb6);have HEL6:=Lh (hel5.later hb6);have HRV6:=Lh (hrv.later hb6);have HB6:=Lh (Ks hB5 hb6);have HNEW:=Lh hnew;have HOLD:=Lh hold;have HLT5:=Lh hlt5;have HS6:Hid (wr.heap.size<=gh/\W6.heap.size=gh+1):=Lh ⟨by rw[<-hgh];exact hb5.size,hs6⟩;have HW6:=Lh hW6;have HGH:=Lh hgh;rw[fN];clear hrb hl8 hraw hrv hown5 hel5 hlt5 hB5 hgh hW6 hb6 hs6 HRB5 hnew hold hb5 hfr;iterate 5 (refine qP ?_)
    go_upto_region 13 with fail
    apply wp_region_lit;iterate 2 (refine qP ?_)
    refine wpList_plain rfl (fun K hK=>?_);go_simp;rw[HW6.out,HGH.out];refine hK _ _ ?_;clear hK K;obtain⟨i0,hi,hz0,hz1,hz2⟩:=info_parts fX;refine wpList_append_own_at W6 rfl (.tmp 47) (.tmp 49) 27 rfl W1.heap.size 22 i0 (.slice none 0 0) 1 24 Tryz.underlying27 hi hz0 hz1 hz2 rfl qD u8 (Tn+k) zs rfl HOW6.out ⟨gh,0,none⟩ 1 1 [.slice ob 8 cb] rfl rfl HH6.out ?hone ?h63 ?hby ?hbase ?_
    case hone=>
     intro u hu;rw[List.mem_singleton]at hu;subst hu;rfl
    case h63=>have:=HN90.out;unfold maxLen;omega
    case hby=>have:=HN90.out;omega
    case hbase=>exact HB6.out.size
    intro v' W7 hown hgr _ hat;have hX1:WJ K9 N F Tn s W1 v' (.int .i64 ((k:Int)+1)) W7:=by
     have hap6:∀ad l c,Value.slice (some ad) l c∈zs++[.slice ob 8 cb]->u8.ownBlock≠some ad.block/\ad.block<W6.heap.size:=fun ad l c hm=>by
      have hs:=HS6.out;rcases List.mem_append.1 hm with hm|hm
      ·have:=HOLD.out ad l c hm;exact⟨HAP.out ad l c hm,qO⟩
      ·rw[List.mem_singleton]at hm;injection hm with e1 e2 e3
       have:=HNEW.out ad (by rw[e1]);exact⟨fun h=>by have:=HLT5.out _ h;omega,qO⟩
     have hEL7:=(HEL6.out.app (Els.one HRV6.out));rw[<-Da.FO]at hEL7;have hEL8:=qY hEL7 hgr (fun ad l c hm=>(hap6 ad l c hm).1);refine⟨k+1,zs++[.slice ob 8 cb],qO,by go_num,hown,hEL8,fun ad l c hm h=>?_,?_⟩
     ·obtain⟨h1,h2⟩:=hap6 ad l c hm;rcases hat with h3|h3
      ·exact h1 (h3▸h)
      ·rw[h3]at h;injection h with h
       omega
     ·exact fM HB6.out HOW6.out hgr
    have HX1:=Lh hX1;clear hown hgr hat hX1 hi hz0 hz1 hz2;obtain⟨o',l',c',rfl⟩:∃o l c,v'=Value.slice o l c:=by
     obtain⟨_,_,_,_,h,_⟩:=HX1.out;rcases h.2 with ⟨rfl,_⟩|⟨_,_,_,rfl,_⟩
     ·exact⟨_,_,_,rfl⟩
     ·exact⟨_,_,_,rfl⟩
    have hk9:=HN90.out;go_wp2_with fail;exact⟨HX1.out,by simp[intOf];omega⟩
  ·obtain rfl:k=s:=qO;have dk:decide ((k:Int)<(k:Int))=false:=decide_eq_false qO;have dk2:decide (k<k)=false:=decide_eq_false qO;have hrv:=tX HOW.out (by rw[Da.dz]) HEL.out;have HRV:=Lh hrv;clear hrv;go_wp2_with fail;refine bodyPost_ret (results_tmp2 rfl _ _ _) rfl ?_;exact⟨_,rfl,HRV.out,Ks HB1.out HBR.out⟩
section
variable {P:Program} {md:Region.Mode} {ops:Array Oper} {Q:Exit->Act->World->Prop} {S:World->Prop} {fuel:Nat} {listed:Array Bool} {a:Act} {w:World}
theorem q6{i j:Nat}{o1 o2:Oper}(hr:Region.ready md ops listed=[i,j])(h1:ops[i]? =some o1)(h2:ops[j]? =some o2)(hw1:Region.wanted o1 (yielded ops a.tmps)=true)(hw2:Region.wanted o2 (yielded ops a.tmps)=true)
  (k1:∀K:Act->World->Prop,(∀a' w',S w'->wpAnyH P md ops Q S fuel (listed.setIfInBounds i true) a' w'->K a' w')->o1.wp P a w K Q)
  (k2:∀K:Act->World->Prop,(∀a' w',S w'->wpAnyH P md ops Q S fuel (listed.setIfInBounds j true) a' w'->K a' w')->o2.wp P a w K Q):wpAnyH P md ops Q S (fuel+1) listed a w:=
 wpAnyH_all hr qS fun t ht=>by
  have ht2:t=i∨t=j:=by simpa using ht
  rcases ht2 with rfl|rfl
  ·exact sd h1 hw1 (k1 _ fun a' w' h1 h2=>⟨h1,h2⟩)
  ·exact sd h2 hw2 (k2 _ fun a' w' h1 h2=>⟨h1,h2⟩)
end
theorem oU(N:Nat)(h:N<=2000)(W:World):(Instr.makeSlice 27 (.int .i64 (N:Int)) (.int .i64 (N:Int))).run Tryz.prog W=.ok (.slice (some ⟨W.heap.size,0,none⟩) N N) (W.alloc (.cells (Array.replicate N (.slice none 0 0)) 22)):=by
 obtain⟨i,hh,hz0,hz1,hz2⟩:=info_parts fX;have:=run_make (P:= Tryz.prog) W 27 22 i (.slice none 0 0) Tryz.underlying27 hh hz0 .i64 .i64 (N:Int) (N:Int) qO qO (by rw[hz2];omega) qO;rw[this,hz1];simp only[Int.toNat_natCast,Nat.mul_one];congr 3
 apply Array.ext
 ·simp[madeCells]
 ·intro k h1 h2;simp[madeCells,Value.cells];rw[Nat.mod_one];rfl
def WK(MK:BL)(N:Int)(F:BL)(p:Pm15)(go n gm bo:Nat)(W wb:World)(v19:Value)(wr:World):Prop:=
 ∃(k:Nat)(xs:List Value),k<=n/\v19=.int .i64 (k:Int)/\Arr wr go 22 xs/\Els wr (Da.nH MK N F p k) xs/\(∀ad l c,Value.slice (some ad) l c∈xs->W.heap.size<=ad.block)/\Arr wr gm 179 (bytesV (Da.fil (Da.aQ MK N 3)))/\Arr wr bo 3 (Da.rL (Da.aQ MK N 1) n n)/\Below wb.heap.size wb wr
theorem FS(W:World)(K9:BL)(N:Int)(F:BL)(p:Pm15)(L:List Value)(n:Nat)(hne:Da.n16 p=n)(hn4:n<=400)(hn0:0<n)(hLy:Ly16At K9 N p L W)(oB:Option Addr)(cB:Nat)(hB:RbIs W oB (Da.oT K9 N F n) cB)(hV:Cds W):
  Calls Tryz.prog 44 #[.agg L.toArray,.slice oB n cB] W fun e w'=>∃gs ys,e=.returned (.slice (some ⟨gs,0,none⟩) n n)/\W.heap.size<=gs/\Arr w' gs 22 ys/\Els w' (Da.dx K9 N F p) ys/\(∀ad l c,Value.slice (some ad) l c∈ys->W.heap.size<=ad.block)/\Below W.heap.size W w':=by
 obtain⟨xs,go,q,hLe,h5,hx,hO⟩:=hLy;rw[hne]at hO;obtain⟨g,hg⟩:=qM W.heap.size;obtain⟨FL,hFL⟩:=qM L.toArray;obtain⟨W1,hW1⟩:=qM (W.alloc (.cells FL 106));have hA1:Arr W1 g 106 L:=by unfold Arr;rw[hFL,<-hW1,<-hg];exact World.alloc_heap_new W _
 have hb1:Below W.heap.size W W1:=by rw[<-hW1];exact aH _ _
 obtain⟨CC,hC⟩:∃CC:World->Prop,(fun v=>Below W1.heap.size W1 v)=CC:=⟨_,rfl⟩;have HCm:Hid (∀v,CC v->Below W1.heap.size W1 v):=Lh fun v hv=>by rw[<-hC]at hv;exact hv
 have HCi:Hid (∀v,Below W1.heap.size W1 v->CC v):=Lh fun v hv=>by rw[<-hC];exact hv
 have hCC:CC {W1 with drawn:=W1.drawn+1}:=HCi.out _ (Kit.dn' W1 1);obtain⟨x3,hx3,hr3⟩:=hx.key16 3 qO;have hk3l:=Da.bP K9 N 3 qO;obtain⟨o3,c3,rfl,hr3⟩:=hr3;rw[hk3l]at hx3;have HC3:Hid (∀v,CC v->v.cell? ⟨g,3,none⟩=some (.slice o3 32 c3)):=Lh fun v hv=>by rw[(hA1.later (HCm.out v hv) hA1.lt).cell,hLe,PZ h5 _ _ 3 qO];exact hx3
 have HC5:Hid (∀v,CC v->v.cell? ⟨g,5,none⟩=some (.pointer (some ⟨go,0,none⟩))):=Lh fun v hv=>by rw[(hA1.later (HCm.out v hv) hA1.lt).cell,hLe,wS h5]
 have HMK:Hid (∀v,CC v->Calls Tryz.prog 50 #[.slice o3 32 c3] v fun e w'=>∃gm,e=.returned (.pointer (some ⟨gm,0,none⟩))/\Arr w' gm 179 (bytesV (Da.fil (Da.aQ K9 N 3)))/\Below v.heap.size v w'):=Lh fun v hv=>by
  have:=gV (Da.aQ K9 N 3) o3 c3 v (hr3.later (Ks hb1 (HCm.out v hv))) (hV.later (Ks hb1 (HCm.out v hv))) (by rw[hk3l];omega);rw[hk3l]at this;exact this.mono fun e w' ⟨h1,h2,h3⟩=>⟨_,h1,h2,h3⟩
 have HMR:Hid (∀W,(Instr.makeSlice 27 (.int .i64 (n:Int)) (.int .i64 (n:Int))).run Tryz.prog W=.ok (.slice (some ⟨W.heap.size,0,none⟩) n n) (W.alloc (.cells (Array.replicate n (.slice none 0 0)) 22))):=Lh (oU n qO);have HAL:Hid (∀v,CC v->Calls Tryz.prog 85 #[.pointer (some ⟨go,0,none⟩)] v fun e w'=>∃b,e=.returned (.slice (some ⟨b,0,none⟩) n n)/\Arr w' b 3 (Da.rL (Da.aQ K9 N 1) n n)/\Below v.heap.size v w'):=Lh fun v hv=>NH go q _ n qO v (hO.later (Ks hb1 (HCm.out v hv))) (hV.later (Ks hb1 (HCm.out v hv)))
 have HB1:=Lh hb1;have HW1:=Lh hW1;have HG:=Lh hg;have HNE:=Lh hne;have HV:=Lh hV;have HBB:=Lh hB;have HN4:=Lh hn4;have HN0:=Lh hn0;rw[hFL];clear hLe h5 hx hO hg hFL hW1 hA1 hb1 hC hx3 hr3 hk3l hne hV hB hn0;go_enter Tryz.func44,Tryz.ntmps44
 go_upto_region 1 with fail
 rw[HW1.out,HG.out];refine wp_region_held (S:=CC) qK ?_;refine aI (i:=0) (x:=.pointer (some ⟨g,0,none⟩)) rfl rfl qK qK qK qI (Or.inl ⟨qK,fun w hw=>qG⟩) hCC ?_;simp only[qA,qZ,qC];refine aI (i:=1) (x:=.pointer (some ⟨g,3,none⟩)) rfl rfl qK qK qK qI (Or.inl ⟨qK,fun w hw=>qG⟩) hCC ?_;simp only[qA,qZ,qC];refine aI (i:=2) (x:=.slice o3 32 c3) rfl rfl qK qK qK qI (Or.inl ⟨qK,fun w hw=>by have hc:=HC3.out w hw;(go_simp<;>with_reducible rfl)⟩) hCC ?_;simp only[qA,qZ,qC];refine aI (i:=4) (x:=.slice oB n cB) rfl rfl qK qK qK qI (Or.inl ⟨qK,fun w hw=>qG⟩) hCC ?_;simp only[qA,qZ,qC];refine aI (i:=5) (x:=.int .i64 (n:Int)) rfl rfl qK qK qK qI (Or.inl ⟨qK,fun w hw=>qG⟩) hCC ?_;simp only[qA,qZ,qC];obtain⟨V0,hV0⟩:∃V0,({W1 with drawn:=W1.drawn+1}:World)=V0:=⟨_,rfl⟩;rw[hV0]at hCC;first|rw[hV0]|rw[show World.drew W1=V0 from hV0]
 clear hV0;refine q6 (i:=3) (j:=6) qK rfl rfl qK qK (fun K hK=>?o1) (fun K hK=>?o2)
 case' o1=>
  go_simp;refine(HMK.out _ hCC).mono ?_;rintro e V1 ⟨gm,rfl,hAm,hb1⟩;have hC1:=HCi.out _ (Ks (HCm.out _ hCC) hb1);refine hK _ _ hC1 ?_;clear hK K;refine aI (i:=7) (x:=.pointer (some ⟨gm,0,none⟩)) rfl rfl qK qK qK qI (Or.inl ⟨qK,fun w hw=>qG⟩) hC1 ?_;simp only[qA,qZ,qC];obtain⟨gs,hgs⟩:=qM V1.heap.size;obtain⟨V2,hV2⟩:=qM (V1.alloc (.cells (Array.replicate n (.slice none 0 0)) 22));have hmr:=HMR.out V1;rw[hV2,hgs]at hmr;refine dF (i:=6) qK rfl qK (fun K hK=>?_);go_simp;have hb2:Below V1.heap.size V1 V2:=by rw[<-hV2];exact aH _ _
  have hC2:=HCi.out _ (Ks (HCm.out _ hC1) hb2);refine hK _ _ hC2 ?_;clear hK K hmr;have HAM:Hid (Arr V2 gm 179 (bytesV (Da.fil (Da.aQ K9 N 3)))):=Lh (hAm.later hb2 hAm.lt);have HAS:Hid (Arr V2 gs 22 (List.replicate n (.slice none 0 0))):=Lh (by rw[<-hV2,<-hgs];have:=Arr.made V1 22 (List.replicate n (.slice none 0 0));simpa using this);have HGS:Hid (W1.heap.size<=gs):=Lh (by rw[<-hgs];exact(HCm.out _ hC1).size);clear hAm hb1 hb2 hC1 hgs hV2 hCC
 case' o2=>
  obtain⟨gs,hgs⟩:=qM V0.heap.size;obtain⟨V1,hV1⟩:=qM (V0.alloc (.cells (Array.replicate n (.slice none 0 0)) 22));have hmr:=HMR.out V0;rw[hV1,hgs]at hmr;go_simp;have hb1:Below V0.heap.size V0 V1:=by rw[<-hV1];exact aH _ _
  have hC1:=HCi.out _ (Ks (HCm.out _ hCC) hb1);refine hK _ _ hC1 ?_;clear hK K hmr;refine dF (i:=3) qK rfl qK (fun K hK=>?_);go_simp;refine(HMK.out _ hC1).mono ?_;rintro e V2 ⟨gm,rfl,hAm,hb2⟩;have hC2:=HCi.out _ (Ks (HCm.out _ hC1) hb2);refine hK _ _ hC2 ?_;clear hK K;refine aI (i:=7) (x:=.pointer (some ⟨gm,0,none⟩)) rfl rfl qK qK qK qI (Or.inl ⟨qK,fun w hw=>qG⟩) hC2 ?_;simp only[qA,qZ,qC];have HAM:=Lh hAm;have HAS:Hid (Arr V2 gs 22 (List.replicate n (.slice none 0 0))):=Lh (by
   have h1:Arr V1 gs 22 (List.replicate n (.slice none 0 0)):=by rw[<-hV1,<-hgs];have:=Arr.made V0 22 (List.replicate n (.slice none 0 0));simpa using this
   exact h1.later hb2 h1.lt)
  have HGS:Hid (W1.heap.size<=gs):=Lh (by rw[<-hgs];exact(HCm.out _ hCC).size);clear hAm hb1 hb2 hC1 hgs hV1 hCC
 all_goals
  refine aI (i:=8) (x:=.slice (some ⟨gs,0,none⟩) n n) rfl rfl qK qK qK qI (Or.inl ⟨qK,fun w hw=>qG⟩) hC2 ?_;simp only[qA,qZ,qC];refine wpAnyH_done qK ?_ _;have hal:=HAL.out V2 hC2;have hc5:=HC5.out V2 hC2;have HAL2:=Lh hal;have HB2:=Lh (HCm.out _ hC2);clear hC2 hal;go_upto_region 2 with fail
  apply wp_region_lit;iterate 2 (refine qP ?_)
  refine wpList_plain rfl (fun K hK=>?_);go_simp;refine HAL2.out.mono ?_;rintro e V3 ⟨bo,rfl,hAo,hb3⟩;refine hK _ _ ?_;clear hK K HAL2 hc5;have hAS3:=HAS.out.later hb3 HAS.out.lt;have HX0:Hid (WK K9 N F p gs n gm bo W W1 (.int .i64 0) V3):=Lh ⟨0,_,Nat.zero_le _,rfl,hAS3,by unfold Da.nH;rw[Da.wJ,HNE.out];exact mr V3 n,fun ad l c hm=>by(rw[List.mem_replicate]at hm;cases hm.2),HAM.out.later hb3 HAM.out.lt,hAo,Ks HB2.out hb3⟩;clear hAo hb3 hAS3 HAM HAS HB2;iterate 2 (refine qP ?_)
  obtain⟨bb,offb,pp,qq,rfl,_,_,_⟩:=HBB.out.cell 0 (by rw[Da.dz];exact HN0.out);have HBC:Hid (∀k,k<n->∃p1 q1,(∀v,Below W1.heap.size W1 v->v.cell? ⟨bb,offb+k,none⟩=some (.slice p1 8 q1))/\RowIs W1 p1 (bytesV (Da.eh K9 N F k)) q1):=Lh fun k hk=>by
   obtain⟨b',off',p1,q1,e,hlt,hc,hr⟩:=(HBB.out.later HB1.out).cell k (by rw[Da.dz];exact hk);cases e
   rw[Da.wU _ _ _ _ _ hk]at hc hr;rw[Da.cX _ _ _ _ (by have:=HN4.out;omega)]at hc;exact⟨p1,q1,fun v hv=>(hv.cell (p:=⟨bb,offb+k,none⟩) hlt).trans hc,hr⟩
  go_wp2_with fail;go_loopw [20] (fun iv wr=>WK K9 N F p gs n gm bo W W1 iv wr) (fun iv _=>n-(intOf iv).toNat)
  case atStart=>exact HX0.out
  case round=>
   obtain⟨k,ys,hk,rfl,hA,hEl,hfr,hAm,hAo,hB⟩:=hrel;have HAM3:=Lh hAm;have HAO:=Lh hAo;have HA:=Lh hA;have HEL:=Lh hEl;have HFR:=Lh hfr;have HBW:=Lh hB;clear hA hEl hfr hB hAm hAo HX0;by_cases hkn:k<n
   ·have dk:decide ((k:Int)<(n:Int))=true:=decide_eq_true qO;have dk2:decide (k<n)=true:=decide_eq_true hkn;obtain⟨p1,q1,hbk,hr1⟩:=HBC.out k hkn;obtain⟨t,ht⟩:=qM (Da.ez K9 N p k);have htn:t<n:=by rw[<-ht,<-HNE.out];exact Da.pK (by rw[HNE.out];omega) (by rw[HNE.out];exact hkn)
    have hci:wr.cell? ⟨bo,k,none⟩=some (.int .i64 (t:Int)):=by
     rw[HAO.out.cell,Da.Qx _ _ _ hkn,<-ht];unfold Da.ez;rw[HNE.out]
    have hcb:=hbk wr HBW.out;have htg:=rZ (Da.aQ K9 N 3) (Da.eh K9 N F k) gm (t:Int) p1 q1 wr HAM3.out (hr1.later HBW.out) (HV.out.later (Ks HB1.out HBW.out)) (by rw[Da.cX _ _ _ _ (by have:=HN4.out;omega)];omega);rw[Da.cX _ _ _ _ (by have:=HN4.out;omega)]at htg;have hbk0:0<=(k:Int)/\(k:Int)<(n:Int):=qO;have HTG:=Lh htg;have HT:=Lh ht;have HTN:=Lh htn;clear hbk hr1 ht htg;go_upto_region 5 with fail
    apply wp_region_lit;iterate 8 (refine qP ?_)
    refine wpList_plain rfl (fun K hK=>?_);go_simp;refine HTG.out.mono ?_;rintro e Y1 ⟨gr,cr,rfl,hgr,hrv,hb⟩;refine hK _ _ ?_;clear hK K HTG hci hcb;have hA3:=HA.out.later hb HA.out.lt;have hE3:=HEL.out.later hb;have hyl:ys.length=n:=by rw[hE3.len];unfold Da.nH;rw[Da.iN];exact HNE.out
    have hgw:Y1.grownBy (Y1.setCell ⟨gs,t,none⟩ (.slice (some ⟨gr,0,none⟩) (8+8) cr)) (some gs):=iP Y1 gs t _;have hE4:=(hE3.putArr hA3 hE3.slices hgw).set t (hrv.putArr hA3 hE3.slices hgw);have hst:(Da.nH K9 N F p k).set t (Da.dZ (Da.aQ K9 N 3) (t:Int) (Da.eh K9 N F k))=Da.nH K9 N F p (k+1):=by
     have:=Da.s8 K9 N F p (by rw[HNE.out];have:=HN4.out;omega) k (by rw[HNE.out];exact hkn);rw[HT.out]at this;exact this
    rw[hst]at hE4;have hWr:W.heap.size<=wr.heap.size:=by have:=HB1.out.size;have:=HBW.out.size;omega
    have hAm1:=HAM3.out.later hb HAM3.out.lt;have hAo1:=HAO.out.later hb HAO.out.lt;have HFIN:Hid (WK K9 N F p gs n gm bo W W1 (.int .i64 ((k:Int)+1)) (Y1.setCell ⟨gs,t,none⟩ (.slice (some ⟨gr,0,none⟩) (8+8) cr))):=Lh ⟨k+1,ys.set t (.slice (some ⟨gr,0,none⟩) (8+8) cr),qO,by go_num,hA3.set t _,hE4,fun ad l c hm=>by
     rcases List.mem_or_eq_of_mem_set hm with h|h
     ·exact HFR.out ad l c h
     ·cases h
      show W.heap.size<=gr;omega,hAm1.ne hA3 (ag hAm1 hA3 qD) t _,hAo1.ne hA3 (ag hAo1 hA3 qD) t _,hA3.below (Ks HBW.out hb) HGS.out t _⟩
    have hfz:=hA3.frozen t;obtain⟨old,hold⟩:∃old,ys[t]? =some old:=⟨ys[t]'(by have:=HTN.out;omega),List.getElem?_eq_getElem (by have:=HTN.out;omega)⟩;have hcell:Y1.cell? ⟨gs,t,none⟩=some old:=by rw[hA3.cell];exact hold
    have hbq:0<=(t:Int)/\(t:Int)<(n:Int):=by have:=HTN.out;omega
    have hk90:=HN4.out;clear hA3 hE3 hyl hgw hE4 hst hold hrv hb hgr hWr hAm1 hAo1;go_wp2_with fail;exact⟨HFIN.out,by simp[intOf];omega⟩
   ·obtain rfl:k=n:=qO;have dk:decide ((k:Int)<(k:Int))=false:=decide_eq_false qO;have dk2:decide (k<k)=false:=decide_eq_false qO;have HFE:Hid (Els wr (Da.dx K9 N F p) ys):=Lh (by unfold Da.dx;rw[HNE.out];exact HEL.out);go_wp2_with fail;go_ret;exact⟨gs,ys,rfl,by have:=HGS.out;have:=HB1.out.size;omega,HA.out,HFE.out,HFR.out,Ks HB1.out HBW.out⟩
theorem wV{W:World}{gs n:Nat}{ys:List Value}{bs:L8}(hA:Arr W gs 22 ys)(hE:Els W bs ys)(hn:bs.length=n)(h4:n<=400):RbIs W (some ⟨gs,0,none⟩) bs n:=
 ⟨ys,⟨by rw[hE.len,hn];exact Nat.le_refl _,by unfold maxLen;omega,(fun e=>by cases e),(fun _=>⟨gs,0,rfl,hA.lt,fun i v hv=>by rw[Nat.zero_add,hA.cell];exact hv⟩)⟩,hE⟩
def RbF(m:Nat)(bs:L8)(x:Value)(v:World):Prop:=
 ∃o c xs,x=.slice o bs.length c/\RowIs v o xs c/\Els v bs xs/\(∀a,o=some a->m<=a.block)/\(∀a q k,Value.slice (some a) q k∈xs->m<=a.block)/\(0<bs.length->∃g,o=some ⟨g,0,none⟩/\Arr v g 22 xs)
theorem RbF.rb{m:Nat}{bs:L8}{x:Value}{v:World}(h:RbF m bs x v):RbV bs x v:=by
 obtain⟨o,c,xs,e,h1,h2,_⟩:=h;exact⟨o,c,e,xs,h1,h2⟩
theorem RbF.nil(m:Nat)(v:World):RbF m [] (.slice none 0 0) v:=⟨none,0,[],rfl,RowIs.empty none 0 (Nat.zero_le _) (fun _=>rfl),Els.nil v,(fun _ e=>by cases e),(fun a q k h=>by cases h),fun h=>absurd h (Nat.lt_irrefl 0)⟩
theorem Kc{W:World}{gs n m:Nat}{ys:List Value}{bs:L8}(hA:Arr W gs 22 ys)(hE:Els W bs ys)(hn:bs.length=n)(h4:n<=400)(hg:m<=gs)(hf:∀a q k,Value.slice (some a) q k∈ys->m<=a.block):RbF m bs (.slice (some ⟨gs,0,none⟩) n n) W:=
 ⟨some ⟨gs,0,none⟩,n,ys,by rw[hn],⟨by rw[hE.len,hn];exact Nat.le_refl _,by unfold maxLen;omega,(fun e=>by cases e),(fun _=>⟨gs,0,rfl,hA.lt,fun i v hv=>by rw[Nat.zero_add,hA.cell];exact hv⟩)⟩,hE,(fun a e=>by cases e;exact hg),hf,fun _=>⟨gs,rfl,hA⟩⟩
theorem FT{W:World}{e g:Nat}{v:Value}(h:W.cell? ⟨e,0,none⟩=some v)(hne:e≠g)(C:Array Value):(W.setRow g C).cell? ⟨e,0,none⟩=some v:=by
 unfold World.cell? at h⊢;rw[setRow_other W g e C hne];exact h
theorem FU(ZL:Array Value)(hZL:oP.toArray=ZL)(hzl:∀w,Sem.run Tryz.prog (zeroValue 106) w=.ok (.agg ZL) w)(ZS:Array Value)(hZS:(jJ (.slice none 0 0) Da.gJ Da.gJ).toArray=ZS)(hzs:∀w,Sem.run Tryz.prog (zeroValue 57) w=.ok (.agg ZS) w)
  (hbs:∀w,(Instr.build 57 #[]).run Tryz.prog w=.ok (.agg ZS) w) (A:Nat->Addr) (W:World) (oK:Option Addr) (cK:Nat) (K9:BL) (N:Int) (oF:Option Addr) (cF:Nat) (F:BL) (p:Pm15) (hK9:RowIs W oK (bytesV K9) cK) (hF:RowIs W oF (bytesV F) cF) (hKl:K9.length<=100) (hfl:F.length<=400) (hN:bG N) (hok:p.ok) (hV:Cds W) (hE:E16 W A):
  Calls Tryz.prog 19 #[.slice oK K9.length cK,.int .i64 N,.slice oF F.length cF,.agg (pmA p)] W fun e w'=>∃x v,e=.returned (.tuple #[.agg (jJ x (if Da.bj K9 N F p=0 then Da.mth (Da.dx K9 N F p)else Da.gJ) (if Da.bj K9 N F p=0 then Da.sha F else Da.gJ)).toArray,v])/\RbF W.heap.size (if Da.bj K9 N F p=0 then Da.dx K9 N F p else[]) x w'/\SeV A p (Da.bj K9 N F p) w' v/\Below W.heap.size W w':=by
 obtain⟨SB,hSB⟩:=qM (Da.bj K9 N F p);rw[hSB];obtain⟨RS,hRS⟩:=qM ((if SB=0 then Da.dx K9 N F p else[]));obtain⟨R,hRR⟩:=qM ((if SB=0 then Da.mth (Da.dx K9 N F p)else Da.gJ));obtain⟨FD,hFD⟩:=qM ((if SB=0 then Da.sha F else Da.gJ));rw[hRS,hRR,hFD];have HERR:Hid (SB≠0->R=Da.gJ/\FD=Da.gJ/\RS=[]):=Lh fun h=>⟨by rw[<-hRR,if_neg h],by rw[<-hFD,if_neg h],by rw[<-hRS,if_neg h]⟩
 have HOKK:Hid (SB=0->R=Da.mth (Da.dx K9 N F p)/\FD=Da.sha F/\RS=Da.dx K9 N F p):=Lh fun h=>⟨by rw[<-hRR,if_pos h],by rw[<-hFD,if_pos h],by rw[<-hRS,if_pos h]⟩
 obtain⟨g,hg⟩:=qM W.heap.size;obtain⟨PA,hPA⟩:=qM (pmA p);obtain⟨W2,hW2⟩:=qM ((W.alloc (.cells PA 24)).alloc (.cells ZS 57));have hb2:Below W.heap.size W W2:=by rw[<-hW2];exact Ks (aH _ _) (aH _ _)
 have hA2:Arr W2 g 24 (pmL p):=by
  have h1:Arr (W.alloc (.cells PA 24)) g 24 (pmL p):=by rw[<-hPA,<-hg];exact World.alloc_heap_new W _
  rw[<-hW2];exact h1.alloc _
 have hL2:W2.heap[g+1]? =some (.cells ZS 57 (0,0)):=by rw[<-hW2,<-hg];exact ff _ _ _ _
 have hck:=fT A W2 p hok (hE.later hb2).e15;have HPP:Hid (∀w',Below W2.heap.size W2 w'->w'.heap[g]? =some (.cells PA 24 (0,0))):=Lh fun w' hb=>by
  have:=hA2.later hb hA2.lt;unfold Arr at this;rw[show(pmL p).toArray=PA from hPA]at this;exact this
 have HPS:Hid ((Tryz.prog.info? 24).map (·.size)=some PA.size):=Lh (by rw[<-hPA];exact aM);have HSE:Hid (∀w',Below W2.heap.size W2 w'->w'.cell? ⟨g,0,none⟩=some (.int .i64 p.sz)):=Lh fun w' hb=>by rw[(hA2.later hb hA2.lt).cell];rfl
 have HSZ:Hid (∀w',Below W2.heap.size W2 w'->w'.heap[g+1]? =some (.cells ZS 57 (0,0))):=Lh fun w' hb=>(hb.block (g+1) (aE.1 hL2).1).trans hL2
 have HGL2:Hid (g+1<W2.heap.size):=Lh (aE.1 hL2).1;have HSS:Hid ((Tryz.prog.info? 57).map (·.size)=some ZS.size):=Lh (by rw[rW,<-hZS];rfl);have HSO:Hid (ZS.all (·.oneCell')=true):=Lh (by rw[<-hZS];exact uB _ rfl _ _);have HS65:Hid (ZS.size=65):=Lh (by rw[<-hZS];rfl);obtain⟨lk,hlk⟩:=qM K9.length;obtain⟨lf,hlf⟩:=qM F.length;rw[hPA]at hck⊢;have HLYF:Hid (∀w',Below W2.heap.size W2 w'->Calls Tryz.prog 42 #[.slice oK lk cK,.int .i64 N,.agg PA] w' fun e w2=>∃L v,e=.returned (.tuple #[.agg L.toArray,v])/\Ly16 A K9 N p L v w2/\Below w'.heap.size w' w2):=Lh fun w' hb=>by
  rw[<-hlk,<-hPA];exact j5 A w' oK cK K9 N p (hK9.later (Ks hb2 hb)) hKl hN hok (hV.later (Ks hb2 hb)) (hE.later (Ks hb2 hb))
 rw[hlk,hlf];have HCK:=Lh hck;have HSB:=Lh hSB;have HG:=Lh hg;have HW2:=Lh hW2;have HB2:=Lh hb2;have HV:=Lh hV;have HE:=Lh hE;have HZL:=Lh hZL;have HZS:=Lh hZS;have HLF:=Lh hlf;have HFL4:Hid (lf<=400):=Lh (by rw[<-hlf];exact hfl);have HFR:=Lh hF;have HOK:=Lh hok;have hnn:=dO;clear hck hSB hRS hRR hFD hg hW2 hb2 hA2 hL2 hV hE hZL hZS hlf hfl hF hK9 hKl hN hok hlk hPA;go_enter Tryz.func19,Tryz.ntmps19
 go_upto_region 1 with fail
 rw[HW2.out,HG.out];apply wp_region_lit;refine wpList_load_row rfl 24 (.tmp 7) rfl g rfl 24 PA (0,0) _ (HPP.out W2 qB) Tryz.underlying24 rfl HPS.out ?_;refine wpList_plain rfl (fun K hK=>?_);go_simp;refine HCK.out.mono ?_;rintro e W3 ⟨v,rfl,hv,hb3⟩;refine hK _ _ ?_;clear hK K HCK;have HB3:=Lh hb3;clear hb3;refine qP ?_;rcases hv with ⟨h0,rfl⟩|⟨h0,b,rfl,hw⟩
 rotate_left
 ·have hwr:=mu (v:=jQ b) (.inr ⟨h0,b,rfl,hw⟩) (HSZ.out W3 HB3.out) qD ZS;have hsb:SB=Da.ef (Da.aU p):=by rw[<-HSB.out];unfold Da.bj;rw[if_neg h0]
  have HSB0:Hid (SB≠0):=Lh (by rw[hsb];exact fun h=>h0 ((Da.dW (Da.fO p)).1 h));have HSV:Hid (SeV A p SB (W3.setRow (g+1) ZS) (jQ b)):=Lh (.inl ⟨h0,hwr⟩);have HBF:Hid (Below W.heap.size W (W3.setRow (g+1) ZS)):=Lh ((Ks HB2.out HB3.out).trans (aA (by have:=HG.out;omega)));have HLW:=Lh (HSZ.out W3 HB3.out);have hq:=fU b;unfold jQ at hq⊢;clear h0 hw hwr hsb;go_upto_region 3 with fail
  apply wp_region_lit;iterate 2 (refine qP ?_)
  refine wpList_store_rowTo rfl 57 (.tmp 8) (.tmp 19) rfl rfl (g+1) ZS rfl rfl 57 ZS HLW.out HSS.out rfl HSO.out ?_;go_wp2_with fail;refine bodyPost_ret (aD rfl _ _ (g+1) 57 ZS (0,0) _ rfl (setRow_heap _ _ _ _ _ _ HLW.out) Tryz.underlying57 rfl HSS.out) rfl ?_;obtain⟨q1,q2,q3⟩:=HERR.out HSB0.out;exact⟨.slice none 0 0,_,by rw[q1,q2,HZS.out];rfl,by rw[q3];exact RbF.nil _ _,HSV.out,HBF.out⟩
 have H0:=Lh h0;clear h0;have hcs:=HSE.out W3 HB3.out;by_cases hsz:(lf:Int)=p.sz
 rotate_left
 ·have hq1:((lf:Int) !=p.sz)=true:=by rw[bne_iff_ne];exact hsz
  have hq2:((lf:Int)==p.sz)=false:=beq_false_of_ne hsz;have hsb:SB=8:=by rw[<-HSB.out];unfold Da.bj;rw[if_pos H0.out,HLF.out,if_neg hsz]
  have HSB0:Hid (SB≠0):=Lh (by rw[hsb];omega);have HSV:Hid (∀w',SeV A p SB w' (.iface 302 (.pointer (some (A 7))))):=Lh fun w'=>.inr ⟨H0.out,by rw[hsb];rfl⟩
  have hBE:=(HE.out.later HB2.out);have hc7:=(hBE.later HB3.out).c7;have hne:(7:Nat)≠g+1:=by
   have h1:=de HE.out.c7;have h2:=HG.out;have h3:(7:Nat)<W.heap.size:=h1;omega
  obtain⟨SS,hS⟩:∃SS:World->Prop,(fun v:World=>v.cell? ⟨7,0,none⟩=some (.iface 302 (.pointer (some (A 7))))/\v.heap[g+1]? =some (.cells ZS 57 (0,0))/\Below W.heap.size W v)=SS:=⟨_,rfl⟩;have HSm:Hid (∀v,SS v->v.cell? ⟨7,0,none⟩=some (.iface 302 (.pointer (some (A 7))))/\v.heap[g+1]? =some (.cells ZS 57 (0,0))/\Below W.heap.size W v):=Lh fun v hv=>by rw[<-hS]at hv;exact hv
  have HSi:Hid (∀v,v.cell? ⟨7,0,none⟩=some (.iface 302 (.pointer (some (A 7))))/\v.heap[g+1]? =some (.cells ZS 57 (0,0))/\Below W.heap.size W v->SS v):=Lh fun v hv=>by rw[<-hS];exact hv
  have hCC:SS {W3 with drawn:=W3.drawn+1}:=HSi.out _ ⟨hc7,HSZ.out W3 HB3.out,Ks (Ks HB2.out HB3.out) (Kit.dn' W3 1)⟩;have HNE:=Lh hne;clear hS hsb hBE hc7 hsz hne;go_upto_region 5 with fail
  refine wp_region_held (S:=SS) qK ?_;refine aI (i:=0) (x:=.agg ZS) rfl rfl qK qK qK qI (Or.inl ⟨qK,fun w hw=>qG⟩) hCC ?_;simp only[qA,qZ,qC];refine aI (i:=1) (x:=.iface 302 (.pointer (some (A 7)))) rfl rfl qK qK qK qI (Or.inl ⟨qK,fun w hw=>by have hc:=(HSm.out w hw).1;(go_simp<;>with_reducible rfl)⟩) hCC ?_;simp only[qA,qZ,qC];refine dF (i:=2) qK rfl qK (fun K hK=>?_);obtain⟨V0,hV0⟩:∃V0,({W3 with drawn:=W3.drawn+1}:World)=V0:=⟨_,rfl⟩;rw[hV0]at hCC;first|rw[hV0]|rw[show World.drew W3=V0 from hV0]
  obtain⟨s1,s2,s3⟩:=HSm.out _ hCC;have hC2:SS (V0.setRow (g+1) ZS):=HSi.out _ ⟨FT s1 HNE.out ZS,setRow_heap _ _ _ _ _ _ s2,s3.trans (aA (by have:=HG.out;omega))⟩;refine wp_store_row 57 (.tmp 8) (.tmp 26) rfl (g+1) ZS rfl rfl 57 ZS s2 HSS.out rfl HSO.out (hK _ _ hC2 ?_);clear hK K s1 s2 s3 hCC hV0;refine aI (i:=3) (x:=.iface 302 (.pointer (some (A 7)))) rfl rfl qK qK qK qI (Or.inl ⟨qK,fun w hw=>qG⟩) hC2 ?_;try simp only[qA,qZ,qC]
  refine wpAnyH_done qK ?_ _;have HC2:=Lh (HSm.out _ hC2);clear hC2;go_wp2_with fail;refine bodyPost_ret (aD rfl _ _ (g+1) 57 ZS (0,0) _ rfl HC2.out.2.1 Tryz.underlying57 rfl HSS.out) rfl ?_;obtain⟨q1,q2,q3⟩:=HERR.out HSB0.out;exact⟨.slice none 0 0,_,by rw[q1,q2,HZS.out];rfl,by rw[q3];exact RbF.nil _ _,HSV.out _,HC2.out.2.2⟩
 have hq1:((lf:Int) !=p.sz)=false:=by rw[bne_eq_false_iff_eq];exact hsz
 have HSZE:=Lh hsz;have HLY:=Lh (HLYF.out W3 HB3.out);have HBX:=Lh HB3.out;have hsb:SB=Da.dN (Da.aj K9.length) (Da.inR N):=by rw[<-HSB.out];unfold Da.bj;rw[if_pos H0.out,HLF.out,if_pos hsz]
 have HSA:=Lh hsb;clear hsz hsb HLYF;go_upto_region 6 with fail
 apply wp_region_lit;iterate 2 (refine qP ?_)
 refine wpList_load_row rfl 24 (.tmp 7) rfl g rfl 24 PA (0,0) _ (HPP.out W3 HB3.out) Tryz.underlying24 rfl HPS.out ?_;refine wpList_plain rfl (fun K hK=>?_);go_simp;refine HLY.out.mono ?_;rintro e V2 ⟨L,v,rfl,hly,hb2⟩;refine hK _ _ ?_;clear hK K HLY;obtain⟨gl,hgl⟩:=qM V2.heap.size;obtain⟨FL,hFL⟩:=qM L.toArray;obtain⟨V3,hV3⟩:=qM (V2.alloc (.cells ZL 106));have hz3:V3.heap[gl]? =some (.cells ZL 106 (0,0)):=by rw[<-hV3,<-hgl];exact World.alloc_heap_new V2 _
 obtain⟨V4,hV4⟩:=qM (V3.setRow gl FL);have hA4:Arr V4 gl 106 L:=by rw[<-hV4];unfold Arr;rw[hFL];exact setRow_heap _ _ _ _ _ _ hz3
 have hb4:Below V2.heap.size V2 V4:=by rw[<-hV4,<-hV3];exact(aH _ _).trans (aA (Nat.le_of_eq hgl))
 have HLS:Hid ((Tryz.prog.info? 106).map (·.size)=some FL.size):=Lh (by rw[mt,<-hFL,hly.1]);have HLQ:Hid (ZL.size=FL.size):=Lh (by rw[<-hFL,hly.1,<-HZL.out];rfl);have HLO:Hid (FL.all (·.oneCell')=true):=Lh (by rw[<-hFL];exact hly.2.1);have hcs:=(hly.later hb4).2.2;have HA4:=Lh hA4;have HZ3:=Lh hz3;have HV3:=Lh hV3;have HV4:=Lh hV4;have HGL:=Lh hgl;have HFL:=Lh hFL;have HB4:=Lh (Ks (Ks HBX.out hb2) hb4);have HCS:=Lh hcs;rw[hFL];clear hly hb2 hgl hFL hV3 hz3 hV4 hA4 hb4 hcs;iterate 4 (refine qP ?_)
 rw[HV3.out,HGL.out];refine wpList_store_rowTo rfl 106 (.tmp 11) (.tmp 33) rfl rfl gl FL rfl rfl 106 ZL HZ3.out HLS.out HLQ.out HLO.out ?_;rw[HV4.out];clear HV3 HV4 HZ3;refine qP ?_;rcases HCS.out with ⟨hr,rfl,xs,go,q,hLe,h5,hx,hO⟩|⟨hr,hsv,hn1,hn2⟩
 rotate_left
 ·have hab:Da.dN (Da.aj K9.length) (Da.inR N)≠0:=by
   unfold Da.fH at hr;rw[if_pos H0.out]at hr;exact hr
  have HSB0:Hid (SB≠0):=Lh (by rw[HSA.out];exact hab);have HSV:Hid (SeV A p SB (V4.setRow (g+1) ZS) v):=Lh (by
   rcases hsv with ⟨h1,_⟩|⟨h1,h2⟩
   ·exact absurd H0.out h1
   ·exact .inr ⟨h1,by rw[h2,HSA.out]⟩)
  have HBF:Hid (Below W.heap.size W (V4.setRow (g+1) ZS)):=Lh ((Ks HB2.out HB4.out).trans (aA (by have:=HG.out;omega)));have HLW:=Lh (HSZ.out V4 HB4.out);clear hr hsv HCS hab;go_upto_region 8 with fail
  apply wp_region_lit;iterate 2 (refine qP ?_)
  refine wpList_store_rowTo rfl 57 (.tmp 8) (.tmp 37) rfl rfl (g+1) ZS rfl rfl 57 ZS HLW.out HSS.out rfl HSO.out ?_;go_wp2_with fail;refine bodyPost_ret (aD rfl _ _ (g+1) 57 ZS (0,0) _ rfl (setRow_heap _ _ _ _ _ _ HLW.out) Tryz.underlying57 rfl HSS.out) rfl ?_;obtain⟨q1,q2,q3⟩:=HERR.out HSB0.out;exact⟨.slice none 0 0,_,by rw[q1,q2,HZS.out];rfl,by rw[q3];exact RbF.nil _ _,HSV.out,HBF.out⟩
 have h0:=Da.gK hr;have HSB0:Hid (SB=0):=Lh (by rw[HSA.out];exact h0.2);have hR:=Da.cN H0.out;have hly4:Ly16At K9 N p L V4:=⟨xs,go,q,hLe,h5,hx,hO⟩;have hn90:=Da.Ed hR (by have:=HSZE.out;have:=HFL4.out;omega);obtain⟨n,hne⟩:=qM (Da.n16 p);have hbl:=zv A V4 K9 N p L oF cF F hR (by rw[HLF.out];exact HSZE.out) (by rw[HLF.out];exact HFL4.out) hly4 (HFR.out.later (Ks HB2.out HB4.out)) (HV.out.later (Ks HB2.out HB4.out)) (HE.out.later (Ks HB2.out HB4.out));rw[hne]at hn90;rw[HFL.out,HLF.out,hne]at hbl;have HFH:Hid (∀w',Below V4.heap.size V4 w'->w'.heap[gl]? =some (.cells FL 106 (0,0))):=Lh fun w' hb=>by
  have:=HA4.out.later hb HA4.out.lt;unfold Arr at this;rw[HFL.out]at this;exact this
 have HBL:=Lh hbl;have HLY4:=Lh hly4;have HNE:=Lh hne;have HN90:=Lh hn90;clear hr hLe h5 hx hO h0 hR hly4 hn90 hne hbl HCS hcs;go_upto_region 9 with fail
 apply wp_region_lit;refine wpList_load_row rfl 106 (.tmp 11) rfl gl rfl 106 FL (0,0) _ (HFH.out V4 qB) Tryz.underlying106 rfl HLS.out ?_;refine qP ?_;refine wpList_plain rfl (fun K hK=>?_);go_simp;refine HBL.out.mono ?_;rintro e V5 ⟨y,rfl,hy,hb5⟩;refine hK _ _ ?_;clear hK K HBL;obtain⟨oy,cy,rfl,hry⟩:=hy;rw[Da.dz];have hld:=FS V5 K9 N F p L n HNE.out (by have:=HN90.out;omega) (by have:=HN90.out;omega) (HLY4.out.later hb5) oy cy hry (HV.out.later (Ks (Ks HB2.out HB4.out) hb5));rw[HFL.out]at hld;have HLD:=Lh hld;have HL5:=Lh hb5;have HB5:=Lh (Ks HB4.out hb5);clear hry hb5 hld;iterate 5 (refine qP ?_)
 go_upto_region 12 with fail
 apply wp_region_lit;refine wpList_load_row rfl 106 (.tmp 11) rfl gl rfl 106 FL (0,0) _ (HFH.out V5 HL5.out) Tryz.underlying106 rfl HLS.out ?_;refine qP ?_;refine wpList_plain rfl (fun K hK=>?_);go_simp;refine HLD.out.mono ?_;rintro e V6 ⟨gs,ys,rfl,hgs,hAs,hEs,hfr,hb6⟩;refine hK _ _ ?_;clear hK K HLD;have HB6:=Lh (Ks HB5.out hb6);have hal:(Da.dx K9 N F p).length=n:=by rw[Da.fe,HNE.out]
 obtain⟨AL,hAL⟩:=qM (Da.dx K9 N F p);rw[hAL]at hEs hal;have hrt:=Jt AL (some ⟨gs,0,none⟩) n n hal V6 (wV hAs hEs hal (by have:=HN90.out;omega)) (HV.out.later (Ks HB2.out HB6.out)) (by have:=HN90.out;omega) (fun i hi=>by
  have:=Da.lA K9 N F p (by rw[HNE.out];have:=HN90.out;omega) i (by rw[HNE.out,<-hal];exact hi);rw[hAL]at this;omega)
 obtain⟨RA,hRA⟩:=qM ((bytesV (Da.mth AL)).toArray);rw[hRA]at hrt;have HRT:=Lh hrt;have HRA:=Lh hRA;have HAS:=Lh hAs;have HES:=Lh hEs;have HFRS:=Lh hfr;have HGS:Hid (g+1<gs/\g+1<V5.heap.size):=Lh ⟨by have:=HGL2.out;have:=HB5.out.size;omega,by have:=HGL2.out;have:=HB5.out.size;omega⟩;have HALE:=Lh hAL;have HALN:=Lh hal;clear hgs hAs hEs hfr hb6 hal hAL hrt hRA;refine qP ?_;go_upto_region 13 with fail
 apply wp_region_lit;iterate 2 (refine qP ?_)
 refine wpList_plain rfl (fun K hK=>?_);go_simp;refine HRT.out.mono ?_;rintro e V7 ⟨rfl,hb7⟩;refine hK _ _ ?_;clear hK K HRT;obtain⟨gf,hgf⟩:=qM V7.heap.size;obtain⟨V8,hV8⟩:=qM (V7.alloc (.cells #[.slice oF lf cF] 22));have hb8:Below V7.heap.size V7 V8:=by rw[<-hV8];exact aH _ _
 have hb78:=Ks hb7 hb8;have hrb:RbIs V8 (some ⟨gf,0,none⟩) [F] 1:=by
  have:=jo (HFR.out.later (Ks (Ks HB2.out HB6.out) hb7));rw[HLF.out,hV8,hgf]at this;exact this
 have hso:=mN [F] (some ⟨gf,0,none⟩) 1 V8 hrb (HV.out.later (Ks (Ks HB2.out HB6.out) hb78)) (by have h4:=HFL4.out;have hl:=HLF.out;simp[hl];omega) qS;rw[show[F].flatten=F by simp,show([F]:L8).length=1 from rfl]at hso;obtain⟨FA,hFA⟩:=qM ((bytesV (Da.sha F)).toArray);rw[hFA]at hso;have HSO2:=Lh hso;have HFA:=Lh hFA;have HB8:=Lh (Ks HB6.out hb78);have HAS8:=Lh (HAS.out.later hb78 HAS.out.lt);have HES8:=Lh (HES.out.later hb78);have HV8:=Lh hV8;have HGF:=Lh hgf;clear hb7 hgf hV8 hb8 hb78 hrb hso hFA HAS HES;refine qP ?_;refine wpList_plain rfl (fun K hK=>?_);go_simp;rw[HV8.out,HGF.out];refine hK _ _ ?_;clear hK K;refine wpList_plain rfl (fun K hK=>?_);go_simp;refine HSO2.out.mono ?_;rintro e V9 ⟨rfl,hb9⟩;refine hK _ _ ?_;clear hK K HSO2;have HLW:=Lh (HSZ.out V9 (Ks HB8.out hb9));have hAs9:=HAS8.out.later hb9 HAS8.out.lt;have hEs9:=HES8.out.later hb9;obtain⟨SA,hSA⟩:=qM ((jJ (.slice (some ⟨gs,0,none⟩) n n) (Da.mth AL) (Da.sha F)).toArray);have hml:=Da.gE AL;have hsl:=Da.ai F;have HBT:Hid (Tryz.prog.built 57 [(0,.slice (some ⟨gs,0,none⟩) n n),(1,.agg RA),(2,.agg FA)]=some SA):=Lh (by rw[<-HRA.out,<-HFA.out,<-hSA];exact Ka _ _ _ _ _ hml hsl);have HAS1:Hid ((Tryz.prog.info? 57).map (·.size)=some SA.size):=Lh (by rw[rW,<-hSA];simp[ip,hml,hsl]);have HAS2:Hid (ZS.size=SA.size):=Lh (by rw[HS65.out,<-hSA];simp[ip,hml,hsl]);have HAS3:Hid (SA.all (·.oneCell')=true):=Lh (by rw[<-hSA];exact uB _ rfl _ _);have HBF:Hid (Below W.heap.size W (V9.setRow (g+1) SA)):=Lh ((Ks HB2.out (Ks HB8.out hb9)).trans (aA (by have:=HG.out;omega)));have HRB:Hid (RbF W.heap.size AL (.slice (some ⟨gs,0,none⟩) n n) (V9.setRow (g+1) SA)):=Lh (Kc (bE hAs9 (by have:=HGS.out;omega) SA) (qY hEs9 (kn V9 (g+1) SA) (fun ad l c hm h=>by
  have h1:=HFRS.out ad l c hm;have h2:=HGS.out;injection h with h
  omega)) HALN.out (by have:=HN90.out;omega) (by have:=HGS.out;have:=HG.out;omega) fun a q k hm=>by
   have h1:=HFRS.out a q k hm;have h2:=HGS.out;have h3:=HG.out;omega)
 have HSAE:=Lh hSA;clear hAs9 hEs9 hSA hml hsl hb9;refine bN rfl 57 _ rfl [(0,.slice (some ⟨gs,0,none⟩) n n),(1,.agg RA),(2,.agg FA)] (by simp[Act.eval]) _ HBT.out ?_;refine wpList_store_rowTo rfl 57 (.tmp 8) (.tmp 58) rfl rfl (g+1) SA rfl rfl 57 ZS HLW.out HAS1.out HAS2.out HAS3.out ?_;go_wp2_with fail;refine bodyPost_ret (aD rfl _ _ (g+1) 57 SA (0,0) _ rfl (setRow_heap _ _ _ _ _ _ HLW.out) Tryz.underlying57 rfl HAS1.out) rfl ?_;obtain⟨q1,q2,q3⟩:=HOKK.out HSB0.out;rw[HALE.out]at q1 q3;exact⟨.slice (some ⟨gs,0,none⟩) n n,.nilIface,by rw[q1,q2,HSAE.out];rfl,by rw[q3];exact HRB.out,.inr ⟨H0.out,by rw[HSB0.out];rfl⟩,HBF.out⟩
theorem tI(A:Nat->Addr)(W:World)(oK:Option Addr)(cK:Nat)(K9:BL)(N:Int)(oF:Option Addr)(cF:Nat)(F:BL)(p:Pm15)(hK9:RowIs W oK (bytesV K9) cK)(hF:RowIs W oF (bytesV F) cF)(hKl:K9.length<=100)(hfl:F.length<=400)(hN:bG N)(hok:p.ok)(hV:Cds W)(hE:E16 W A):
  Calls Tryz.prog 19 #[.slice oK K9.length cK,.int .i64 N,.slice oF F.length cF,.agg (pmA p)] W fun e w'=>∃x v,e=.returned (.tuple #[.agg (jJ x (if Da.bj K9 N F p=0 then Da.mth (Da.dx K9 N F p)else Da.gJ) (if Da.bj K9 N F p=0 then Da.sha F else Da.gJ)).toArray,v])/\RbF W.heap.size (if Da.bj K9 N F p=0 then Da.dx K9 N F p else[]) x w'/\SeV A p (Da.bj K9 N F p) w' v/\Below W.heap.size W w':=FU _ rfl rc _ rfl CM FN A W oK cK K9 N oF cF F p hK9 hF hKl hfl hN hok hV hE
