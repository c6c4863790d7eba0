/- Hk -/
import Derived.Test.YteldgablpehcpaaGreatDoorHq
import Derived.Deep.Cut
import Derived.Deep.CutBlock
import Derived.Maps.AppendAt
import Derived.OwnWalk
import Derived.Great.BuildSlice
import Derived.Test.YteldgablpehcpaaGreatDoorGn
set_option linter.unusedVariables false
set_option linter.unusedSimpArgs false
set_option maxRecDepth 100000
set_option maxHeartbeats 8000000
namespace Go.Proofs.YteldgablpehcpaaGreatDoor
open Go.RowKit
def hcs(st:List UInt32)(rs:BL)(n:Nat):List Value:=ar st++(bytesV rs++[.int .i64 (n:Int)])
theorem eB{st:List UInt32}{rs:BL}(n:Nat)(h:st.length=8)(k:rs.length=64):(hcs st rs n).length=73:=by simp[hcs,h,k]
theorem fY{st:List UInt32}{rs:BL}(n:Nat)(h:st.length=8)(k:rs.length=64):(hcs st rs n)[72]? =some (.int .i64 (n:Int)):=by
 unfold hcs;rw[List.getElem?_append_right (by simp[h]),List.getElem?_append_right (by simp[h,k])];simp[h,k]
theorem sC{st:List UInt32}{rs:BL}(n:Nat)(h:st.length=8):∀j v,(ar st)[j]? =some v->(hcs st rs n)[0+j]? =some v:=fun j v hv=>by
 have hj:j<(ar st).length:=(List.getElem?_eq_some_iff.1 hv).1;unfold hcs;rw[Nat.zero_add,List.getElem?_append_left hj];exact hv
theorem Ae{st:List UInt32}{rs:BL}(n:Nat)(h:st.length=8):∀j v,(bytesV rs)[j]? =some v->(hcs st rs n)[8+j]? =some v:=fun j v hv=>by
 have hj:j<(bytesV rs).length:=(List.getElem?_eq_some_iff.1 hv).1;unfold hcs;rw[List.getElem?_append_right (by simp[h]),show 8+j-(ar st).length=j by simp[h],List.getElem?_append_left hj];exact hv
theorem GH{st:List UInt32}{rs:BL}(n m:Nat)(h:st.length=8)(k:rs.length=64):(hcs st rs n).set 72 (.int .i64 (m:Int))=hcs st rs m:=by
 unfold hcs;rw[List.set_append_right _ _ (by simp[h]),List.set_append_right _ _ (by simp[h,k])];simp[h,k]
theorem ul{st st':List UInt32}{rs:BL}(n:Nat)(h:st.length=8)(h':st'.length=8):laid (hcs st rs n) 0 (ar st')=hcs st' rs n:=by
 unfold laid hcs;simp only[List.take_zero,List.nil_append,Nat.zero_add];rw[List.drop_left' (by simp[h,h'])]
theorem Af{st:List UInt32}{rs:BL}(n m:Nat)(r:BL)(h:st.length=8)(k:rs.length=64)(hm:m+r.length<=64):
  (hcs st rs n).take (8+m)++(bytesV r++(hcs st rs n).drop (8+m+(bytesV r).length))=hcs st (Da.over rs m r) n:=by
 unfold hcs Da.over;rw[List.take_append,List.drop_append];rw[List.take_of_length_le (by simp[h]),List.drop_eq_nil_of_le (by simp[h];omega)];simp only[AK,h,bytesV_length,List.nil_append];rw[show 8+m-8=m by omega,show 8+m+r.length-8=m+r.length by omega];rw[List.take_append_of_le_length (by simp[k];omega),List.drop_append_of_le_length (by simp[k];omega)];simp[bytesV,List.map_take,List.map_drop]
structure HashAt(W:World)(b:Nat)(p:BL)(st:List UInt32)(rs:BL):Prop where
 arr:Arr W b 194 (hcs st rs p.length)
 slen:st.length=8
 rlen:rs.length=64
 ok:p≠[]->Da.Hok p st rs
def Hash(W:World)(b:Nat)(p:BL):Prop:=∃st rs,HashAt W b p st rs
theorem Arr.kept{W W':World}{b:Nat}{T:TypeId}{xs:List Value}{row:Option Nat}(h:Arr W b T xs)(hg:W.grownBy W' row)(hne:some b≠row):Arr W' b T xs:=by
 unfold Arr;rw[hg.block b h.lt hne];exact h
theorem Hash.kept{W W':World}{b:Nat}{p:BL}{row:Option Nat}(h:Hash W b p)(hg:W.grownBy W' row)(hne:some b≠row):Hash W' b p:=by
 obtain⟨st,rs,h⟩:=h;exact⟨st,rs,h.arr.kept hg hne,h.slen,h.rlen,h.ok⟩
theorem gU{W W':World}{B:Nat}{row:Option Nat}(hb:Below W.heap.size W W'):W.grownBy W' row:=⟨hb.os,hb.tape,hb.output,hb.size,fun k hk _=>hb.block k hk⟩
theorem below_grown{B b:Nat}{W0 W W':World}(hb:Below B W0 W)(hg:W.grownBy W' (some b))(hB:B<=b)(hs:B<=W.heap.size):Below B W0 W':=
 ⟨hg.os.trans hb.os,hg.tape.trans hb.tape,hg.output.trans hb.output,Nat.le_trans hb.size hg.size,fun k hk=>(hg.block k qO (fun e=>by cases e;omega)).trans (hb.block k hk)⟩
theorem RowIs.kept{W W':World}{o:Option Addr}{vs:List Value}{c:Nat}{row:Option Nat}(h:RowIs W o vs c)(hg:W.grownBy W' row)(hne:0<vs.length->∀ad,o=some ad->some ad.block≠row):RowIs W' o vs c:=
 ⟨h.le,h.cap,h.nil,fun h0=>by
  obtain⟨b,off,e,hlt,hc⟩:=h.cells h0;exact⟨b,off,e,Nat.lt_of_lt_of_le hlt hg.size,fun i v hv=>by
   rw[World.cell?_of_block (hg.block b hlt (hne h0 _ e))];exact hc i v hv⟩⟩
theorem Var.kept{W W':World}{n:Nat}{xs:List UInt32}{row:Option Nat}(h:Var W n xs)(hg:W.grownBy W' row)(hne:some n≠row):Var W' n xs:=
 ⟨Nat.lt_of_lt_of_le h.lt hg.size,fun j v hv=>by rw[World.cell?_of_block (hg.block n h.lt hne)];exact h.at_ j v hv⟩
theorem lN{W:World}{b:Nat}{T:TypeId}{xs:List Value}(h:Arr W b T xs)(i:Nat)(v:Value):W.grownBy (W.setCell ⟨b,i,none⟩ v) (some b):=by
 rw[setCell_eq_setRow W b i _ _ _ v h];exact⟨rfl,rfl,rfl,by simp[World.setRow],fun k hk hn=>setRow_other _ _ _ _ (fun e=>hn (by rw[e]))⟩
theorem i7{W:World}{b:Nat}(cs:Array Value):W.grownBy (W.setRow b cs) (some b):=
 ⟨rfl,rfl,rfl,by simp[World.setRow],fun k hk hn=>setRow_other _ _ _ _ (fun e=>hn (by rw[e]))⟩
theorem mL{b:Nat}{T:TypeId}:∀(vs:List Value)(o:Nat){W:World}{xs:List Value},Arr W b T xs->W.grownBy (W.setCells b o vs) (some b)
 |[],o,W,xs,h=>⟨rfl,rfl,rfl,Nat.le_refl _,fun _ _ _=>rfl⟩
 |v::vs,o,W,xs,h=>by
  rw[World.setCells];exact(lN h o v).trans (mL vs (o+1) (h.set o v))
theorem I2:(Tryz.prog.info? 194).map (·.size)=some 73:=qK
def pV:Value->Nat
 | .slice _ n _=>n
 |_=>0
def Pt1(p r:BL)(b:Nat)(w:World)(x:Value)(wr:World):Prop:=
 ∃(k:Nat)(o:Option Addr)(c:Nat)(st:List UInt32)(rs:BL),k<=r.length/\x=.slice o (r.length-k) c/\RowIs wr o (bytesV (r.drop k)) c/\(0<r.length-k->∀ad,o=some ad->ad.block≠b)/\
  Arr wr b 194 (hcs st rs (p++r.take k).length)/\Da.Hok (p++r.take k) st rs/\w.grownBy wr (some b)/\Var wr 23 Da.cubes
theorem Pt1.next{p r:BL}{b:Nat}{w W1 W:World}{k:Nat}{q rr:BL}{b1 off1 c1 t:Nat}{st':List UInt32}{rs':BL}(hk:k<=r.length)(hq:p++r.take k=q)(hrr:r.drop k=rr)
  (hr1:RowIs W1 (some ⟨b1,off1,none⟩) (bytesV rr) c1) (hn1:b1≠b) (ht:t<=rr.length) (hG:W1.grownBy W (some b)) (hg1:w.grownBy W1 (some b)) (hv:Var W1 23 Da.cubes) (hb: 23≠b)
  (hA:Arr W b 194 (hcs st' rs' (q++rr.take t).length)) (hok:Da.Hok (q++rr.take t) st' rs'):
  Pt1 p r b w (.slice (if c1=t then some {block:=b1,off:=off1} else some {block:=b1,off:=off1+t}) (rr.length-t) (c1-t)) W:=by
 have hrl:rr.length=r.length-k:=by rw[<-hrr,List.length_drop]
 have e1:p++r.take (k+t)=q++rr.take t:=by rw[<-hq,<-hrr,List.take_add,List.append_assoc]
 have e2:r.drop (k+t)=rr.drop t:=by rw[<-hrr,List.drop_drop]
 have hr2:=hr1.kept hG (fun _ ad e=>by cases e;exact fun e=>hn1 (by cases e;rfl));have hle:=hr2.le;have hcap:=hr2.cap;simp only[bytesV_length]at hle;refine⟨k+t,_,_,st',rs',qO,by rw[show r.length-(k+t)=rr.length-t by omega],?_,?_,by rw[e1];exact hA,by rw[e1];exact hok,hg1.trans hG,hv.kept hG (fun e=>hb (by cases e;rfl))⟩
 ·rw[e2];refine⟨by simp;omega,qO,fun h=>by(split at h<;>cases h),fun h0=>?_⟩;have h1:t<rr.length:=by simp at h0;omega
  rw[if_neg qO];obtain⟨b2,off2,e,hlt,hc⟩:=hr2.cells (by simp;omega);cases e
  refine⟨b1,off1+t,rfl,hlt,fun i v hv=>?_⟩;have:=hc (t+i) v (by
   rw[<-hv];simp[bytesV,List.getElem?_drop])
  rw[show off1+t+i=off1+(t+i) by omega];exact this
 ·intro _ ad e;split at e<;>cases e<;>exact hn1
theorem tY(b:Nat)(p r:BL)(o:Option Addr)(c:Nat)(w:World)(h:Hash w b p)(hr:RowIs w o (bytesV r) c)(hne:0<r.length->∀ad,o=some ad->ad.block≠b)(hb: 23≠b/\ 22≠b)
  (hV:Var w 23 Da.cubes) (hV2:Var w 22 Da.begins) (hl:p.length+r.length<=1000000):
  Calls Tryz.prog 69 #[.pointer (some ⟨b,0,none⟩),.slice o r.length c] w fun e w'=>e=.returned (.pointer (some ⟨b,0,none⟩))/\Hash w' b (p++r)/\w.grownBy w' (some b):=by
 obtain⟨st,rs,h⟩:=h;have hc:w.cell? ⟨b,72,none⟩=some (.int .i64 (p.length:Int)):=by rw[h.arr.cell];exact fY _ h.slen h.rlen
 have H:=Lh h;have HR:=Lh hr;have HN:=Lh hne;have HV:=Lh hV;have HBN:=Lh hb;obtain⟨F,hF⟩:=qM ((ar Da.begins).toArray);have HFO:Hid (F.all (·.oneCell')=true):=Lh (by rw[<-hF];exact all_oneCell_toArray (jB _));have HFI:Hid ((Tryz.prog.info? 120).map (·.size)=some F.size):=Lh (by rw[iA,<-hF];rfl);have HFL:Hid (w.rangeAt 22 0 (ar Da.begins)):=Lh hV2.at_;have HFE:=Lh hF;have HTH:Hid (w.there b 0 F.size):=Lh (h.arr.there 0 _ (by rw[eB _ h.slen h.rlen,<-hF];decide));clear h hr hne hV hb hF hV2;go_enter Tryz.func69,Tryz.ntmps69
 have HFL':Hid ((Tryz.prog.info? 120).map (·.size)=some (ar Da.begins).length):=Lh (by rw[iA];rfl);go_upto_region 2 with fail
 ·rename_i hp0;have hp:p=[]:=by simpa using hp0
  obtain⟨W0,hW0⟩:=qM (w.setCells b 0 F.toList);have hg:w.grownBy W0 (some b):=by rw[<-hW0];exact mL _ _ H.out.arr
  have hX:Pt1 p r b w (.slice o r.length c) W0:=by
   refine⟨0,o,c,Da.begins,rs,Nat.zero_le _,rfl,by simpa using HR.out.kept hg (fun h0 ad e h=>HN.out (by simpa using h0) ad e (by cases h;rfl)),HN.out,?_,?_,hg,HV.out.kept hg (fun e=>HBN.out.1 (by cases e;rfl))⟩
   ·rw[<-hW0,<-HFE.out];have:=Arr.sets (ar Da.begins) 0 H.out.arr (by rw[eB _ H.out.slen H.out.rlen];decide);rw[ul _ H.out.slen rfl]at this;simpa[hp]using this
   ·simpa[hp]using Da.Hok.zero rs H.out.rlen
  have HW0:=Lh hW0;have HX:=Lh hX;clear hp0 hW0 hg hX;apply wp_region_lit;refine qP ?_;refine wpList_load_mid rfl 120 (.global 22) rfl 22 0 rfl (ar Da.begins) _ HFL.out fK rfl HFL'.out ?_;rw[HFE.out];refine qP ?_;refine qP ?_;refine fy rfl 120 (.tmp 14) (.tmp 12) rfl rfl b 0 F rfl rfl HTH.out HFI.out HFO.out ?_;rw[HW0.out];clear HTH HFL HFI HFO hc HW0 H HR HV;go_wp2_with fail;go_loopw [1] (fun x wr=>Pt1 p r b w x wr) (fun x _=>pV x)
  case atStart=>exact HX.out
  case round=>
   rename World=>W1
   obtain⟨k,o1,c1,st1,rs1,hk,rfl,hr1,hn1,ha1,hok1,hg1,hv1⟩:=hrel;obtain⟨q,hq⟩:=qM (p++r.take k);obtain⟨rr,hrr⟩:=qM (r.drop k);have hrl:r.length-k=rr.length:=by rw[<-hrr,List.length_drop]
   have hql:q.length+rr.length=p.length+r.length:=by rw[<-hq,List.length_append,List.length_take,<-hrl];omega
   rw[hq]at ha1 hok1;rw[hrr]at hr1;rw[hrl];by_cases hpos:0<rr.length
   ·have hd1:decide ((rr.length:Int)>0)=true:=by simpa using hpos
    obtain⟨b1,off1,rfl,hlt1,hcell1⟩:=hr1.cells (by simpa using hpos);have hcnt:W1.cell? ⟨b,72,none⟩=some (.int .i64 (q.length:Int)):=by rw[ha1.cell];exact fY _ hok1.slen hok1.len
    obtain⟨n,hn⟩:=qM q.length;rw[hn]at hcnt;obtain⟨m,hm⟩:=qM (n % 64);have hm0:Int.tmod (n:Int) 64=(m:Int):=by rw[<-hm];rfl
    have hml:m<64:=qO;have hm1:(m:Int)<64:=qO;have hm2:(m:Int)<=64:=qO;have hm3:¬m=64:=qO;have hm4:¬64=m:=qO;have hm5:m<=64:=qO;have HM:=Lh hm;have HQ:=Lh hq;have HRR:=Lh hrr;have HRL:=Lh hrl;have HQL:=Lh hql;have HNN:=Lh hn;clear hm hq hrr hrl hql hn;have HR1:=Lh hr1;have HA1:=Lh ha1;have HO1:=Lh hok1;have HG1:=Lh hg1;have HN1:=Lh (hn1 (by rw[HRL.out];exact hpos));have HV1:=Lh hv1;have HC1:=Lh hcell1;clear hr1 ha1 hok1 hg1 hn1 hv1 hcell1;go_upto_region 4 with fail
    refine Qt.di 10 qK qK ?_;simp only[List.take_succ_cons,List.take_zero,List.drop_succ_cons,List.drop_zero];repeat (quiet_step (fail))
    refine wpQuiet_nil ?_;intro _ hw';obtain⟨nq,hw''⟩:=hw';subst hw'';obtain⟨t,ht⟩:=qM (min rr.length (64-m));have htl:(rr.take t).length=t:=by rw[List.length_take];omega
    have hcl:(bytesV (rr.take t)).length=Nat.min rr.length (64-m):=by rw[bytesV_length,htl,<-ht]
    obtain⟨W2,hW2⟩:=qM ((W1.drewN nq).setRow b ((hcs st1 rs1 n).take (8+m)++(bytesV (rr.take t)++(hcs st1 rs1 n).drop (8+m+(bytesV (rr.take t)).length))).toArray);have ha1:=HA1.out;rw[HNN.out]at ha1;have hA2:Arr W2 b 194 (hcs st1 (Da.over rs1 m (rr.take t)) n):=by
     rw[<-hW2,Af n m _ HO1.out.slen HO1.out.len (by rw[htl];omega)];exact setRow_heap _ _ _ _ _ _ (ha1.drewN nq)
    have hG2:W1.grownBy W2 (some b):=by
     rw[<-hW2];exact(gU (B:=0) (Kit.dn' W1 nq)).trans (i7 _)
    refine wpList_copy_own rfl (.tmp 26) (.tmp 27) 22 22 rfl 5 qK qK b (8+m) (64-m) (64-m) ⟨b1,off1,none⟩ rr.length c1 rfl rfl (hcs st1 rs1 n).toArray 194 (ha1.drewN nq) (bytesV (rr.take t)) hcl (fun j v hv=>?_) ?_ (aG _) ?_
    ·have hj:j<(bytesV (rr.take t)).length:=(List.getElem?_eq_some_iff.1 hv).1;have:=HC1.out j v (by
      rw[bytesV_length,htl]at hj;rw[<-hv];simp[bytesV,List.getElem?_take,hj])
     rw[Addr.add_mid];exact this
    ·simp only[List.size_toArray];rw[eB _ HO1.out.slen HO1.out.len,bytesV_length,htl];omega
    rw[show(hcs st1 rs1 n).toArray.toList=hcs st1 rs1 n from rfl,hW2,bytesV_length,htl];obtain⟨rs2,hrs2⟩:=qM (Da.over rs1 m (rr.take t));rw[hrs2]at hA2;have hr2:rs2.length=64:=by rw[<-hrs2,Da.kL _ _ _ (by rw[HO1.out.len,htl];omega)];exact HO1.out.len
    have hc2:W2.cell? ⟨b,72,none⟩=some (.int .i64 (n:Int)):=by rw[hA2.cell];exact fY _ HO1.out.slen hr2
    have hf2:=hA2.frozen 72;obtain⟨W3,hW3⟩:=qM (W2.setCell ⟨b,72,none⟩ (.int .i64 ((n:Int)+(t:Int))));have hA3:Arr W3 b 194 (hcs st1 rs2 (n+t)):=by
     rw[<-hW3,<-GH n (n+t) HO1.out.slen hr2];exact hA2.set 72 _
    have hG3:W1.grownBy W3 (some b):=by rw[<-hW3];exact hG2.trans (lN hA2 72 _)
    have htl1:t<=rr.length:=qO;have hc3:W3.cell? ⟨b,72,none⟩=some (.int .i64 ((n:Int)+(t:Int))):=by rw[hA3.cell];exact fY (n+t) HO1.out.slen hr2
    have htn:n+t<=1000000:=by have:=HQL.out;have:=HNN.out;omega
    have HA3:=Lh hA3;have HG3:=Lh hG3;have HW3:=Lh hW3;have HT:=Lh ht;have HTL:=Lh htl;have HRS:=Lh hrs2;have HR2:=Lh hr2;clear hA2 hG2 hW2 ha1 hcl hA3 hG3 hW3 ht htl hrs2 hr2 hcnt;by_cases e:m+t=64
    ·have hm6:Int.tmod ((n:Int)+(t:Int)) 64=0:=by
      rw[show((n:Int)+(t:Int))=((n+t:Nat):Int) from rfl,show Int.tmod ((n+t:Nat):Int) 64=(((n+t) % 64:Nat):Int) from rfl,show(n+t) % 64=0 by have:=HM.out;omega];rfl
     go_upto_region 7 with fail
     rw[HW3.out];have hsl:=HO1.out.slen;have hrl2:=HR2.out;obtain⟨S,hS⟩:=qM ((ar (Da.mB st1 rs2)).toArray);have HSO:Hid (S.all (·.oneCell')=true):=Lh (by rw[<-hS];exact all_oneCell_toArray (jB _));have HSI:Hid ((Tryz.prog.info? 120).map (·.size)=some S.size):=Lh (by rw[iA,<-hS];simp[Da.cY]);have hv3:Var W3 23 Da.cubes:=HV1.out.kept HG3.out (fun e=>HBN.out.1 (by cases e;rfl));have BH:Hid (∀v,Below W3.heap.size W3 v->Calls Tryz.prog 108 #[.agg (ar st1).toArray,.agg (bytesV rs2).toArray] v fun e w'=>e=.returned (.agg S)/\Below W3.heap.size W3 w'):=Lh fun v hv=>by
      refine(uN st1 rs2 hsl hrl2 v (hv3.later hv)).mono ?_;rintro e w' ⟨rfl,hb⟩;exact⟨by rw[hS],Ks hv hb⟩
     have L1:Hid (∀v,Below W3.heap.size W3 v->v.rangeAt b 0 (ar st1)):=Lh fun v hv=>(HA3.out.later hv HA3.out.lt).range 0 _ (sC _ hsl)
     have L2:Hid (∀v,Below W3.heap.size W3 v->v.rangeAt b 8 (bytesV rs2)):=Lh fun v hv=>(HA3.out.later hv HA3.out.lt).range 8 _ (Ae _ hsl)
     have L3:Hid ((Tryz.prog.info? 120).map (·.size)=some (ar st1).length):=Lh (by rw[iA];simp[hsl]);have L4:Hid ((Tryz.prog.info? 177).map (·.size)=some (bytesV rs2).length):=Lh (by rw[nM];simp[hrl2]);have HS:=Lh hS;clear hS hv3;obtain⟨C,hC⟩:∃C:World->Prop,(fun v=>Below W3.heap.size W3 v)=C:=⟨_,rfl⟩;refine Qt.gu (fun v=>Below W3.heap.size W3 v) 12 qK qK (Kit.dn' W3 1) ?_;simp only[List.take_succ_cons,List.take_zero,List.drop_succ_cons,List.drop_zero];rw[hC];have hCm:∀v,C v->Below W3.heap.size W3 v:=fun v hv=>by rw[<-hC]at hv;exact hv
     have hCi:∀v,Below W3.heap.size W3 v->C v:=fun v hv=>by rw[<-hC];exact hv
     have HCm:=Lh hCm;have HCi:=Lh hCi;clear hC hCm hCi;iterate 4 (refine wpQuiet_step (fun K hK=>?_);refine Qt.oZ (v:=?_) rfl (fun w=>?_) ?_;rotate_left;(· go_simp<;>with_reducible rfl);go_simp;refine hK _ ?_;clear hK K)
     refine Qt.lu rfl 120 (.tmp 46) rfl b 0 rfl (ar st1) _ (fun v hv=>L1.out v (HCm.out v hv)) fK rfl L3.out ?_;iterate 3 (refine wpQuiet_step (fun K hK=>?_);refine Qt.oZ (v:=?_) rfl (fun w=>?_) ?_;rotate_left;(· go_simp<;>with_reducible rfl);go_simp;refine hK _ ?_;clear hK K)
     refine Qt.lu rfl 177 (.tmp 50) rfl b 8 rfl (bytesV rs2) _ (fun v hv=>L2.out v (HCm.out v hv)) j6 rfl L4.out ?_;refine Qt.LH rfl 108 _ _ rfl #[.agg (ar st1).toArray,.agg (bytesV rs2).toArray] (by go_simp) (fun w=>by simp[go_sem]) (.agg S) (fun v hv=>(BH.out v (HCm.out v hv)).mono (fun e w' h=>⟨h.1,HCi.out _ h.2⟩)) ?_;iterate 2 (refine wpQuiet_step (fun K hK=>?_);refine Qt.oZ (v:=?_) rfl (fun w=>?_) ?_;rotate_left;(· go_simp<;>with_reducible rfl);go_simp;refine hK _ ?_;clear hK K)
     refine wpQuiet_nil ?_;intro W4 hB4;have hA4:Arr W4 b 194 (hcs st1 rs2 (n+t)):=HA3.out.later hB4 HA3.out.lt;obtain⟨W5,hW5⟩:=qM (W4.setCells b 0 S.toList);have hA5:Arr W5 b 194 (hcs (Da.mB st1 rs2) rs2 (n+t)):=by
      rw[<-hW5,<-HS.out];have:=Arr.sets (ar (Da.mB st1 rs2)) 0 hA4 (by rw[eB _ hsl hrl2];simp[Da.cY]);rw[ul _ hsl (Da.cY _ _)]at this;exact this
     have hG5:W1.grownBy W5 (some b):=by
      rw[<-hW5];exact(HG3.out.trans (gU (B:=0) hB4)).trans (mL _ _ hA4)
     have HTH4:Hid (W4.there b 0 S.size):=Lh (hA4.there 0 _ (by rw[eB _ hsl hrl2,<-HS.out];simp[Da.cY]));have HA5:=Lh hA5;have HG5:=Lh hG5;have HW5:=Lh hW5;clear hA4 hA5 hG5 hW5 hB4;refine fy rfl 120 (.tmp 54) (.tmp 52) rfl rfl b 0 S rfl rfl HTH4.out HSI.out HSO.out ?_;rw[HW5.out];clear HW5 HTH4 HSI HSO BH L1 L2 HCm HCi;have hmt:0<t:=by have:=HT.out;omega
     have hok:=HO1.out.fill (rr.take t) (by rw[HNN.out,HM.out,HTL.out];omega);rw[HNN.out,HM.out,HRS.out]at hok;have hP:=Pt1.next hk HQ.out HRR.out HR1.out (HN1.out _ rfl) htl1 HG5.out HG1.out HV1.out HBN.out.1 (by rw[List.length_append,HTL.out,HNN.out];exact HA5.out) hok;clear hok;by_cases hct:c1=t
     ·subst hct;rw[if_pos rfl,Nat.sub_self]at hP;have HP:=Lh hP;clear hP;go_wp2_with fail;exact⟨HP.out,by simp only[pV];omega⟩
     ·rw[if_neg hct]at hP;have HP:=Lh hP;clear hP;go_wp2_with fail;exact⟨HP.out,by simp only[pV];omega⟩
    ·have hm6:Int.tmod ((n:Int)+(t:Int)) 64=((m+t:Nat):Int):=by
      rw[show((n:Int)+(t:Int))=((n+t:Nat):Int) from rfl,show Int.tmod ((n+t:Nat):Int) 64=(((n+t) % 64:Nat):Int) from rfl,show(n+t) % 64=m+t by have:=HM.out;have:=HT.out;omega]
     have hmt:0<t:=by have:=HT.out;omega
     have hm7:(((m+t:Nat):Int)==0)=false:=by simp;omega
     have hok:=HO1.out.more (rr.take t) (by rw[HNN.out,HM.out,HTL.out];have:=HT.out;omega);rw[HNN.out,HM.out,HRS.out]at hok;have hP:=Pt1.next hk HQ.out HRR.out HR1.out (HN1.out _ rfl) htl1 HG3.out HG1.out HV1.out HBN.out.1 (by rw[List.length_append,HTL.out,HNN.out];exact HA3.out) hok;clear hok;by_cases hct:c1=t
     ·subst hct;rw[if_pos rfl,Nat.sub_self]at hP;have HP:=Lh hP;clear hP;go_wp2_with (first|rw[HW3.out])
      exact⟨HP.out,by simp only[pV];omega⟩
     ·rw[if_neg hct]at hP;have HP:=Lh hP;clear hP;go_wp2_with (first|rw[HW3.out])
      exact⟨HP.out,by simp only[pV];omega⟩
   ·obtain rfl:rr=[]:=List.eq_nil_of_length_eq_zero qO;have hkr:k=r.length:=by simp at hrl;omega
    have hqe:q=p++r:=by rw[<-hq,hkr,List.take_length]
    have hH:Hash W1 b (p++r):=⟨st1,rs1,by rw[<-hqe];exact ha1,hok1.slen,hok1.len,fun _=>by rw[<-hqe];exact hok1⟩;have HH:=Lh hH;have HG1:=Lh hg1;clear hr1 hn1 ha1 hok1 hg1 hv1 hq hrr hrl hql hqe hH hpos;rw[show([]:BL).length=0 from rfl];go_wp2_with fail;go_ret;exact⟨rfl,HH.out,HG1.out⟩
 ·rename_i hp0 K1 hK1;have hp:p≠[]:=by intro h;rw[h]at hp0;cases hp0
  have hX:Pt1 p r b w (.slice o r.length c) w:=⟨0,o,c,st,rs,Nat.zero_le _,rfl,by simpa using HR.out,HN.out,by simpa using H.out.arr,by simpa using H.out.ok hp,⟨rfl,rfl,rfl,Nat.le_refl _,fun _ _ _=>rfl⟩,HV.out⟩;have HX:=Lh hX;clear hp0 hX hp HTH HFL HFI HFO hc H HR HV;go_wp2_with fail;go_loopw [1] (fun x wr=>Pt1 p r b w x wr) (fun x _=>pV x)
  case atStart=>exact HX.out
  case round=>
   rename World=>W1
   obtain⟨k,o1,c1,st1,rs1,hk,rfl,hr1,hn1,ha1,hok1,hg1,hv1⟩:=hrel;obtain⟨q,hq⟩:=qM (p++r.take k);obtain⟨rr,hrr⟩:=qM (r.drop k);have hrl:r.length-k=rr.length:=by rw[<-hrr,List.length_drop]
   have hql:q.length+rr.length=p.length+r.length:=by rw[<-hq,List.length_append,List.length_take,<-hrl];omega
   rw[hq]at ha1 hok1;rw[hrr]at hr1;rw[hrl];by_cases hpos:0<rr.length
   ·have hd1:decide ((rr.length:Int)>0)=true:=by simpa using hpos
    obtain⟨b1,off1,rfl,hlt1,hcell1⟩:=hr1.cells (by simpa using hpos);have hcnt:W1.cell? ⟨b,72,none⟩=some (.int .i64 (q.length:Int)):=by rw[ha1.cell];exact fY _ hok1.slen hok1.len
    obtain⟨n,hn⟩:=qM q.length;rw[hn]at hcnt;obtain⟨m,hm⟩:=qM (n % 64);have hm0:Int.tmod (n:Int) 64=(m:Int):=by rw[<-hm];rfl
    have hml:m<64:=qO;have hm1:(m:Int)<64:=qO;have hm2:(m:Int)<=64:=qO;have hm3:¬m=64:=qO;have hm4:¬64=m:=qO;have hm5:m<=64:=qO;have HM:=Lh hm;have HQ:=Lh hq;have HRR:=Lh hrr;have HRL:=Lh hrl;have HQL:=Lh hql;have HNN:=Lh hn;clear hm hq hrr hrl hql hn;have HR1:=Lh hr1;have HA1:=Lh ha1;have HO1:=Lh hok1;have HG1:=Lh hg1;have HN1:=Lh (hn1 (by rw[HRL.out];exact hpos));have HV1:=Lh hv1;have HC1:=Lh hcell1;clear hr1 ha1 hok1 hg1 hn1 hv1 hcell1;go_upto_region 4 with fail
    refine Qt.di 10 qK qK ?_;simp only[List.take_succ_cons,List.take_zero,List.drop_succ_cons,List.drop_zero];repeat (quiet_step (fail))
    refine wpQuiet_nil ?_;intro _ hw';obtain⟨nq,hw''⟩:=hw';subst hw'';obtain⟨t,ht⟩:=qM (min rr.length (64-m));have htl:(rr.take t).length=t:=by rw[List.length_take];omega
    have hcl:(bytesV (rr.take t)).length=Nat.min rr.length (64-m):=by rw[bytesV_length,htl,<-ht]
    obtain⟨W2,hW2⟩:=qM ((W1.drewN nq).setRow b ((hcs st1 rs1 n).take (8+m)++(bytesV (rr.take t)++(hcs st1 rs1 n).drop (8+m+(bytesV (rr.take t)).length))).toArray);have ha1:=HA1.out;rw[HNN.out]at ha1;have hA2:Arr W2 b 194 (hcs st1 (Da.over rs1 m (rr.take t)) n):=by
     rw[<-hW2,Af n m _ HO1.out.slen HO1.out.len (by rw[htl];omega)];exact setRow_heap _ _ _ _ _ _ (ha1.drewN nq)
    have hG2:W1.grownBy W2 (some b):=by
     rw[<-hW2];exact(gU (B:=0) (Kit.dn' W1 nq)).trans (i7 _)
    refine wpList_copy_own rfl (.tmp 26) (.tmp 27) 22 22 rfl 5 qK qK b (8+m) (64-m) (64-m) ⟨b1,off1,none⟩ rr.length c1 rfl rfl (hcs st1 rs1 n).toArray 194 (ha1.drewN nq) (bytesV (rr.take t)) hcl (fun j v hv=>?_) ?_ (aG _) ?_
    ·have hj:j<(bytesV (rr.take t)).length:=(List.getElem?_eq_some_iff.1 hv).1;have:=HC1.out j v (by
      rw[bytesV_length,htl]at hj;rw[<-hv];simp[bytesV,List.getElem?_take,hj])
     rw[Addr.add_mid];exact this
    ·simp only[List.size_toArray];rw[eB _ HO1.out.slen HO1.out.len,bytesV_length,htl];omega
    rw[show(hcs st1 rs1 n).toArray.toList=hcs st1 rs1 n from rfl,hW2,bytesV_length,htl];obtain⟨rs2,hrs2⟩:=qM (Da.over rs1 m (rr.take t));rw[hrs2]at hA2;have hr2:rs2.length=64:=by rw[<-hrs2,Da.kL _ _ _ (by rw[HO1.out.len,htl];omega)];exact HO1.out.len
    have hc2:W2.cell? ⟨b,72,none⟩=some (.int .i64 (n:Int)):=by rw[hA2.cell];exact fY _ HO1.out.slen hr2
    have hf2:=hA2.frozen 72;obtain⟨W3,hW3⟩:=qM (W2.setCell ⟨b,72,none⟩ (.int .i64 ((n:Int)+(t:Int))));have hA3:Arr W3 b 194 (hcs st1 rs2 (n+t)):=by
     rw[<-hW3,<-GH n (n+t) HO1.out.slen hr2];exact hA2.set 72 _
    have hG3:W1.grownBy W3 (some b):=by rw[<-hW3];exact hG2.trans (lN hA2 72 _)
    have htl1:t<=rr.length:=qO;have hc3:W3.cell? ⟨b,72,none⟩=some (.int .i64 ((n:Int)+(t:Int))):=by rw[hA3.cell];exact fY (n+t) HO1.out.slen hr2
    have htn:n+t<=1000000:=by have:=HQL.out;have:=HNN.out;omega
    have HA3:=Lh hA3;have HG3:=Lh hG3;have HW3:=Lh hW3;have HT:=Lh ht;have HTL:=Lh htl;have HRS:=Lh hrs2;have HR2:=Lh hr2;clear hA2 hG2 hW2 ha1 hcl hA3 hG3 hW3 ht htl hrs2 hr2 hcnt;by_cases e:m+t=64
    ·have hm6:Int.tmod ((n:Int)+(t:Int)) 64=0:=by
      rw[show((n:Int)+(t:Int))=((n+t:Nat):Int) from rfl,show Int.tmod ((n+t:Nat):Int) 64=(((n+t) % 64:Nat):Int) from rfl,show(n+t) % 64=0 by have:=HM.out;omega];rfl
     go_upto_region 7 with fail
     rw[HW3.out];have hsl:=HO1.out.slen;have hrl2:=HR2.out;obtain⟨S,hS⟩:=qM ((ar (Da.mB st1 rs2)).toArray);have HSO:Hid (S.all (·.oneCell')=true):=Lh (by rw[<-hS];exact all_oneCell_toArray (jB _));have HSI:Hid ((Tryz.prog.info? 120).map (·.size)=some S.size):=Lh (by rw[iA,<-hS];simp[Da.cY]);have hv3:Var W3 23 Da.cubes:=HV1.out.kept HG3.out (fun e=>HBN.out.1 (by cases e;rfl));have BH:Hid (∀v,Below W3.heap.size W3 v->Calls Tryz.prog 108 #[.agg (ar st1).toArray,.agg (bytesV rs2).toArray] v fun e w'=>e=.returned (.agg S)/\Below W3.heap.size W3 w'):=Lh fun v hv=>by
      refine(uN st1 rs2 hsl hrl2 v (hv3.later hv)).mono ?_;rintro e w' ⟨rfl,hb⟩;exact⟨by rw[hS],Ks hv hb⟩
     have L1:Hid (∀v,Below W3.heap.size W3 v->v.rangeAt b 0 (ar st1)):=Lh fun v hv=>(HA3.out.later hv HA3.out.lt).range 0 _ (sC _ hsl)
     have L2:Hid (∀v,Below W3.heap.size W3 v->v.rangeAt b 8 (bytesV rs2)):=Lh fun v hv=>(HA3.out.later hv HA3.out.lt).range 8 _ (Ae _ hsl)
     have L3:Hid ((Tryz.prog.info? 120).map (·.size)=some (ar st1).length):=Lh (by rw[iA];simp[hsl]);have L4:Hid ((Tryz.prog.info? 177).map (·.size)=some (bytesV rs2).length):=Lh (by rw[nM];simp[hrl2]);have HS:=Lh hS;clear hS hv3;obtain⟨C,hC⟩:∃C:World->Prop,(fun v=>Below W3.heap.size W3 v)=C:=⟨_,rfl⟩;refine Qt.gu (fun v=>Below W3.heap.size W3 v) 12 qK qK (Kit.dn' W3 1) ?_;simp only[List.take_succ_cons,List.take_zero,List.drop_succ_cons,List.drop_zero];rw[hC];have hCm:∀v,C v->Below W3.heap.size W3 v:=fun v hv=>by rw[<-hC]at hv;exact hv
     have hCi:∀v,Below W3.heap.size W3 v->C v:=fun v hv=>by rw[<-hC];exact hv
     have HCm:=Lh hCm;have HCi:=Lh hCi;clear hC hCm hCi;iterate 4 (refine wpQuiet_step (fun K hK=>?_);refine Qt.oZ (v:=?_) rfl (fun w=>?_) ?_;rotate_left;(· go_simp<;>with_reducible rfl);go_simp;refine hK _ ?_;clear hK K)
     refine Qt.lu rfl 120 (.tmp 46) rfl b 0 rfl (ar st1) _ (fun v hv=>L1.out v (HCm.out v hv)) fK rfl L3.out ?_;iterate 3 (refine wpQuiet_step (fun K hK=>?_);refine Qt.oZ (v:=?_) rfl (fun w=>?_) ?_;rotate_left;(· go_simp<;>with_reducible rfl);go_simp;refine hK _ ?_;clear hK K)
     refine Qt.lu rfl 177 (.tmp 50) rfl b 8 rfl (bytesV rs2) _ (fun v hv=>L2.out v (HCm.out v hv)) j6 rfl L4.out ?_;refine Qt.LH rfl 108 _ _ rfl #[.agg (ar st1).toArray,.agg (bytesV rs2).toArray] (by go_simp) (fun w=>by simp[go_sem]) (.agg S) (fun v hv=>(BH.out v (HCm.out v hv)).mono (fun e w' h=>⟨h.1,HCi.out _ h.2⟩)) ?_;iterate 2 (refine wpQuiet_step (fun K hK=>?_);refine Qt.oZ (v:=?_) rfl (fun w=>?_) ?_;rotate_left;(· go_simp<;>with_reducible rfl);go_simp;refine hK _ ?_;clear hK K)
     refine wpQuiet_nil ?_;intro W4 hB4;have hA4:Arr W4 b 194 (hcs st1 rs2 (n+t)):=HA3.out.later hB4 HA3.out.lt;obtain⟨W5,hW5⟩:=qM (W4.setCells b 0 S.toList);have hA5:Arr W5 b 194 (hcs (Da.mB st1 rs2) rs2 (n+t)):=by
      rw[<-hW5,<-HS.out];have:=Arr.sets (ar (Da.mB st1 rs2)) 0 hA4 (by rw[eB _ hsl hrl2];simp[Da.cY]);rw[ul _ hsl (Da.cY _ _)]at this;exact this
     have hG5:W1.grownBy W5 (some b):=by
      rw[<-hW5];exact(HG3.out.trans (gU (B:=0) hB4)).trans (mL _ _ hA4)
     have HTH4:Hid (W4.there b 0 S.size):=Lh (hA4.there 0 _ (by rw[eB _ hsl hrl2,<-HS.out];simp[Da.cY]));have HA5:=Lh hA5;have HG5:=Lh hG5;have HW5:=Lh hW5;clear hA4 hA5 hG5 hW5 hB4;refine fy rfl 120 (.tmp 54) (.tmp 52) rfl rfl b 0 S rfl rfl HTH4.out HSI.out HSO.out ?_;rw[HW5.out];clear HW5 HTH4 HSI HSO BH L1 L2 HCm HCi;have hmt:0<t:=by have:=HT.out;omega
     have hok:=HO1.out.fill (rr.take t) (by rw[HNN.out,HM.out,HTL.out];omega);rw[HNN.out,HM.out,HRS.out]at hok;have hP:=Pt1.next hk HQ.out HRR.out HR1.out (HN1.out _ rfl) htl1 HG5.out HG1.out HV1.out HBN.out.1 (by rw[List.length_append,HTL.out,HNN.out];exact HA5.out) hok;clear hok;by_cases hct:c1=t
     ·subst hct;rw[if_pos rfl,Nat.sub_self]at hP;have HP:=Lh hP;clear hP;go_wp2_with fail;exact⟨HP.out,by simp only[pV];omega⟩
     ·rw[if_neg hct]at hP;have HP:=Lh hP;clear hP;go_wp2_with fail;exact⟨HP.out,by simp only[pV];omega⟩
    ·have hm6:Int.tmod ((n:Int)+(t:Int)) 64=((m+t:Nat):Int):=by
      rw[show((n:Int)+(t:Int))=((n+t:Nat):Int) from rfl,show Int.tmod ((n+t:Nat):Int) 64=(((n+t) % 64:Nat):Int) from rfl,show(n+t) % 64=m+t by have:=HM.out;have:=HT.out;omega]
     have hmt:0<t:=by have:=HT.out;omega
     have hm7:(((m+t:Nat):Int)==0)=false:=by simp;omega
     have hok:=HO1.out.more (rr.take t) (by rw[HNN.out,HM.out,HTL.out];have:=HT.out;omega);rw[HNN.out,HM.out,HRS.out]at hok;have hP:=Pt1.next hk HQ.out HRR.out HR1.out (HN1.out _ rfl) htl1 HG3.out HG1.out HV1.out HBN.out.1 (by rw[List.length_append,HTL.out,HNN.out];exact HA3.out) hok;clear hok;by_cases hct:c1=t
     ·subst hct;rw[if_pos rfl,Nat.sub_self]at hP;have HP:=Lh hP;clear hP;go_wp2_with (first|rw[HW3.out])
      exact⟨HP.out,by simp only[pV];omega⟩
     ·rw[if_neg hct]at hP;have HP:=Lh hP;clear hP;go_wp2_with (first|rw[HW3.out])
      exact⟨HP.out,by simp only[pV];omega⟩
   ·obtain rfl:rr=[]:=List.eq_nil_of_length_eq_zero qO;have hkr:k=r.length:=by simp at hrl;omega
    have hqe:q=p++r:=by rw[<-hq,hkr,List.take_length]
    have hH:Hash W1 b (p++r):=⟨st1,rs1,by rw[<-hqe];exact ha1,hok1.slen,hok1.len,fun _=>by rw[<-hqe];exact hok1⟩;have HH:=Lh hH;have HG1:=Lh hg1;clear hr1 hn1 ha1 hok1 hg1 hv1 hq hrr hrl hql hqe hH hpos;rw[show([]:BL).length=0 from rfl];go_wp2_with fail;go_ret;exact⟨rfl,HH.out,HG1.out⟩
theorem DW: Tryz.prog.built 194 []=some (hcs (List.replicate 8 0) (List.replicate 64 0) 0).toArray:=qK
theorem DX:(match Tryz.prog.underlying 194 with|some (.struct _)=>true|_=>false)=true:=qK
theorem Uh(Z:Array Value)(hb: Tryz.prog.built 194 []=some Z)(w:World):Calls Tryz.prog 68 #[] w fun e w'=>e=.returned (.pointer (some ⟨w.heap.size,0,none⟩))/\w'=w.alloc (.cells Z 194):=by
 have HB:=Lh hb;clear hb;go_enter Tryz.func68,Tryz.ntmps68
 go_wp2_with (first|refine bN rfl 194 _ rfl [] qS Z HB.out ?_)
 go_ret;exact⟨rfl,rfl⟩
theorem GI(w:World):Calls Tryz.prog 68 #[] w fun e w'=>e=.returned (.pointer (some ⟨w.heap.size,0,none⟩))/\Hash w' w.heap.size []/\Below w.heap.size w w'/\w'.heap.size=w.heap.size+1:=by
 refine(Uh _ DW w).mono ?_;rintro e w' ⟨rfl,rfl⟩;exact⟨rfl,⟨_,_,Arr.made _ _ _,rfl,rfl,fun h=>absurd rfl h⟩,qB.alloc qN _,World.size_alloc _ _⟩
theorem eC{W:World}{base:Nat}{T:TypeId}{g n:Nat}{xs:List Value}(h:W.ownsRow base T 1 (.slice (some ⟨g,0,none⟩) n n) n xs):Arr W g T xs/\base<=g:=by
 obtain⟨h1,h2|⟨g',cap,cur,e,hb,hg,hn,hc,hs,ht⟩⟩:=h
 ·cases h2.1
 ·cases e
  refine⟨?_,hb⟩;unfold Arr;rw[hg,<-ht,List.take_of_length_le (by simp[hs])]
theorem jm(n:Nat):(madeCells #[.int .u8 0] n).toList=bytesV (List.replicate n 0):=by
 rw[toList_madeCells_one];simp[bytesV]
theorem Arr.row{W:World}{g:Nat}{T:TypeId}{z:BL}(h:Arr W g T (bytesV z))(hl:z.length<=maxLen):RowIs W (some ⟨g,0,none⟩) (bytesV z) z.length:=
 ⟨qS,hl,fun h=>by(cases h),fun h0=>⟨g,0,rfl,h.lt,fun i v hv=>by rw[Nat.zero_add,h.cell];exact hv⟩⟩
def en(n j:Nat):BL:=(List.range (Da.zn n+9)).map fun p=>if p=0 then 128 else if Da.zn n+8-p<j then UInt8.ofNat (8*n / 256^(Da.zn n+8-p))else 0
theorem sD(n j:Nat):(en n j).length=Da.zn n+9:=by simp[en]
theorem GJ(n:Nat):(List.replicate (Da.zn n+9) (0:UInt8)).set 0 128=en n 0:=by
 refine List.ext_getElem (by simp[en]) fun p h1 h2=>?_
 simp only[en,List.getElem_set,List.getElem_map,List.getElem_range,Nat.not_lt_zero,if_false,List.getElem_replicate];by_cases e:p=0
 ·subst e;simp
 ·rw[if_neg (fun h=>e h.symm),if_neg e]
theorem GK(n j:Nat)(hj:j<8):(en n j).set (Da.zn n+8-j) (UInt8.ofNat (8*n / 256^j))=en n (j+1):=by
 refine List.ext_getElem (by simp[en]) fun p h1 h2=>?_
 simp only[en,List.getElem_set,List.getElem_map,List.getElem_range];have hp:p<Da.zn n+9:=by simpa[en]using h2
 by_cases e:Da.zn n+8-j=p
 ·subst e;rw[if_pos rfl,if_neg qO,if_pos qO,show Da.zn n+8-(Da.zn n+8-j)=j by omega]
 ·rw[if_neg e];by_cases e0:p=0
  ·rw[if_pos e0,if_pos e0]
  ·rw[if_neg e0,if_neg e0];by_cases e2:Da.zn n+8-p<j
   ·rw[if_pos e2,if_pos qO]
   ·rw[if_neg e2,if_neg qO]
theorem Lx(n j:Nat)(hj:j<=8)(h0:8*n / 256^j=0):en n j=Da.pad n:=by
 refine List.ext_getElem (by rw[sD,Da.jg]) fun p h1 h2=>?_
 have hp:p<Da.zn n+9:=by simpa[en]using h1
 simp only[en,List.getElem_map,List.getElem_range,Da.pad];cases p with
 |zero=>simp
 |succ p=>
  rw[if_neg qO,List.getElem_cons_succ,List.getElem_append];have hz:∀q,j<=q->8*n / 256^q=0:=fun q hq=>by
   have h1:256^j<=256^q:=Nat.pow_le_pow_right qD hq;have h2:=Nat.div_eq_zero_iff.1 h0;refine Nat.div_eq_of_lt ?_;rcases h2 with h2|h2
   ·have:=Nat.pow_pos (n:=j) (show 0<256 by decide);omega
   ·omega
  by_cases e:p<Da.zn n
  ·rw[dif_pos (by simpa using e),List.getElem_replicate];by_cases e2:Da.zn n+8-(p+1)<j
   ·omega
   ·rw[if_neg e2]
  ·rw[dif_neg (by simpa using e)];simp only[Da.be8,List.getElem_map,List.getElem_range,List.length_replicate];rw[show 7-(p-Da.zn n)=Da.zn n+8-(p+1) by omega];by_cases e2:Da.zn n+8-(p+1)<j
   ·rw[if_pos e2]
   ·rw[if_neg e2,hz _ qO];rfl
def En1(n g:Nat)(w:World)(i l:Value)(wr:World):Prop:=
 ∃j:Nat,j<=8/\i=.int .i64 ((Da.zn n+8-j:Nat):Int)/\l=.int .u64 ((8*n / 256^j:Nat):Int)/\Arr wr g 5 (bytesV (en n j))/\Below w.heap.size w wr
theorem QW(n:Nat)(hn:n<=1000000)(w:World):Calls Tryz.prog 109 #[.int .i64 (n:Int)] w fun e w'=>∃g,e=.returned (.slice (some ⟨g,0,none⟩) (Da.pad n).length (Da.pad n).length)/\w.heap.size<=g/\RowIs w' (some ⟨g,0,none⟩) (bytesV (Da.pad n)) (Da.pad n).length/\Below w.heap.size w w':=by
 obtain⟨i0,hi,hz0,hz1,hz2⟩:=info_parts ao;obtain⟨m,hm⟩:=qM (n % 64);obtain⟨S,hS⟩:=qM (Da.zn n+9);obtain⟨d,hd⟩:=qM (64-m);have hm0:Int.tmod (n:Int) 64=(m:Int):=by rw[<-hm];rfl
 have hml:m<64:=qO;have h64:(64:Int)-(m:Int)=(d:Int):=qO;have hSd:(d<9->S=d+64)/\(¬d<9->S=d):=by
  rw[<-hS,<-hd,<-hm];unfold Da.zn;constructor
  ·intro h;rw[if_pos h];omega
  ·intro h;rw[if_neg h];omega
 have hd1:1<=d:=qO;have hd2:d<=64:=qO;have HS:=Lh hS;have HD:=Lh hd;have HM:=Lh hm;clear hS hd hm;by_cases hlt:d<9
 ·have hS1:(d:Int)+64=(S:Int):=by have:=hSd.1 hlt;omega
  have hS2:S<=128:=qO;have hS3:9<=S:=qO;clear hSd;go_enter Tryz.func109,Tryz.ntmps109
  go_wp2_with (at_make;refine wpList_make_full _ rfl _ _ 22 rfl 0 5 i0 (.int .u8 0) 1 Tryz.underlying22 hi hz0 hz1 _ _ _ _ S rfl rfl qO qO (by rw[hz2];omega) (by unfold maxLen;omega) (Nat.zero_le _) ?_)
  intro w1 hown hgrow;have hb1:Below w.heap.size w w1:=qB.grown hgrow qN (fun k h=>by cases h);obtain⟨g,hg⟩:=qM w.heap.size;rw[hg]at hown;rw[jm]at hown;have hA1:=(eC hown).1;have hc0:w1.cell? ⟨g,0,none⟩=some (.int .u8 0):=by rw[hA1.cell];simp[bytesV,show 0<S by omega]
  have hf0:=hA1.frozen 0;obtain⟨w2,hw2⟩:=qM (w1.setCell ⟨g,0,none⟩ (.int .u8 128));have hA2:Arr w2 g 5 (bytesV (en n 0)):=by
   rw[<-hw2,<-GJ,<-dP,HS.out];exact hA1.set 0 _
  have hb2:Below w.heap.size w w2:=by rw[<-hw2];exact hA1.below hb1 qO 0 _
  have HA2:=Lh hA2;have HB2:=Lh hb2;have HW2:=Lh hw2;have HG:=Lh hg;clear hown hgrow hb1 hA1 hA2 hb2 hw2;go_wp2_with fail;rw[HW2.out];clear HW2 hc0 hf0;go_loopw [5,6] (fun i l wr=>En1 n g w i l wr) (fun _ l _=>(intOf l).toNat)
  case atStart=>exact⟨0,Nat.zero_le _,by rw[show((S:Int)-1)=((Da.zn n+8-0:Nat):Int) from by have:=HS.out;omega],by rw[Nat.pow_zero,Nat.div_one];go_num,HA2.out,HB2.out⟩
  case round=>
   rename World=>W1
   obtain⟨j,hj,rfl,rfl,hA1,hB1⟩:=hrel;by_cases hpos:0<8*n / 256^j
   ·have hj3:j<3:=by
     refine Classical.byContradiction fun hge=>?_
     have h1:256^3<=256^j:=Nat.pow_le_pow_right qD qO;have h2:8*n / 256^j=0:=Nat.div_eq_of_lt (by have:(256:Nat)^3=16777216:=rfl;omega);omega
    have HE:=Lh (GK n j qO);have HD2:Hid (8*n / 256^(j+1)=8*n / 256^j / 256):=Lh (by rw[Nat.pow_succ,Nat.div_div_eq_div_mul]);have hxl:8*n / 256^j<=8000000:=Nat.le_trans (Nat.div_le_self _ _) qO;obtain⟨x,hx⟩:=qM (8*n / 256^j);rw[hx]at HE HD2 hxl hpos;rw[hx];obtain⟨u,hu⟩:=qM (Da.zn n+8-j);rw[hu]at HE;rw[hu];have hu1:u<S:=by have:=HS.out;omega
    have hu2:1<=u:=qO;have HU:=Lh hu;have hcu:∃y:UInt8,W1.cell? ⟨g,u,none⟩=some (.int .u8 (y.toNat:Int)):=⟨_,by rw[hA1.cell];exact aB _ u (by rw[sD,HS.out];exact hu1)⟩;obtain⟨y,hcu⟩:=hcu;have hfu:=hA1.frozen u;have HV:Hid (IntKind.u8.wrap (x:Int)=((UInt8.ofNat x).toNat:Int)):=Lh (by rw[IntKind.wrap_u8,UInt8.toNat_ofNat'];omega);have HA1:=Lh hA1;have HB1:=Lh hB1;clear hA1 hB1 hx hu;go_wp2_with fail;refine⟨⟨j+1,qO,?_,?_,?_,?_⟩,by simp only[intOf];omega⟩
    ·rw[show((u:Int)-1)=((Da.zn n+8-(j+1):Nat):Int) from by have:=HU.out;omega]
    ·rw[HD2.out];rfl
    ·rw[show((x:Int) % 256)=((UInt8.ofNat x).toNat:Int) from by rw[UInt8.toNat_ofNat'];omega,<-HE.out,<-dP];exact HA1.out.set u _
    ·exact HA1.out.below HB1.out (Nat.le_of_eq HG.out) u _
   ·have hz:8*n / 256^j=0:=Nat.eq_zero_of_not_pos hpos;rw[Lx n j hj hz]at hA1;have hpl:(Da.pad n).length=S:=by rw[Da.jg];exact HS.out
    have HR:Hid (RowIs W1 (some ⟨g,0,none⟩) (bytesV (Da.pad n)) S):=Lh (by rw[<-hpl];exact hA1.row (by rw[hpl];unfold maxLen;omega));have HB1:=Lh hB1;have HPL:=Lh hpl;rw[hz];clear hA1 hB1 hpl;rw[show(((0:Nat):Int))=0 from rfl];go_wp2_with fail;go_ret;exact⟨g,by rw[HPL.out,<-HG.out];rfl,by have:=HG.out;omega,by rw[HPL.out];exact HR.out,HB1.out⟩
 ·have hS1:S=d:=hSd.2 hlt;subst hS1;have hS2:S<=128:=qO;have hS3:9<=S:=qO;clear hSd;go_enter Tryz.func109,Tryz.ntmps109
  go_wp2_with (at_make;refine wpList_make_full _ rfl _ _ 22 rfl 0 5 i0 (.int .u8 0) 1 Tryz.underlying22 hi hz0 hz1 _ _ _ _ S rfl rfl qO qO (by rw[hz2];omega) (by unfold maxLen;omega) (Nat.zero_le _) ?_)
  intro w1 hown hgrow;have hb1:Below w.heap.size w w1:=qB.grown hgrow qN (fun k h=>by cases h);obtain⟨g,hg⟩:=qM w.heap.size;rw[hg]at hown;rw[jm]at hown;have hA1:=(eC hown).1;have hc0:w1.cell? ⟨g,0,none⟩=some (.int .u8 0):=by rw[hA1.cell];simp[bytesV,show 0<S by omega]
  have hf0:=hA1.frozen 0;obtain⟨w2,hw2⟩:=qM (w1.setCell ⟨g,0,none⟩ (.int .u8 128));have hA2:Arr w2 g 5 (bytesV (en n 0)):=by
   rw[<-hw2,<-GJ,<-dP,HS.out];exact hA1.set 0 _
  have hb2:Below w.heap.size w w2:=by rw[<-hw2];exact hA1.below hb1 qO 0 _
  have HA2:=Lh hA2;have HB2:=Lh hb2;have HW2:=Lh hw2;have HG:=Lh hg;clear hown hgrow hb1 hA1 hA2 hb2 hw2;go_wp2_with fail;rw[HW2.out];clear HW2 hc0 hf0;go_loopw [5,6] (fun i l wr=>En1 n g w i l wr) (fun _ l _=>(intOf l).toNat)
  case atStart=>exact⟨0,Nat.zero_le _,by rw[show((S:Int)-1)=((Da.zn n+8-0:Nat):Int) from by have:=HS.out;omega],by rw[Nat.pow_zero,Nat.div_one];go_num,HA2.out,HB2.out⟩
  case round=>
   rename World=>W1
   obtain⟨j,hj,rfl,rfl,hA1,hB1⟩:=hrel;by_cases hpos:0<8*n / 256^j
   ·have hj3:j<3:=by
     refine Classical.byContradiction fun hge=>?_
     have h1:256^3<=256^j:=Nat.pow_le_pow_right qD qO;have h2:8*n / 256^j=0:=Nat.div_eq_of_lt (by have:(256:Nat)^3=16777216:=rfl;omega);omega
    have HE:=Lh (GK n j qO);have HD2:Hid (8*n / 256^(j+1)=8*n / 256^j / 256):=Lh (by rw[Nat.pow_succ,Nat.div_div_eq_div_mul]);have hxl:8*n / 256^j<=8000000:=Nat.le_trans (Nat.div_le_self _ _) qO;obtain⟨x,hx⟩:=qM (8*n / 256^j);rw[hx]at HE HD2 hxl hpos;rw[hx];obtain⟨u,hu⟩:=qM (Da.zn n+8-j);rw[hu]at HE;rw[hu];have hu1:u<S:=by have:=HS.out;omega
    have hu2:1<=u:=qO;have HU:=Lh hu;have hcu:∃y:UInt8,W1.cell? ⟨g,u,none⟩=some (.int .u8 (y.toNat:Int)):=⟨_,by rw[hA1.cell];exact aB _ u (by rw[sD,HS.out];exact hu1)⟩;obtain⟨y,hcu⟩:=hcu;have hfu:=hA1.frozen u;have HV:Hid (IntKind.u8.wrap (x:Int)=((UInt8.ofNat x).toNat:Int)):=Lh (by rw[IntKind.wrap_u8,UInt8.toNat_ofNat'];omega);have HA1:=Lh hA1;have HB1:=Lh hB1;clear hA1 hB1 hx hu;go_wp2_with fail;refine⟨⟨j+1,qO,?_,?_,?_,?_⟩,by simp only[intOf];omega⟩
    ·rw[show((u:Int)-1)=((Da.zn n+8-(j+1):Nat):Int) from by have:=HU.out;omega]
    ·rw[HD2.out];rfl
    ·rw[show((x:Int) % 256)=((UInt8.ofNat x).toNat:Int) from by rw[UInt8.toNat_ofNat'];omega,<-HE.out,<-dP];exact HA1.out.set u _
    ·exact HA1.out.below HB1.out (Nat.le_of_eq HG.out) u _
   ·have hz:8*n / 256^j=0:=Nat.eq_zero_of_not_pos hpos;rw[Lx n j hj hz]at hA1;have hpl:(Da.pad n).length=S:=by rw[Da.jg];exact HS.out
    have HR:Hid (RowIs W1 (some ⟨g,0,none⟩) (bytesV (Da.pad n)) S):=Lh (by rw[<-hpl];exact hA1.row (by rw[hpl];unfold maxLen;omega));have HB1:=Lh hB1;have HPL:=Lh hpl;rw[hz];clear hA1 hB1 hpl;rw[show(((0:Nat):Int))=0 from rfl];go_wp2_with fail;go_ret;exact⟨g,by rw[HPL.out,<-HG.out];rfl,by have:=HG.out;omega,by rw[HPL.out];exact HR.out,HB1.out⟩
theorem bJ:(Tryz.prog.info? 44).map (·.size)=some 32:=qK
theorem au: Tryz.prog.underlying 44=some (.array 32 5):=qK
theorem dg_zero(w:World):Sem.run Tryz.prog (zeroValue 44) w=.ok (.agg (bytesV (List.replicate 32 0)).toArray) w:=qK
theorem I3(w:World):Sem.run Tryz.prog (zeroValue 194) w=.ok (.agg (hcs (List.replicate 8 0) (List.replicate 64 0) 0).toArray) w:=qK
theorem Lz:∃fs,Tryz.prog.underlying 194=some (.struct fs):=by
 have h:=DX;revert h
 generalize Tryz.prog.underlying 194=u;intro h;split at h
 ·exact⟨_,rfl⟩
 ·exact absurd h Bool.false_ne_true
theorem QX(st:List UInt32)(rs:BL)(n:Nat):(hcs st rs n).toArray.all (·.oneCell')=true:=by
 refine all_oneCell_toArray fun v hv=>?_
 simp only[hcs,List.mem_append]at hv;rcases hv with h|h|h
 ·exact jB _ v h
 ·exact aG _ v h
 ·simp at h;subst h;rfl
def dgp(l:List UInt32)(m:Nat):BL:=(List.range 32).map fun q=>if q<m then UInt8.ofNat ((Da.wi l (q / 4)).toNat / 2^(24-8*(q % 4)))else 0
theorem um(l:List UInt32)(m:Nat):(dgp l m).length=32:=by simp[dgp]
theorem Ag(l:List UInt32):dgp l 0=List.replicate 32 0:=by
 refine List.ext_getElem (by simp[dgp]) fun j h1 h2=>?_
 rw[List.getElem_replicate];simp only[dgp,List.getElem_map,Nat.not_lt_zero,if_false]
theorem GL(l:List UInt32):dgp l 32=Da.Cv l:=by
 unfold dgp Da.Cv;refine List.map_congr_left fun q hq=>?_
 rw[if_pos (by simpa using hq)]
theorem Ah(l:List UInt32)(m:Nat):(dgp l m).set m (UInt8.ofNat ((Da.wi l (m / 4)).toNat / 2^(24-8*(m % 4))))=dgp l (m+1):=by
 refine List.ext_getElem (by simp[dgp]) fun j h1 h2=>?_
 simp only[dgp,List.getElem_set,List.getElem_map,List.getElem_range];by_cases e:m=j
 ·subst e;simp
 ·rw[if_neg e];by_cases e2:j<m
  ·rw[if_pos e2,if_pos qO]
  ·rw[if_neg e2,if_neg qO]
def Su1(st:List UInt32)(g g2:Nat)(w:World)(i:Value)(wr:World):Prop:=
 ∃k:Nat,k<=8/\i=.int .i64 k/\Arr wr g2 44 (bytesV (dgp st (4*k)))/\Arr wr g 44 (bytesV (List.replicate 32 0))/\Below w.heap.size w wr
def Su2(st:List UInt32)(g g2 k:Nat)(w:World)(i:Value)(wr:World):Prop:=
 ∃j:Nat,j<=4/\i=.int .i64 j/\Arr wr g2 44 (bytesV (dgp st (4*k+j)))/\Arr wr g 44 (bytesV (List.replicate 32 0))/\Below w.heap.size w wr
structure Cds(W:World):Prop where
 cubes:Var W 23 Da.cubes
 begins:Var W 22 Da.begins
theorem Cds.later{W W':World}(h:Cds W)(hb:Below W.heap.size W W'):Cds W':=⟨h.cubes.later hb,h.begins.later hb⟩
theorem Cds.kept{W W':World}{b:Nat}(h:Cds W)(hg:W.grownBy W' (some b))(hb: 23≠b/\ 22≠b):Cds W':=
 ⟨h.cubes.kept hg (fun e=>hb.1 (by cases e;rfl)),h.begins.kept hg (fun e=>hb.2 (by cases e;rfl))⟩
theorem Cds.ne{W:World}(h:Cds W){b:Nat}(hb:W.heap.size<=b): 23≠b/\ 22≠b:=by
 have h1:=h.cubes.lt;have h2:=h.begins.lt;omega
theorem Ui(Z Y:Array Value)(hZ:Z=(bytesV (List.replicate 32 0)).toArray)(hY:Y=(hcs (List.replicate 8 0) (List.replicate 64 0) 0).toArray)(hzs:∀w,Sem.run Tryz.prog (zeroValue 44) w=.ok (.agg Z) w)(hys:∀w,Sem.run Tryz.prog (zeroValue 194) w=.ok (.agg Y) w)
  (b:Nat) (p:BL) (w:World) (h:Hash w b p) (hV:Cds w) (hl:p.length<=900000):
  Calls Tryz.prog 70 #[.pointer (some ⟨b,0,none⟩)] w fun e w'=>e=.returned (.agg (bytesV (Da.sha p)).toArray)/\Below w.heap.size w w':=by
 obtain⟨st,rs,h⟩:=h;obtain⟨fs,hfs⟩:=Lz;obtain⟨g,hg⟩:=qM w.heap.size;obtain⟨H,hH⟩:=qM ((hcs st rs p.length).toArray);obtain⟨W1,hW1⟩:=qM (w.alloc (Obj.cells Z 44));have hb1:Below w.heap.size w W1:=by rw[<-hW1];exact qB.alloc qN _
 have hs1:W1.heap.size=g+1:=by rw[<-hW1,World.size_alloc,hg]
 have hR1:Arr W1 g 44 (bytesV (List.replicate 32 0)):=by rw[<-hW1,hZ,<-hg];exact Arr.made _ _ _
 have hA1:Arr W1 b 194 (hcs st rs p.length):=h.arr.later hb1 h.arr.lt;obtain⟨W2,hW2⟩:=qM (W1.alloc (Obj.cells Y 194));have hA2:Arr W2 (g+1) 194 (hcs (List.replicate 8 0) (List.replicate 64 0) 0):=by rw[<-hW2,hY,<-hs1];exact Arr.made _ _ _
 have hb2:Below W1.heap.size W1 W2:=by rw[<-hW2];exact qB.alloc qN _
 obtain⟨W3,hW3⟩:=qM (W2.setRow (g+1) H);have hb3:Below W1.heap.size W1 W3:=by rw[<-hW3];exact hb2.trans (aA qO)
 have hA3:Arr W3 (g+1) 194 (hcs st rs p.length):=by rw[<-hW3,<-hH];exact setRow_heap _ _ _ _ _ _ hA2
 have hs3:g+1+1<=W3.heap.size:=hA3.lt;have hbl:b<=g:=by have:=h.arr.lt;omega
 have HLD:Hid (W1.heap[b]? =some (.cells H 194 (0,0))):=Lh (by rw[<-hH];exact hA1);have HSZ:Hid ((Tryz.prog.info? 194).map (·.size)=some H.size):=Lh (by rw[I2,<-hH];simp[eB _ h.slen h.rlen]);have HST:Hid (W2.heap[g+1]? =some (.cells Y 194 (0,0))):=Lh (by rw[hY];exact hA2);have HYS:Hid (Y.size=H.size):=Lh (by rw[hY,<-hH];simp[eB _ h.slen h.rlen];rfl);have HOC:Hid (H.all (·.oneCell')=true):=Lh (by rw[<-hH];exact QX _ _ _);have hH3:Hash W3 (g+1) p:=⟨st,rs,hA3,h.slen,h.rlen,h.ok⟩;have hcnt:W3.cell? ⟨b,72,none⟩=some (.int .i64 (p.length:Int)):=by rw[(hA1.later hb3 hA1.lt).cell];exact fY _ h.slen h.rlen
 have HH3:=Lh hH3;have HV3:Hid (Cds W3):=Lh ((hV.later hb1).later hb3);have HCN:=Lh (hV.ne (b:=g+1) qO);have HB3:Hid (Below w.heap.size w W3):=Lh (Ks hb1 hb3);have HR3:Hid (Arr W3 g 44 (bytesV (List.replicate 32 0))):=Lh (hR1.later hb3 hR1.lt);have HW1:=Lh hW1;have HW2:=Lh hW2;have HW3:=Lh hW3;have HS1:=Lh hs1;have HS3:=Lh hs3;have HG:=Lh hg;have HZ:=Lh hZ;clear h hV hH hW1 hb1 hs1 hR1 hA1 hW2 hA2 hb2 hW3 hb3 hA3 hs3 hH3 hZ hY;go_enter Tryz.func70,Tryz.ntmps70
 go_upto_region 1 with fail
 rw[HW1.out];apply wp_region_lit;refine qP ?_;refine qP ?_;refine wpList_load_row rfl 194 (.tmp 9) rfl b rfl 194 H (0,0) _ HLD.out hfs rfl HSZ.out ?_;refine qP ?_;rw[HW2.out,HS1.out];refine wpList_store_rowTo rfl 194 (.tmp 3) (.tmp 10) rfl rfl (g+1) H rfl rfl 194 Y HST.out HSZ.out HYS.out HOC.out ?_;rw[HW3.out];go_wp2_with fail;refine(QW p.length qO W3).mono ?_;rintro e W4 ⟨ge,rfl,hge,hre,hb4⟩;go_wp2_with fail;refine(tY (g+1) p (Da.pad p.length) (some ⟨ge,0,none⟩) (Da.pad p.length).length W4 (by obtain⟨s1,r1,h1⟩:=HH3.out;exact⟨s1,r1,h1.arr.later hb4 h1.arr.lt,h1.slen,h1.rlen,h1.ok⟩) hre (fun _ ad e=>by cases e;show ge≠g+1;have:=HS3.out;omega) HCN.out (HV3.out.later hb4).cubes (HV3.out.later hb4).begins (by rw[Da.jg];have:=Da.TX p.length;omega)).mono ?_;rintro e W5 ⟨rfl,⟨st',rs',h5⟩,hg5⟩;have hfe:p++Da.pad p.length=Da.full p:=rfl;have hfn:Da.full p≠[]:=fun h0=>by
  have:=Da.si p;rw[h0]at this;simp at this
 rw[hfe]at h5;have hok:=h5.ok hfn;have hdg:=hok.sha;obtain⟨g2,hg2⟩:=qM W5.heap.size;have hsz5:W3.heap.size<=g2:=by have:=hb4.size;have:=hg5.size;omega
 obtain⟨W6,hW6⟩:=qM (W5.alloc (Obj.cells Z 44));have hb6:Below W5.heap.size W5 W6:=by rw[<-hW6];exact qB.alloc qN _
 have hA6:Arr W6 g2 44 (bytesV (dgp st' (4*0))):=by rw[<-hW6,HZ.out,<-hg2,Nat.mul_zero,Ag];exact Arr.made _ _ _
 have hR6:Arr W6 g 44 (bytesV (List.replicate 32 0)):=by
  have h3:=HR3.out.later hb4 HR3.out.lt;exact(h3.kept hg5 (fun e=>by cases e)).later hb6 (h3.kept hg5 (fun e=>by cases e)).lt
 have hB6:Below w.heap.size w W6:=by
  have h4:Below w.heap.size w W4:=Ks HB3.out hb4;have h5:Below w.heap.size w W5:=below_grown h4 hg5 (by have:=HG.out;omega) h4.size;exact Ks h5 hb6
 have hl5:W6.rangeAt (g+1) 0 (ar st'):=(h5.arr.later hb6 h5.arr.lt).range 0 _ (sC _ h5.slen);obtain⟨D,hD⟩:=qM ((ar st').toArray);have HL5:=Lh hl5;have HL6:Hid ((Tryz.prog.info? 120).map (·.size)=some (ar st').length):=Lh (by rw[iA];simp[h5.slen]);have HSL:=Lh h5.slen;have HDG:=Lh hdg;have HA6:=Lh hA6;have HR6:=Lh hR6;have HB6:=Lh hB6;have HW6:=Lh hW6;have HG2:=Lh hg2;have HSZ5:=Lh hsz5;have HDE:=Lh hD;clear hge hre hb4 h5 hg5 hfe hfn hok hdg hg2 hsz5 hW6 hb6 hA6 hR6 hB6 hl5 hD HH3 HV3 HCN HB3 HR3 HW1 HW2 HW3 HLD HST;go_upto_region 4 with fail
 rw[HW6.out,HG2.out];apply wp_region_lit;refine qP ?_;refine wpList_load_mid rfl 120 (.tmp 17) rfl (g+1) 0 rfl (ar st') _ HL5.out fK rfl HL6.out ?_;rw[HDE.out];go_wp2_with fail;clear HL5 HL6 HW6 hys HZ;have hgg:g+2<=g2:=by have:=HSZ5.out;have:=HS3.out;omega
 go_loopw [19] (fun i wr=>Su1 st' g g2 w i wr) (fun i _=>8-(intOf i).toNat)
 case atStart=>exact⟨0,Nat.zero_le _,rfl,HA6.out,HR6.out,HB6.out⟩
 case round=>
  rename World=>X1
  obtain⟨k,hk,rfl,hA1,hR1,hB1⟩:=hrel;by_cases hlt:k<8
  ·have hd1:decide ((k:Int)<8)=true:=by simpa using (by omega:(k:Int)<8)
   obtain⟨x,hx⟩:=qM (Da.wi st' k);have hIX:∀W,(Instr.index 120 (.agg D) (.int .i64 (k:Int))).run Tryz.prog W=.ok (.int .u32 (x.toNat:Int)) W:=et _ _ 8 D k _ fK qK (fun W=>qK) hlt (by rw[<-HDE.out,List.getElem?_toArray,<-hx];exact dS _ _ (by rw[HSL.out];exact hlt));have HX:=Lh hx;have HA1:=Lh hA1;have HR1:=Lh hR1;have HB1:=Lh hB1;clear hA1 hR1 hB1 hx;go_wp2_with fail;go_loopw [23] (fun i wr=>Su2 st' g g2 k w i wr) (fun i _=>4-(intOf i).toNat)
   case atStart=>exact⟨0,Nat.zero_le _,rfl,HA1.out,HR1.out,HB1.out⟩
   case round=>
    rename World=>X2
    obtain⟨j,hj,rfl,hA2,hR2,hB2⟩:=hrel;by_cases hlj:j<4
    ·have hd2:decide ((j:Int)<4)=true:=by simpa using (by omega:(j:Int)<4)
     obtain⟨s,hs⟩:=qM (24-8*j);have hsh:(24:Int)-8*(j:Int)=(s:Int):=qO;have hs31:s<=24:=qO;obtain⟨q,hq⟩:=qM (4*k+j);have hqi:(4:Int)*(k:Int)+(j:Int)=(q:Int):=qO;have hql:q<32:=qO;obtain⟨y,hy⟩:=qM ((dgp st' q).getD q 0);rw[hq]at hA2;have hce:X2.cell? ⟨g2,q,none⟩=some (.int .u8 (y.toNat:Int)):=by rw[hA2.cell,<-hy];exact aB _ _ (by rw[um];exact hql)
     have hfr:=hA2.frozen q;have HST:=Lh (Ah st' q);rw[show q / 4=k by omega,show q % 4=j by omega,HX.out,hs]at HST;have HA2:=Lh hA2;have HR2:=Lh hR2;have HB2:=Lh hB2;have HQ:=Lh hq;clear hA2 hR2 hB2 hy hq hs;go_wp2_with fail;refine⟨⟨j+1,qO,by go_num,?_,?_,?_⟩,by simp[intOf];omega⟩
     ·rw[<-Nat.add_assoc,HQ.out,show((x.toNat:Int) / 2^s % 256)=((UInt8.ofNat (x.toNat / 2^s)).toNat:Int) from by rw[UInt8.toNat_ofNat',Int.natCast_emod,Int.natCast_ediv,Int.natCast_pow];rfl,<-HST.out,<-dP];exact HA2.out.set q _
     ·exact HR2.out.ne HA2.out qO _ _
     ·exact HA2.out.below HB2.out (by have:=HG.out;omega) _ _
    ·obtain rfl:j=4:=qO;rw[show(((4:Nat):Int))=4 from rfl];rw[show 4*k+4=4*(k+1) by omega]at hA2;have HA2:=Lh hA2;have HR2:=Lh hR2;have HB2:=Lh hB2;clear hA2 hR2 hB2;go_wp2_with fail;exact⟨⟨k+1,qO,by go_num,HA2.out,HR2.out,HB2.out⟩,by simp[intOf];omega⟩
  ·obtain rfl:k=8:=qO;rw[show(((8:Nat):Int))=8 from rfl];rw[show 4*8=32 from rfl,GL,HDG.out]at hA1;obtain⟨F,hF⟩:=qM ((bytesV (Da.sha p)).toArray);have HRS:Hid ((Tryz.prog.info? 44).map (·.size)=some F.size):=Lh (by rw[bJ,<-hF];simp[Da.ai]);have HRO:Hid (F.all (·.oneCell')=true):=Lh (by rw[<-hF];exact all_oneCell_toArray (aG _));have HRZ:Hid ((bytesV (List.replicate 32 0)).toArray.size=F.size):=Lh (by rw[<-hF];simp[Da.ai]);have HL1:Hid (X1.heap[g2]? =some (.cells F 44 (0,0))):=Lh (by rw[<-hF];exact hA1);have HL2:Hid (X1.heap[g]? =some (.cells (bytesV (List.replicate 32 0)).toArray 44 (0,0))):=Lh hR1;have HGW:Hid ((X1.setRow g F).heap[g]? =some (.cells F 44 (0,0))):=Lh (setRow_heap _ _ _ _ _ _ hR1);have HBW:Hid (Below w.heap.size w (X1.setRow g F)):=Lh (hB1.trans (aA (Nat.le_of_eq HG.out)));have HFE:=Lh hF;clear hF hA1 hR1 hB1 hzs;go_wp2_with (first|refine wpList_load_row rfl 44 (.tmp 4) rfl g2 rfl 44 F (0,0) _ HL1.out au rfl HRS.out ?_|refine wpList_store_row rfl 44 (.tmp 2) (.tmp 39) rfl g F rfl rfl 44 (bytesV (List.replicate 32 0)).toArray HL2.out HRS.out HRZ.out HRO.out ?_)
   refine bodyPost_ret (results_cell_row rfl _ _ g 44 F (0,0) _ rfl HGW.out au rfl HRS.out) rfl ?_;exact⟨by rw[HFE.out],HBW.out⟩
theorem Ai(b:Nat)(p:BL)(w:World)(h:Hash w b p)(hV:Cds w)(hl:p.length<=900000):
  Calls Tryz.prog 70 #[.pointer (some ⟨b,0,none⟩)] w fun e w'=>e=.returned (.agg (bytesV (Da.sha p)).toArray)/\Below w.heap.size w w':=Ui _ _ rfl rfl dg_zero I3 b p w h hV hl
def Of1(bs:L8)(g:Nat)(w:World)(i:Value)(wr:World):Prop:=
 ∃k:Nat,k<=bs.length/\i=.int .i64 k/\Hash wr (g+1) (bs.take k).flatten/\Arr wr g 44 (bytesV (List.replicate 32 0))/\Below w.heap.size w wr
theorem ia(bs:L8)(k:Nat)(h:k<bs.length):(bs.take (k+1)).flatten=(bs.take k).flatten++bi bs k:=by
 rw[List.take_add_one,List.getElem?_eq_getElem h,List.flatten_append];simp[bi,h]
theorem yq(bs:L8)(k:Nat):(bs.take k).flatten.length<=bs.flatten.length:=by
 have:bs.flatten=(bs.take k).flatten++(bs.drop k).flatten:=by rw[<-List.flatten_append,List.take_append_drop]
 rw[this,List.length_append];omega
theorem Uj(Z:Array Value)(hZ:Z=(bytesV (List.replicate 32 0)).toArray)(hzs:∀w,Sem.run Tryz.prog (zeroValue 44) w=.ok (.agg Z) w)(bs:L8)(o:Option Addr)(c:Nat)(w:World)
  (hR:RbIs w o bs c) (hV:Cds w) (hl:bs.flatten.length<=900000) (hn:bs.length<=1000000):
  Calls Tryz.prog 33 #[.slice o bs.length c] w fun e w'=>e=.returned (.agg (bytesV (Da.sha bs.flatten)).toArray)/\Below w.heap.size w w':=by
 obtain⟨g,hg⟩:=qM w.heap.size;obtain⟨W1,hW1⟩:=qM (w.alloc (Obj.cells Z 44));have hb1:Below w.heap.size w W1:=by rw[<-hW1];exact qB.alloc qN _
 have hs1:W1.heap.size=g+1:=by rw[<-hW1,World.size_alloc,hg]
 have hR1:Arr W1 g 44 (bytesV (List.replicate 32 0)):=by rw[<-hW1,hZ,<-hg];exact Arr.made _ _ _
 have HR:=Lh hR;have HV:=Lh hV;have HW1:=Lh hW1;have HB1:=Lh hb1;have HR1:=Lh hR1;have HS1:=Lh hs1;have HG:=Lh hg;clear hR hV hW1 hb1 hs1 hR1 hg hZ;go_enter Tryz.func33,Tryz.ntmps33
 go_upto_region 1 with fail
 rw[HW1.out,HG.out];go_wp2_with fail;refine(GI W1).mono ?_;rintro e W2 ⟨rfl,hh2,hb2,hs2⟩;rw[HS1.out]at hh2 hs2⊢;have HH2:=Lh hh2;have HR2:Hid (Arr W2 g 44 (bytesV (List.replicate 32 0))):=Lh (HR1.out.later hb2 HR1.out.lt);have HB2:Hid (Below w.heap.size w W2):=Lh (Ks HB1.out hb2);clear hh2 hb2 hs2 HW1 HB1 HR1;go_wp2_with fail;go_loopw [9] (fun i wr=>Of1 bs g w i wr) (fun i _=>bs.length-(intOf i).toNat)
 case atStart=>exact⟨0,Nat.zero_le _,rfl,HH2.out,HR2.out,HB2.out⟩
 case round=>
  rename World=>X1
  obtain⟨k,hk,rfl,hH1,hR1,hB1⟩:=hrel;by_cases hlt:k<bs.length
  ·have hd1:decide ((k:Int)<(bs.length:Int))=true:=by simpa using hlt
   obtain⟨b1,off1,p1,q1,rfl,hb1,hcell,hrow⟩:=(HR.out.later hB1).cell k hlt;have hrw:=HR.out.cell k hlt;have PU:Hid (Calls Tryz.prog 69 #[.pointer (some ⟨g+1,0,none⟩),.slice p1 (bi bs k).length q1] X1 fun e w'=>e=.returned (.pointer (some ⟨g+1,0,none⟩))/\Hash w' (g+1) ((bs.take k).flatten++bi bs k)/\X1.grownBy w' (some (g+1))):=Lh (by
    have hcd:=HV.out.later hB1;refine tY (g+1) (bs.take k).flatten (bi bs k) p1 q1 X1 hH1 hrow (fun h0 ad e=>?_) (HV.out.ne (by have:=HG.out;omega)) hcd.cubes hcd.begins ?_
    ·obtain⟨b2,off2,p2,q2,e2,hb2,hcell2,hrow2⟩:=hrw;cases e2
     rw[hB1.cell (p:=⟨b1,off1+k,none⟩) hb2]at hcell;rw[hcell]at hcell2;cases hcell2
     obtain⟨b3,off3,e3,hb3,_⟩:=hrow2.cells (by simpa using h0);rw[e]at e3;cases e3
     show b3≠g+1;have:=HG.out;omega
    ·have:=ia bs k hlt;have h2:=yq bs (k+1);rw[this,List.length_append]at h2;omega)
   have HFS:=Lh (ia bs k hlt);have HH1:=Lh hH1;have HR1:=Lh hR1;have HB1:=Lh hB1;clear hH1 hR1 hB1 hrow hrw;go_wp2_with fail;refine PU.out.mono ?_;rintro e X2 ⟨rfl,hh,hgr⟩;have HX:Hid (Of1 bs g w (.int .i64 ((k:Int)+1)) X2):=Lh ⟨k+1,qO,by go_num,by rw[HFS.out];exact hh,HR1.out.kept hgr (fun e=>by cases e),below_grown HB1.out hgr (by have:=HG.out;omega) HB1.out.size⟩;clear hh hgr PU;go_wp2_with fail;exact⟨HX.out,by simp[intOf];omega⟩
  ·obtain rfl:k=bs.length:=qO;rw[List.take_length]at hH1;have SU:Hid (Calls Tryz.prog 70 #[.pointer (some ⟨g+1,0,none⟩)] X1 fun e w'=>e=.returned (.agg (bytesV (Da.sha bs.flatten)).toArray)/\Below X1.heap.size X1 w'):=Lh (Ai (g+1) bs.flatten X1 hH1 (HV.out.later hB1) hl);obtain⟨F,hF⟩:=qM ((bytesV (Da.sha bs.flatten)).toArray);have HRS:Hid ((Tryz.prog.info? 44).map (·.size)=some F.size):=Lh (by rw[bJ,<-hF];simp[Da.ai]);have HRO:Hid (F.all (·.oneCell')=true):=Lh (by rw[<-hF];exact all_oneCell_toArray (aG _));have HRZ:Hid ((bytesV (List.replicate 32 0)).toArray.size=F.size):=Lh (by rw[<-hF];simp[Da.ai]);rw[hF]at SU;have HFE:=Lh hF;have HR1:=Lh hR1;have HB1:=Lh hB1;clear hH1 hR1 hB1 hF;go_wp2_with fail;refine SU.out.mono ?_;rintro e X2 ⟨rfl,hb⟩;have hr2:=HR1.out.later hb HR1.out.lt;have HL2:Hid (X2.heap[g]? =some (.cells (bytesV (List.replicate 32 0)).toArray 44 (0,0))):=Lh hr2;have HGW:Hid ((X2.setRow g F).heap[g]? =some (.cells F 44 (0,0))):=Lh (setRow_heap _ _ _ _ _ _ hr2);have HBW:Hid (Below w.heap.size w (X2.setRow g F)):=Lh ((Ks HB1.out hb).trans (aA (Nat.le_of_eq HG.out)));clear hb hr2 SU;go_wp2_with (first|refine wpList_store_row rfl 44 (.tmp 2) (.tmp 18) rfl g F rfl rfl 44 (bytesV (List.replicate 32 0)).toArray HL2.out HRS.out HRZ.out HRO.out ?_)
   refine bodyPost_ret (results_cell_row rfl _ _ g 44 F (0,0) _ rfl HGW.out au rfl HRS.out) rfl ?_;exact⟨by rw[HFE.out],HBW.out⟩
theorem mN(bs:L8)(o:Option Addr)(c:Nat)(w:World)(hR:RbIs w o bs c)(hV:Cds w)(hl:bs.flatten.length<=900000)(hn:bs.length<=1000000):
  Calls Tryz.prog 33 #[.slice o bs.length c] w fun e w'=>e=.returned (.agg (bytesV (Da.sha bs.flatten)).toArray)/\Below w.heap.size w w':=Uj _ rfl dg_zero bs o c w hR hV hl hn
namespace St
theorem bW{P:Program}{ops:Array Oper}{C:World->Prop}{K:Act->Prop}{o:Oper}{a:Act}{x:Value}(hg:Region.wanted o (yielded ops a.tmps)=true)(hv:∀w,C w->(execOp a.eval o).run P w=.ok (.value x) w)(h:K (a.put o.dst x)):
  if Region.wanted o (yielded ops a.tmps)then o.quiet P a C K else K (a.put o.dst undef):=by
 rw[if_pos hg];refine⟨x,fun w hw=>?_,h⟩;unfold Oper.quietAt;rw[hv w hw];exact⟨rfl,rfl⟩
theorem pB{P:Program}{ops:Array Oper}{C:World->Prop}{K:Act->Prop}{o:Oper}{a:Act}(hg:Region.wanted o (yielded ops a.tmps)=true)(f:FuncId)(xs:Array Operand)(ts:Array TypeId)(ho:o.op=.call {callee:=.value (.func f),args:=xs,argTypes:=ts})
  (args:Array Value) (ha:xs.map a.eval=args) (ek:∀w,(callFunc f args).run P w=.ok (.enter f args) w) (v:Value) (hc:∀w,C w->Calls P f args w fun e w'=>e=.returned v/\C w')
  (h:K (a.put o.dst v)):if Region.wanted o (yielded ops a.tmps)then o.quiet P a C K else K (a.put o.dst undef):=by
 rw[if_pos hg];refine⟨v,fun w hw=>?_,h⟩;have hrun:(execOp a.eval o).run P w=.ok (.enter f args) w:=by
  simp only[execOp,ho,resolve,invoke];have hx:a.eval (.func f)=.func (.func f) #[] #[]:=rfl;simp[hx,ha,ek w,go_sem]
 unfold Oper.quietAt;rw[hrun];exact⟨rfl,hc w hw⟩
theorem ib{P:Program}{o:Oper}{a:Act}{w:World}{ty:TypeId}{x:Operand}{b off:Nat}(ho:o.op=.load ty x)(hx:a.eval x=.pointer (some ⟨b,off,none⟩))(cs:List Value)(d:TypeDesc)(hc:w.rangeAt b off cs)(hu:P.underlying ty=some d)(hd:d.isRow=true)(hi:(P.info? ty).map (·.size)=some cs.length):
  (execOp a.eval o).run P w=.ok (.value (.agg cs.toArray)) w:=by
 unfold execOp;simp only[ho,hx,run_loadAt_mid w b off ty cs d hc hu hd hi,Result.andThen_ok,Sem.run_bind,Sem.run_pure]
end St
theorem kR(W:World)(x:UInt8):RowIs (W.alloc (.cells #[.int .u8 (x.toNat:Int)] 5)) (some ⟨W.heap.size,0,none⟩) (bytesV [x]) 1:=
 (Arr.made W 5 (bytesV [x])).row (by unfold maxLen;simp)
