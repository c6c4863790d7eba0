/- Bc -/
import Derived.Test.YteldgablpehcpaaGreatDoorSh
import Derived.Test.YteldgablpehcpaaGreatDoorPe
set_option linter.unusedVariables false
set_option linter.unusedSimpArgs false
set_option maxRecDepth 100000
set_option maxHeartbeats 8000000
namespace Go.Proofs.YteldgablpehcpaaGreatDoor
open Go.RowKit
theorem ED(f:BL)(N:Nat)(h:8*nbk f.length=N):splice (List.replicate N 0) 0 f=jN f:=by
 have hl:=pn f.length;refine aN (by rw[length_splice _ _ _ (by simp;omega)];simp[h]) fun i hi=>?_
 rw[length_splice _ _ _ (by simp;omega)]at hi;rw[j7 _ _ _ _ (by simp;omega),cw];unfold jN;rw[nX];by_cases h1:i<f.length
 ·rw[if_pos ⟨qO,qO⟩,if_pos h1,Nat.sub_zero]
 ·rw[if_neg qO,if_neg h1,cw]
theorem RH(f:BL)(o:Option Addr)(c:Nat)(w:World)(hP:RowIs w o (bytesV f) c)(hl:f.length<=100000):
  Calls Tryz.prog 124 #[.slice o f.length c] w (Own (jN f) w):=by
 obtain⟨i0,hi,hz0,hz1,hz2⟩:=info_parts ao;have h1:=hP.le;have h2:=hP.cap;simp only[bytesV_length]at h1;unfold maxLen at h2;have HP:=Lh hP;have HPOS:Hid (∀w1,Below w.heap.size w w1->0<(bytesV f).length->∃ad,o=some ad/\∀j v,(bytesV f)[j]? =some v->w1.cell? (ad.add j)=some v):=Lh fun w1 hb h0=>by
  have hr:=HP.out.later hb;obtain⟨b,off,rfl,_,_⟩:=hr.cells h0;exact⟨_,rfl,hr.adds _ rfl⟩
 have HC:=Lh (xz f.length w qO);have hle:=pn f.length;have hlb:nbk f.length<=f.length+1:=by unfold nbk;split<;>omega
 have hpl:=nZ f;obtain⟨m,hm⟩:=qM (nbk f.length);obtain⟨N,hN⟩:=qM (8*nbk f.length);have HSP:=Lh (ED f N hN);rw[hm]at HC hle hlb;rw[hN]at hpl;rw[hm]at hN;have HPL:=Lh hpl;have hNi:(m:Int)*8=(N:Int):=qO;have hN0:f.length<=N:=qO;have hN1:N<=1000000:=qO;clear hP hm hN hpl hle hlb;go_enter Tryz.func124,Tryz.ntmps124
 go_wp2_with fail;refine HC.out.mono ?_;rintro e w' ⟨rfl,rfl⟩;go_wp2_with (at_make;refine wpList_make_full _ rfl _ _ 22 rfl 0 5 i0 (.int .u8 0) 1 Tryz.underlying22 hi hz0 hz1 _ _ _ _ N rfl rfl qO qO (by rw[hz2];omega) (by unfold maxLen;omega) (Nat.zero_le _) ?_)
 intro w1 hown hgrow;have hb1:Below w'.heap.size w' w1:=qB.grown hgrow qN (fun k h=>by cases h);have HB1:=Lh hb1;have HF1:=Lh ((bK hown).full qS:Full w1 w'.heap.size (List.replicate N 0));clear hown hgrow hb1;go_wp2_with (refine wpList_copy_splice rfl (.tmp 9) (.tmp 10) 22 22 rfl 5 Tryz.underlying22 (by rw[hi];simp[hz1]) _ _ _ _ _ _ rfl rfl w'.heap.size 0 (bytesV (List.replicate N 0)) 5 HF1.out (bytesV f) (by simp only[bytesV_length];exact(Nat.min_eq_left qO).symm) (fun h0=>⟨rfl,HPOS.out _ HB1.out h0⟩) (by rw[bytesV_length,bytesV_length,List.length_replicate];omega) (aG f) w'.heap.size w' HB1.out qN ?_)
 intro w2 hfull2 hb2;have HBUF:Hid (Buf w2 w'.heap.size N (jN f)):=Lh (by
  have h:Full w2 w'.heap.size (splice (List.replicate N 0) 0 f):=by unfold Full;rw[<-dM];exact hfull2
  rw[HSP.out]at h;have:=h.buf (by rw[HPL.out];unfold maxLen;omega);rwa[HPL.out]at this)
 have HB2:=Lh hb2;clear hfull2 hb2;go_wp2_with fail;go_ret;exact⟨w'.heap.size,N,by rw[HPL.out];rfl,Nat.le_refl _,HBUF.out,HB2.out⟩
def Mat8(W:World)(B gO R:Nat)(Gb:Nat->Nat)(m:Nat->Nat->UInt8):Prop:=Mat W B gO R 8 R Gb (fun _=>8) m
theorem Mat8.els{W:World}{B gO R:Nat}{Gb:Nat->Nat}{m:Nat->Nat->UInt8}(h:Mat8 W B gO R Gb m)(bs:L8)(hl:bs.length=R)(he:∀i,i<R->bi bs i=tab (m i) 8):RbIs W (some ⟨gO,0,none⟩) bs R:=by
 have h1:=h.lt;refine⟨(List.range R).map fun i=>.slice (some ⟨Gb i,0,none⟩) 8 8,⟨qS,h.cap.2,(fun e=>by cases e),fun h0=>⟨gO,0,rfl,h1.2,fun i v hv=>?_⟩⟩,⟨?_,fun i x hx=>?_⟩⟩
 ·have hi:=(List.getElem?_eq_some_iff.1 hv).1;simp at hi;rw[Nat.zero_add,h.hdr i hi];simp[hi]at hv;rw[hv]
 ·simp[hl]
 ·have hi:=(List.getElem?_eq_some_iff.1 hx).1;simp at hi;simp[hi]at hx;subst hx;rw[he i hi];have hr:=(h.row i hi).1.row;exact⟨_,_,by rw[dU],hr⟩
def bnk(n k:Nat)(Gb:Nat->Nat):List Value:=((List.range k).map fun i=>(.slice (some ⟨Gb i,0,none⟩) 8 8:Value))++List.replicate (n-k) (.slice none 0 0)
theorem RJ(n k g:Nat)(Gb:Nat->Nat)(h:k<n):(bnk n k Gb).set k (.slice (some ⟨g,0,none⟩) 8 8)=bnk n (k+1) (fun i=>if i=k then g else Gb i):=by
 unfold bnk;refine List.ext_getElem (by simp;omega) fun i h1 h2=>?_
 simp at h1;rw[List.getElem_set];by_cases e:k=i
 ·subst e;rw[if_pos rfl,List.getElem_append_left qS];simp
 ·rw[if_neg e];by_cases h3:i<k
  ·rw[List.getElem_append_left (by simpa using h3),List.getElem_append_left (by simp;omega)];simp[show i≠k by omega]
  ·rw[List.getElem_append_right (by simpa using h3),List.getElem_append_right (by simp;omega)];simp
structure BnkIs(w:World)(n g0 k:Nat)(Gb:Nat->Nat)(wr:World):Prop where
 own:wr.ownsRow w.heap.size 22 1 (.slice (some ⟨g0,0,none⟩) n n) n (bnk n k Gb)
 row:∀i,i<k->Buf wr (Gb i) 8 (tab (fun _=>0) 8)/\w.heap.size<=Gb i
 apart:∀i j,i<k->j<k->Gb i=Gb j->i=j
 below:Below w.heap.size w wr
def aAG(w:World)(n g0:Nat)(iv:Value)(wr:World):Prop:=∃(k:Nat)(Gb:Nat->Nat),k<=n/\iv=.int .i64 k/\BnkIs w n g0 k Gb wr
theorem JS{W:World}{B g0 n:Nat}{xs:List Value}(h:W.ownsRow B 22 1 (.slice (some ⟨g0,0,none⟩) n n) n xs){g cap:Nat}{ys:BL}(hb:Buf W g cap ys):g0≠g:=fun e=>by
 obtain⟨cur2,h2⟩:=hb.cells;rcases h.2 with ⟨h1,_⟩|⟨g',cap',cur,h1,_,h3,_⟩
 ·cases h1
 ·cases h1
  rw[e,h2]at h3;cases h3
theorem BnkIs.step{w:World}{n g0 k:Nat}{Gb:Nat->Nat}{wr w2:World}(h:BnkIs w n g0 k Gb wr)(hk:k<n)(hb:Below wr.heap.size wr w2)(g:Nat)(hg:wr.heap.size<=g)(hB:Buf w2 g 8 (tab (fun _=>0) 8)):
  BnkIs w n g0 (k+1) (fun i=>if i=k then g else Gb i) (w2.setCell ⟨g0,k,none⟩ (.slice (some ⟨g,0,none⟩) 8 8)):=by
 have hlt:=World.ownsRow.lt h.own g0 rfl;have hown2:w2.ownsRow w.heap.size 22 1 (.slice (some ⟨g0,0,none⟩) n n) n (bnk n k Gb):=World.ownsRow.kept (row:=none) h.own ⟨hb.os,hb.tape,hb.output,hb.size,fun i hi _=>hb.block i hi⟩ (.inr (by simp[Value.ownBlock]));have hs:=World.ownsRow.stored hown2 k (.slice (some ⟨g,0,none⟩) 8 8);rw[RJ n k g Gb hk]at hs;have hkeep:∀g' cap ys,Buf w2 g' cap ys->Buf (w2.setCell ⟨g0,k,none⟩ (.slice (some ⟨g,0,none⟩) 8 8)) g' cap ys:=fun g' cap ys hb'=>World.ownsRow.kept hb' hs.2 (.inr fun e=>JS hown2 hb' (Option.some.inj (show some g'=some g0 from e)).symm)
 have hb2:=h.below;refine⟨hs.1,fun i hi=>?_,fun i j hi hj e=>?_,?_⟩
 ·by_cases e:i=k
  ·subst e;rw[if_pos rfl];exact⟨hkeep _ _ _ hB,by have:=hb2.size;omega⟩
  ·rw[if_neg e];have hr:=h.row i qO;exact⟨hkeep _ _ _ (hr.1.later hb),hr.2⟩
 ·by_cases ei:i=k
  ·by_cases ej:j=k
   ·omega
   ·rw[if_pos ei,if_neg ej]at e;have:=(h.row j qO).1.lt;omega
  ·by_cases ej:j=k
   ·rw[if_neg ei,if_pos ej]at e;have:=(h.row i qO).1.lt;omega
   ·rw[if_neg ei,if_neg ej]at e;exact h.apart i j qO qO e
 ·have h3:=Ks hb2 hb;exact h3.trans (Only.below hs.2 hlt.1 h3.size)
theorem yD(n:Nat)(w:World)(hn:n<=1000):
  Calls Tryz.prog 100 #[.int .i64 (n:Int)] w fun e w'=>∃gO Gb,e=.returned (.slice (some ⟨gO,0,none⟩) n n)/\Mat8 w' w.heap.size gO n Gb (fun _ _=>0)/\Below w.heap.size w w':=by
 obtain⟨i0,hi,hz0,hz1,hz2⟩:=info_parts ao;obtain⟨i1,hi1,hy0,hy1,hy2⟩:=info_parts fX;go_enter Tryz.func100,Tryz.ntmps100
 go_wp2_with (at_make;refine wpList_make_full _ rfl _ _ 27 rfl w.heap.size 22 i1 (.slice none 0 0) 1 Tryz.underlying27 hi1 hy0 hy1 _ _ _ _ n rfl rfl qO qO (by rw[hy2];omega) (by unfold maxLen;omega) qN ?_)
 intro w1 hown hgrow;have hb1:Below w.heap.size w w1:=qB.grown hgrow qN (fun k h=>by cases h);have HST:Hid (BnkIs w n w.heap.size 0 (fun _=>0) w1):=Lh ⟨by
  have e:bnk n 0 (fun _=>0)=(madeCells #[(.slice none 0 0:Value)] n).toList:=by
   rw[toList_madeCells_one];simp[bnk]
  rw[e];exact hown,fun i hi=>absurd hi qO,fun i j hi=>absurd hi qO,hb1⟩
 clear hown hgrow hb1;go_wp2_with fail;go_loopw [4,9] (fun _ iv wr=>aAG w n w.heap.size iv wr) (fun _ iv _=>n-(intOf iv).toNat)
 case atStart=>exact⟨0,fun _=>0,Nat.zero_le _,rfl,HST.out⟩
 case round=>
  obtain⟨k,Gb,hk,rfl,hs⟩:=hrel;have HS:=Lh hs;by_cases hlt:k<n
  ·have hk0:(0:Int)<=(k:Int):=qO;have hk1:(k:Int)<(n:Int):=qO;clear hs;go_wp2_with (at_make;refine wpList_make_full _ rfl _ _ 22 rfl 0 5 i0 (.int .u8 0) 1 Tryz.underlying22 hi hz0 hz1 _ _ _ _ 8 rfl rfl qO qO (by rw[hz2];omega) (by unfold maxLen;omega) (Nat.zero_le _) ?_)
   intro w2 hown hgrow;have hb2:Below wr.heap.size wr w2:=qB.grown hgrow qN (fun k h=>by cases h);have hbuf:Buf w2 wr.heap.size 8 (tab (fun _=>0) 8):=by
    have:=bK hown;exact this
   have hown2:w2.ownsRow w.heap.size 22 1 (.slice (some ⟨w.heap.size,0,none⟩) n n) n (bnk n k Gb):=World.ownsRow.kept (row:=none) HS.out.own ⟨hb2.os,hb2.tape,hb2.output,hb2.size,fun i hi _=>hb2.block i hi⟩ (.inr (by simp[Value.ownBlock]));have hc1:w2.cell? ⟨w.heap.size,k,none⟩=some (.slice none 0 0):=by
    rw[World.ownsRow.cellAt hown2 k qO];unfold bnk;rw[List.getElem?_append_right qS];simp[List.getElem?_replicate];omega
   have hf1:=World.ownsRow.frozenAt hown2 k;have HX:=Lh (HS.out.step hlt hb2 wr.heap.size qN hbuf);clear hown hgrow hb2 hbuf hown2;go_wp2_with fail;go_roundw
   case rel=>exact⟨k+1,_,qO,by go_num,HX.out⟩
   case measure=>simp[intOf];omega
  ·obtain rfl:k=n:=qO;clear hs;go_wp2_with fail;go_ret;refine⟨w.heap.size,Gb,rfl,⟨?_,fun i hi=>HS.out.row i hi,HS.out.apart⟩,HS.out.below⟩;have:=HS.out.own;unfold bnk at this;simpa using this
theorem JU{W:World}{g c:Nat}{o:Option Addr}{ys z:BL}(hb:Buf W g 8 ys)(hr:RowIs W o (bytesV z) c)(hz:8<z.length):∀p,o=some p->p.block≠g:=fun p e e2=>by
 obtain⟨b,off,rfl,_,hc⟩:=hr.cells (by simp;omega);cases e
 have h1:=hc 8 _ (aB z 8 hz);rcases hb.2 with ⟨h2,_⟩|⟨g',cap',cur,h2,_,h3,_,_,h4,_⟩
 ·cases h2
 ·cases h2
  have e3:b=g:=e2;subst e3;unfold World.cell? at h1;rw[h3]at h1;have:¬off+8<cur.size:=qO;simp[this]at h1
def qF(m:Nat->Nat->UInt8)(z:BL)(j k:Nat)(i b:Nat):UInt8:=if b=j/\i<k then co z i else m i b
theorem JV(m:Nat->Nat->UInt8)(z:BL)(j k i b:Nat):sB (qF m z j k) k j (co z k) i b=qF m z j (k+1) i b:=by
 unfold sB qF;by_cases h:i=k/\b=j
 ·obtain⟨rfl,rfl⟩:=h;rw[if_pos ⟨rfl,rfl⟩,if_pos ⟨rfl,qO⟩]
 ·rw[if_neg h];by_cases h2:b=j/\i<k
  ·rw[if_pos h2,if_pos ⟨h2.1,qO⟩]
  ·rw[if_neg h2,if_neg (fun h3=>by
    rcases Nat.lt_or_ge i k with h4|h4
    ·exact h2 ⟨h3.1,h4⟩
    ·exact h ⟨qO,h3.1⟩)]
def aAH(B gO R:Nat)(Gb:Nat->Nat)(m:Nat->Nat->UInt8)(z:BL)(j b1 off1:Nat)(w:World)(iv:Value)(wr:World):Prop:=
 ∃k:Nat,k<=z.length/\iv=.int .i64 k/\Mat8 wr B gO R Gb (qF m z j k)/\(∀i,i<z.length->wr.cell? ⟨b1,off1+i,none⟩=some (.int .u8 ((co z i).toNat:Int)))/\Below B w wr
theorem G9(B gO R:Nat)(Gb:Nat->Nat)(m:Nat->Nat->UInt8)(z:BL)(j cz:Nat)(oz:Option Addr)(w:World)(hM:Mat8 w B gO R Gb m)(hZ:RowIs w oz (bytesV z) cz)(hj:j<8)(hz:8<z.length)(hzR:z.length<=R)(hB:B<=w.heap.size):
  Calls Tryz.prog 103 #[.slice (some ⟨gO,0,none⟩) R R,.int .i64 (j:Int),.slice oz z.length cz] w fun e w'=>e=.returned (.tuple #[])/\Mat8 w' B gO R Gb (qF m z j z.length)/\Below B w w':=by
 have h1:=hZ.le;have h2:=hZ.cap;have h3:=hM.cap.2;simp only[bytesV_length]at h1;unfold maxLen at h2 h3;obtain⟨b1,off1,rfl,hb1,hcell⟩:=hZ.cells (by simp;omega);have hap:∀i,i<R->b1≠Gb i:=fun i hi e=>JU (hM.row i hi).1 hZ hz _ rfl e
 have HM0:Hid (Mat8 w B gO R Gb (qF m z j 0)):=Lh (hM.congr fun i b hi hb=>by unfold qF;rw[if_neg qO]);have HAP:=Lh hap;have HCE:Hid (∀k,k<z.length->w.cell? ⟨b1,off1+k,none⟩=some (.int .u8 ((co z k).toNat:Int))):=Lh fun k hk=>hcell k _ (aB z k hk)
 clear hM hZ hap hcell;go_enter Tryz.func103,Tryz.ntmps103
 go_wp2_with fail;go_loopw [6,7,10] (fun _ _ iv wr=>aAH B gO R Gb m z j b1 off1 w iv wr) (fun _ _ iv _=>z.length-(intOf iv).toNat)
 case atStart=>exact⟨0,Nat.zero_le _,rfl,HM0.out,HCE.out,Below.refl _ _⟩
 case round=>
  obtain⟨k,hk,rfl,hm,hce,hb⟩:=hrel;have HM:=Lh hm;have HC:=Lh hce;have HB':=Lh hb;by_cases hlt:k<z.length
  ·have hk0:(0:Int)<=(k:Int):=qO;have hk1:(k:Int)<(z.length:Int):=qO;have hk2:(k:Int)<(R:Int):=qO;have hkR:k<R:=qO;have hc1:=hce k hlt;have hc2:=hm.hdr k hkR;have hc3:=hm.cell k j hkR hj;have hf3:=hm.frozen k j hkR;have hst:=hm.store k j hkR hj (co z k);have hj0:(0:Int)<=(j:Int):=qO;have hj1:(j:Int)<8:=qO;have HST:=Lh hst.1;have HSO:=Lh hst.2;have HXC:Hid (∀i,i<z.length->(wr.setCell ⟨Gb k,j,none⟩ (.int .u8 ((co z k).toNat:Int))).cell? ⟨b1,off1+i,none⟩=some (.int .u8 ((co z i).toNat:Int))):=Lh fun i hi=>hst.2.cell (p:=⟨b1,off1+i,none⟩) (HAP.out k hkR) (hce i hi)
   have HL:Hid (∀a b,sB (qF m z j k) k j (co z k) a b=qF m z j (k+1) a b):=Lh (JV m z j k);have HBG:Hid (B<=Gb k):=Lh (hm.row k hkR).2;generalize co z k=x at*;generalize qF m z j k k j=y at*;have hxl:=UInt8.toNat_lt x;have hyl:=UInt8.toNat_lt y;clear hm hce hb hst hkR;go_wp2_with fail;go_roundw
   case rel=>exact⟨k+1,qO,by go_num,HST.out.congr fun i b _ _=>HL.out i b,HXC.out,HB'.out.trans (Only.below HSO.out HBG.out (Nat.le_trans hB HB'.out.size))⟩
   case measure=>simp[intOf];omega
  ·obtain rfl:k=z.length:=qO;clear hm hce hb;go_wp2_with fail;go_end0
   exact⟨rfl,HM.out,HB'.out⟩
theorem ja(p:Option Addr)(q:Nat)(w:World):Calls Tryz.prog 99 #[.slice p 8 q] w fun e w'=>e=.returned (.bool true)/\w'=w:=by
 go_enter Tryz.func99,Tryz.ntmps99
 go_wp2
 go_ret;exact⟨rfl,rfl⟩
theorem nk(p:Option Addr)(L q:Nat)(w:World)(h:L≠8)(hL:L<=9223372036854775807):Calls Tryz.prog 99 #[.slice p L q] w fun e w'=>e=.returned (.bool false)/\w'=w:=by
 have h1:((L:Int)==8)=false:=beq_false_of_ne qO;have h2:decide ((L:Int)=8)=false:=decide_eq_false qO;clear h;go_enter Tryz.func99,Tryz.ntmps99
 go_wp2
 go_ret;exact⟨rfl,rfl⟩
def cJ(bs:L8)(jj n k:Nat):BL:=tab (fun i=>if i<k then po (bi bs i) jj else 0) n
theorem m5(bs:L8)(jj n:Nat):cJ bs jj n 0=List.replicate n 0:=aN (by simp[cJ]) fun i hi=>by
 unfold cJ;rw[aT _ _ _ (by simpa[cJ]using hi),if_neg qO,cw]
theorem me(bs:L8)(jj:Nat):cJ bs jj bs.length bs.length=bu bs jj:=aN (by simp[cJ]) fun i hi=>by
 have hi:i<bs.length:=by simpa[cJ]using hi
 unfold cJ;rw[aT _ _ _ hi,if_pos hi,mJ _ _ _ hi]
theorem pG(bs:L8)(jj n k:Nat)(hk:k<n)(h:(bi bs k).length=8):(cJ bs jj n k).set k (co (bi bs k) jj)=cJ bs jj n (k+1):=aN (by simp[cJ]) fun i hi=>by
 have hi:i<n:=by simpa[cJ]using hi
 rw[cj];unfold cJ;rw[aT _ _ _ hi,aT _ _ _ hi];by_cases e:k=i
 ·subst e;rw[if_pos ⟨rfl,by simpa using hi⟩,if_pos qO];unfold po;rw[if_pos h]
 ·rw[if_neg (fun g=>e g.1)];by_cases h2:i<k
  ·rw[if_pos h2,if_pos qO]
  ·rw[if_neg h2,if_neg qO]
theorem rM(bs:L8)(jj n k:Nat)(h:¬(bi bs k).length=8):cJ bs jj n (k+1)=cJ bs jj n k:=aN (by simp[cJ]) fun i hi=>by
 have hi:i<n:=by simpa[cJ]using hi
 unfold cJ;rw[aT _ _ _ hi,aT _ _ _ hi];by_cases e:i=k
 ·subst e;rw[if_pos qO,if_neg qO];unfold po;rw[if_neg h]
 ·by_cases h2:i<k
  ·rw[if_pos h2,if_pos qO]
  ·rw[if_neg h2,if_neg qO]
def Ga(bs:L8)(jj n:Nat)(w:World)(iv:Value)(wr:World):Prop:=
 ∃k:Nat,k<=n/\iv=.int .i64 k/\Buf wr w.heap.size n (cJ bs jj n k)/\Below w.heap.size w wr
theorem EE(bs:L8)(o:Option Addr)(n c:Nat)(j:Int)(w:World)(hP:RbIs w o bs c)(hn:bs.length=n)(hl:n<=1000)(hj:0<=j)(hj2:j<=9223372036854775807):
  Calls Tryz.prog 102 #[.slice o n c,.int .i64 j] w (Own (bu bs (j % 8).toNat) w):=by
 obtain⟨i0,hi,hz0,hz1,hz2⟩:=info_parts ao;have h1:=hP.le.1;have h2:=hP.le.2;rw[hn]at h1;unfold maxLen at h2;have HP:=Lh hP;have HN:=Lh hn;obtain⟨jj,hjj⟩:∃jj:Nat,(j % 8).toNat=jj:=⟨_,rfl⟩;have hje:j % 8=(jj:Int):=qO;have hj8:jj<8:=qO;have hjI0:(0:Int)<=(jj:Int):=qO;have hjI:(jj:Int)<8:=qO;have hd:decide ((jj:Int)<0)=false:=decide_eq_false qO;rw[hjj];clear hP hn hjj;go_enter Tryz.func102,Tryz.ntmps102
 go_wp2_with (at_make;refine wpList_make_full _ rfl _ _ 22 rfl 0 5 i0 (.int .u8 0) 1 Tryz.underlying22 hi hz0 hz1 _ _ _ _ n rfl rfl qO qO (by rw[hz2];omega) (by unfold maxLen;omega) (Nat.zero_le _) ?_)
 intro w1 hown hgrow;have HB1:Hid (Below w.heap.size w w1):=Lh (qB.grown hgrow qN (fun k h=>by cases h));have HBF:Hid (Buf w1 w.heap.size n (cJ bs jj n 0)):=Lh (by rw[m5];exact bK hown);clear hown hgrow;go_wp2_with fail;go_loopw [6,7,19] (fun _ _ iv wr=>Ga bs jj n w iv wr) (fun _ _ iv _=>n-(intOf iv).toNat)
 case atStart=>exact⟨0,Nat.zero_le _,rfl,HBF.out,HB1.out⟩
 case round=>
  obtain⟨k,hk,rfl,hb,hbl⟩:=hrel;have HBU:=Lh hb;have HBL:=Lh hbl;by_cases hlt:k<n
  ·have hk0:(0:Int)<=(k:Int):=qO;have hk1:(k:Int)<(n:Int):=qO;obtain⟨b1,off1,p,q,rfl,_,hc1,hrow⟩:=(HP.out.later hbl).cell k (by have:=HN.out;omega);by_cases h8:(bi bs k).length=8
   ·have hst:=hb.store k (co (bi bs k) jj);have HST:Hid (Buf (wr.setCell ⟨w.heap.size,k,none⟩ (.int .u8 ((co (bi bs k) jj).toNat:Int))) w.heap.size n (cJ bs jj n (k+1))):=Lh (by rw[<-pG bs jj n k hlt h8];exact hst.1);have HSO:=Lh hst.2;rw[h8]at hc1;obtain⟨b2,off2,rfl,_,hc2⟩:=hrow.cells (by simp;omega);have hc3:wr.cell? ⟨b2,off2+jj,none⟩=some (.int .u8 ((co (bi bs k) jj).toNat:Int)):=hc2 jj _ (aB _ jj qO);have hc4:=hb.cell k (by simp[cJ];omega);have hf4:=hb.frozen k;have hq2:=hrow.cap;have hq1:=hrow.le;simp at hq1;rw[h8]at hq1;unfold maxLen at hq2;generalize co (bi bs k) jj=x at*;generalize co (cJ bs jj n k) k=y at*;have hxl:=UInt8.toNat_lt x;have hyl:=UInt8.toNat_lt y;clear hb hbl hst hrow hc2 h8;go_wp2_with fail;refine(ja _ _ _).mono ?_;rintro e w' ⟨rfl,rfl⟩;go_wp2_with fail;go_roundw
    case rel=>exact⟨k+1,qO,by go_num,HST.out,HBL.out.trans (Only.below HSO.out qN HBL.out.size)⟩
    case measure=>simp[intOf];omega
   ·have HST:Hid (Buf wr w.heap.size n (cJ bs jj n (k+1))):=Lh (by rw[rM bs jj n k h8];exact hb);obtain⟨L,hL⟩:=qM ((bi bs k).length);rw[hL]at hc1 h8;have hq1:=hrow.le;have hq2:=hrow.cap;simp at hq1;rw[hL]at hq1;unfold maxLen at hq2;have HW:=Lh (nk p L q wr h8 qO);clear hb hbl hrow hL h8;go_wp2_with fail;refine HW.out.mono ?_;rintro e w' ⟨rfl,rfl⟩;go_wp2_with fail;go_roundw
    case rel=>exact⟨k+1,qO,by go_num,HST.out,HBL.out⟩
    case measure=>simp[intOf];omega
  ·obtain rfl:k=n:=qO;clear hb hbl;go_wp2_with fail;go_ret;refine⟨w.heap.size,k,?_,Nat.le_refl _,?_,HBL.out⟩
   ·rw[dm,HN.out];rfl
   ·have:=HBU.out;rw[<-HN.out,me]at this;rw[<-HN.out];exact this
theorem EF(bs:L8)(o:Option Addr)(n c:Nat)(j:Int)(w:World)(hP:RbIs w o bs c)(hn:bs.length=n)(hl:n<=1000)(hj:j<0)(hj2: -9223372036854775808<=j):
  Calls Tryz.prog 102 #[.slice o n c,.int .i64 j] w (Own (bu bs (j % 8).toNat) w):=by
 obtain⟨i0,hi,hz0,hz1,hz2⟩:=info_parts ao;have h1:=hP.le.1;have h2:=hP.le.2;rw[hn]at h1;unfold maxLen at h2;have HP:=Lh hP;have HN:=Lh hn;obtain⟨jj,hjj⟩:∃jj:Nat,(j % 8).toNat=jj:=⟨_,rfl⟩;have hj8:jj<8:=qO;have hjI0:(0:Int)<=(jj:Int):=qO;have hjI:(jj:Int)<8:=qO;have htm:j.tmod 8= -((-j) % 8):=by
  have h:=Int.neg_tmod (-j) 8;rw[Int.neg_neg]at h;rw[h,Int.tmod_eq_emod_of_nonneg qO]
 rw[hjj];by_cases h0:j % 8=0
 ·have hr:j.tmod 8=(jj:Int):=qO;have hd:decide ((jj:Int)<0)=false:=decide_eq_false qO;clear hP hn hjj htm h0;go_enter Tryz.func102,Tryz.ntmps102
  go_wp2_with (at_make;refine wpList_make_full _ rfl _ _ 22 rfl 0 5 i0 (.int .u8 0) 1 Tryz.underlying22 hi hz0 hz1 _ _ _ _ n rfl rfl qO qO (by rw[hz2];omega) (by unfold maxLen;omega) (Nat.zero_le _) ?_)
  intro w1 hown hgrow;have HB1:Hid (Below w.heap.size w w1):=Lh (qB.grown hgrow qN (fun k h=>by cases h));have HBF:Hid (Buf w1 w.heap.size n (cJ bs jj n 0)):=Lh (by rw[m5];exact bK hown);clear hown hgrow;go_wp2_with fail;go_loopw [6,7,19] (fun _ _ iv wr=>Ga bs jj n w iv wr) (fun _ _ iv _=>n-(intOf iv).toNat)
  case atStart=>exact⟨0,Nat.zero_le _,rfl,HBF.out,HB1.out⟩
  case round=>
   obtain⟨k,hk,rfl,hb,hbl⟩:=hrel;have HBU:=Lh hb;have HBL:=Lh hbl;by_cases hlt:k<n
   ·have hk0:(0:Int)<=(k:Int):=qO;have hk1:(k:Int)<(n:Int):=qO;obtain⟨b1,off1,p,q,rfl,_,hc1,hrow⟩:=(HP.out.later hbl).cell k (by have:=HN.out;omega);by_cases h8:(bi bs k).length=8
    ·have hst:=hb.store k (co (bi bs k) jj);have HST:Hid (Buf (wr.setCell ⟨w.heap.size,k,none⟩ (.int .u8 ((co (bi bs k) jj).toNat:Int))) w.heap.size n (cJ bs jj n (k+1))):=Lh (by rw[<-pG bs jj n k hlt h8];exact hst.1);have HSO:=Lh hst.2;rw[h8]at hc1;obtain⟨b2,off2,rfl,_,hc2⟩:=hrow.cells (by simp;omega);have hc3:wr.cell? ⟨b2,off2+jj,none⟩=some (.int .u8 ((co (bi bs k) jj).toNat:Int)):=hc2 jj _ (aB _ jj qO);have hc4:=hb.cell k (by simp[cJ];omega);have hf4:=hb.frozen k;have hq2:=hrow.cap;have hq1:=hrow.le;simp at hq1;rw[h8]at hq1;unfold maxLen at hq2;generalize co (bi bs k) jj=x at*;generalize co (cJ bs jj n k) k=y at*;have hxl:=UInt8.toNat_lt x;have hyl:=UInt8.toNat_lt y;clear hb hbl hst hrow hc2 h8;go_wp2_with fail;refine(ja _ _ _).mono ?_;rintro e w' ⟨rfl,rfl⟩;go_wp2_with fail;go_roundw
     case rel=>exact⟨k+1,qO,by go_num,HST.out,HBL.out.trans (Only.below HSO.out qN HBL.out.size)⟩
     case measure=>simp[intOf];omega
    ·have HST:Hid (Buf wr w.heap.size n (cJ bs jj n (k+1))):=Lh (by rw[rM bs jj n k h8];exact hb);obtain⟨L,hL⟩:=qM ((bi bs k).length);rw[hL]at hc1 h8;have hq1:=hrow.le;have hq2:=hrow.cap;simp at hq1;rw[hL]at hq1;unfold maxLen at hq2;have HW:=Lh (nk p L q wr h8 qO);clear hb hbl hrow hL h8;go_wp2_with fail;refine HW.out.mono ?_;rintro e w' ⟨rfl,rfl⟩;go_wp2_with fail;go_roundw
     case rel=>exact⟨k+1,qO,by go_num,HST.out,HBL.out⟩
     case measure=>simp[intOf];omega
   ·obtain rfl:k=n:=qO;clear hb hbl;go_wp2_with fail;go_ret;refine⟨w.heap.size,k,?_,Nat.le_refl _,?_,HBL.out⟩
    ·rw[dm,HN.out];rfl
    ·have:=HBU.out;rw[<-HN.out,me]at this;rw[<-HN.out];exact this
 ·obtain⟨r,hr⟩:=qM (j.tmod 8);have hr0:r<0:=qO;have hr1: -8<=r:=qO;have hs:r+8=(jj:Int):=qO;have hd:decide (r<0)=true:=decide_eq_true hr0;clear hP hn hjj htm h0;go_enter Tryz.func102,Tryz.ntmps102
  go_wp2_with (at_make;refine wpList_make_full _ rfl _ _ 22 rfl 0 5 i0 (.int .u8 0) 1 Tryz.underlying22 hi hz0 hz1 _ _ _ _ n rfl rfl qO qO (by rw[hz2];omega) (by unfold maxLen;omega) (Nat.zero_le _) ?_)
  intro w1 hown hgrow;have HB1:Hid (Below w.heap.size w w1):=Lh (qB.grown hgrow qN (fun k h=>by cases h));have HBF:Hid (Buf w1 w.heap.size n (cJ bs jj n 0)):=Lh (by rw[m5];exact bK hown);clear hown hgrow;go_wp2_with fail;go_loopw [6,7,19] (fun _ _ iv wr=>Ga bs jj n w iv wr) (fun _ _ iv _=>n-(intOf iv).toNat)
  case atStart=>exact⟨0,Nat.zero_le _,rfl,HBF.out,HB1.out⟩
  case round=>
   obtain⟨k,hk,rfl,hb,hbl⟩:=hrel;have HBU:=Lh hb;have HBL:=Lh hbl;by_cases hlt:k<n
   ·have hk0:(0:Int)<=(k:Int):=qO;have hk1:(k:Int)<(n:Int):=qO;obtain⟨b1,off1,p,q,rfl,_,hc1,hrow⟩:=(HP.out.later hbl).cell k (by have:=HN.out;omega);by_cases h8:(bi bs k).length=8
    ·have hst:=hb.store k (co (bi bs k) jj);have HST:Hid (Buf (wr.setCell ⟨w.heap.size,k,none⟩ (.int .u8 ((co (bi bs k) jj).toNat:Int))) w.heap.size n (cJ bs jj n (k+1))):=Lh (by rw[<-pG bs jj n k hlt h8];exact hst.1);have HSO:=Lh hst.2;rw[h8]at hc1;obtain⟨b2,off2,rfl,_,hc2⟩:=hrow.cells (by simp;omega);have hc3:wr.cell? ⟨b2,off2+jj,none⟩=some (.int .u8 ((co (bi bs k) jj).toNat:Int)):=hc2 jj _ (aB _ jj qO);have hc4:=hb.cell k (by simp[cJ];omega);have hf4:=hb.frozen k;have hq2:=hrow.cap;have hq1:=hrow.le;simp at hq1;rw[h8]at hq1;unfold maxLen at hq2;generalize co (bi bs k) jj=x at*;generalize co (cJ bs jj n k) k=y at*;have hxl:=UInt8.toNat_lt x;have hyl:=UInt8.toNat_lt y;clear hb hbl hst hrow hc2 h8;go_wp2_with fail;refine(ja _ _ _).mono ?_;rintro e w' ⟨rfl,rfl⟩;go_wp2_with fail;go_roundw
     case rel=>exact⟨k+1,qO,by go_num,HST.out,HBL.out.trans (Only.below HSO.out qN HBL.out.size)⟩
     case measure=>simp[intOf];omega
    ·have HST:Hid (Buf wr w.heap.size n (cJ bs jj n (k+1))):=Lh (by rw[rM bs jj n k h8];exact hb);obtain⟨L,hL⟩:=qM ((bi bs k).length);rw[hL]at hc1 h8;have hq1:=hrow.le;have hq2:=hrow.cap;simp at hq1;rw[hL]at hq1;unfold maxLen at hq2;have HW:=Lh (nk p L q wr h8 qO);clear hb hbl hrow hL h8;go_wp2_with fail;refine HW.out.mono ?_;rintro e w' ⟨rfl,rfl⟩;go_wp2_with fail;go_roundw
     case rel=>exact⟨k+1,qO,by go_num,HST.out,HBL.out⟩
     case measure=>simp[intOf];omega
   ·obtain rfl:k=n:=qO;clear hb hbl;go_wp2_with fail;go_ret;refine⟨w.heap.size,k,?_,Nat.le_refl _,?_,HBL.out⟩
    ·rw[dm,HN.out];rfl
    ·have:=HBU.out;rw[<-HN.out,me]at this;rw[<-HN.out];exact this
theorem vf(bs:L8)(o:Option Addr)(n c:Nat)(j:Int)(w:World)(hP:RbIs w o bs c)(hn:bs.length=n)(hl:n<=1000)(hj: -9223372036854775808<=j/\j<=9223372036854775807):
  Calls Tryz.prog 102 #[.slice o n c,.int .i64 j] w (Own (bu bs (j % 8).toNat) w):=by
 by_cases h:0<=j
 ·exact EE bs o n c j w hP hn hl h hj.2
 ·exact EF bs o n c j w hP hn hl qO hj.1
def pM(D:L8)(k:Nat)(i j:Nat):UInt8:=if j<k then co (jk (bu D j)) i else 0
theorem RL(D:L8)(k i b:Nat)(hi:i<32):qF (pM D k) (jk (bu D k)) k 32 i b=pM D (k+1) i b:=by
 unfold qF pM;by_cases h:b=k
 ·subst h;rw[if_pos ⟨rfl,hi⟩,if_pos qO]
 ·rw[if_neg (fun g=>h g.1)];by_cases h2:b<k
  ·rw[if_pos h2,if_pos qO]
  ·rw[if_neg h2,if_neg qO]
def aAI(D:L8)(gO:Nat)(Gb:Nat->Nat)(w:World)(iv:Value)(wr:World):Prop:=
 ∃k:Nat,k<=8/\iv=.int .i64 k/\Mat8 wr w.heap.size gO 32 Gb (pM D k)/\Below w.heap.size w wr
theorem Mat8.later{W W':World}{B gO R:Nat}{Gb:Nat->Nat}{m:Nat->Nat->UInt8}(h:Mat8 W B gO R Gb m)(hb:Below W.heap.size W W'):Mat8 W' B gO R Gb m:=Mat.later h hb
theorem Mat8.congr{W:World}{B gO R:Nat}{Gb:Nat->Nat}{m m':Nat->Nat->UInt8}(h:Mat8 W B gO R Gb m)(he:∀i j,i<R->j<8->m i j=m' i j):Mat8 W B gO R Gb m':=Mat.congr h he
theorem EG(D:L8)(o:Option Addr)(n c:Nat)(w:World)(hP:RbIs w o D c)(hn:D.length=n)(hl1:1<=n)(hl2:n<=223):
  Calls Tryz.prog 125 #[.slice o n c] w fun e w'=>∃gO Gb,e=.returned (.tuple #[.slice (some ⟨gO,0,none⟩) 32 32,.nilIface])/\Mat8 w' w.heap.size gO 32 Gb (pM D 8)/\Below w.heap.size w w':=by
 have h1:=hP.le.1;have h2:=hP.le.2;rw[hn]at h1;unfold maxLen at h2;have HP:=Lh hP;have HN:=Lh hn;have HBK:Hid (Calls Tryz.prog 100 #[.int .i64 32] w fun e w'=>∃gO Gb,e=.returned (.slice (some ⟨gO,0,none⟩) 32 32)/\Mat8 w' w.heap.size gO 32 Gb (fun _ _=>0)/\Below w.heap.size w w'):=Lh (yD 32 w qO);clear hP hn;go_enter Tryz.func125,Tryz.ntmps125
 go_wp2_with fail;refine HBK.out.mono ?_;rintro e w1 ⟨gO,Gb,rfl,hm,hb⟩;have HM0:Hid (Mat8 w1 w.heap.size gO 32 Gb (pM D 0)):=Lh (hm.congr fun i j _ _=>by unfold pM;rw[if_neg qO]);have HB0:=Lh hb;clear hm hb HBK;go_wp2_with fail;go_loopw [5,6,7,9] (fun _ _ _ iv wr=>aAI D gO Gb w iv wr) (fun _ _ _ iv _=>8-(intOf iv).toNat)
 case atStart=>exact⟨0,Nat.zero_le _,rfl,HM0.out,HB0.out⟩
 case round=>
  obtain⟨k,hk,rfl,hm,hb⟩:=hrel;have HM:=Lh hm;have HB:=Lh hb;by_cases hlt:k<8
  ·have hk0:(0:Int)<=(k:Int):=qO;have hk1:(k:Int)<8:=qO;have hcl:=vf D o n c (k:Int) wr (HP.out.later hb) HN.out qO qO;rw[show((k:Int) % 8).toNat=k by omega]at hcl;have HCL:=Lh hcl;clear hm hb hcl;go_wp2_with fail;refine HCL.out.mono ?_;rintro e w2 ⟨g,cap,rfl,hg,hbuf,hb2⟩;have hpa:=vc (bu D k) (some ⟨g,0,none⟩) cap w2 hbuf.row (by rw[dm,HN.out];exact hl1) (by rw[dm,HN.out];exact hl2);rw[dm,HN.out]at hpa⊢;have HPA:=Lh hpa;have HB2:=Lh (Ks HB.out hb2);have HM2:=Lh (HM.out.later hb2);clear hg hbuf hb2 hpa HCL;go_wp2_with fail;refine HPA.out.mono ?_;rintro e w3 ⟨r,x,hr,hc,rfl,⟨o3,c3,rfl,hrow⟩,hb3⟩;obtain rfl:=xa hc hr (by rw[dm,HN.out];exact hl2);have HB3:=Lh (Ks HB2.out hb3);have hly:=G9 w.heap.size gO 32 Gb (pM D k) (jk (bu D k)) k c3 o3 w3 (HM2.out.later hb3) hrow hlt (by rw[hr];omega) (by rw[hr];omega) HB3.out.size;rw[hr]at hly⊢;have HLY:=Lh hly;have HST:=Lh (RL D k);clear hr hc hrow hb3 hly HPA;go_wp2_with fail;refine HLY.out.mono ?_;rintro e w4 ⟨rfl,hm4,hb4⟩;have HM4:Hid (Mat8 w4 w.heap.size gO 32 Gb (pM D (k+1))):=Lh (hm4.congr fun i b hi _=>HST.out i b hi);have HB4:=Lh (HB3.out.trans hb4);clear hm4 hb4 HLY;go_wp2_with fail;go_roundw
   case rel=>exact⟨k+1,qO,by go_num,HM4.out,HB4.out⟩
   case measure=>simp[intOf];omega
  ·obtain rfl:k=8:=qO;clear hm hb;go_wp2_with fail;go_ret2
   exact⟨gO,Gb,rfl,HM.out,HB.out⟩
theorem YB(D:L8)(i:Nat)(h:i<32):bi (nD D) i=tab (pM D 8 i) 8:=by
 rw[GF _ _ h];refine aN qS fun j hj=>?_
 have hj:j<8:=by simpa using hj
 rw[aT _ _ _ hj,aT _ _ _ hj];unfold pM;rw[if_pos hj]
def EH(F:Nat->L8):Nat->L8
 |0=>[]
 |k+1=>EH F k++F k
def jO(F:Nat->L8):Nat->Nat
 |0=>0
 |k+1=>jO F k+(F k).length
theorem B3(F:Nat->L8)(k:Nat):(EH F k).length=jO F k:=by
 induction k with
 |zero=>rfl
 |succ k ih=>simp[EH,jO,ih]
theorem JW(F:Nat->L8)(k d:Nat):jO F k<=jO F (k+d):=by
 induction d with
 |zero=>exact Nat.le_refl _
 |succ d ih=>exact Nat.le_trans ih (Nat.le_add_right _ _)
theorem JX(n:Nat)(w:World)(h0:0<n)(hl:n<=10000):
  Calls Tryz.prog 167 #[.slice none 0 0,.int .i64 n] w fun e w'=>∃g cap,e=.returned (.slice (some ⟨g,0,none⟩) 0 cap)/\w'.ownsRow w.heap.size 22 1 (.slice (some ⟨g,0,none⟩) 0 cap) 0 []/\Below w.heap.size w w':=by
 obtain⟨i1,hi1,hy0,hy1,hy2⟩:=info_parts fX;have hd1:decide ((n:Int)<0)=false:=decide_eq_false qO;have hd2:decide ((0:Int)<(n:Int))=true:=decide_eq_true qO;have hrun:=Lib.run_append_nil_zeros (P:= Tryz.prog) w 27 3 27 22 i1 (.slice none 0 0) .i64 .i64 Tryz.underlying27 Tryz.underlying3 hi1 hy0 n h0 qO qO (by rw[hy2];omega);obtain⟨cap,hcap⟩:=qM (grownCap w n 0 22);have hge:=grownCap_ge w n 0 22;have hcm:=grownCap_le_maxLen w n 0 22 (by unfold maxLen;omega);rw[hcap]at hrun hge hcm;obtain⟨w2,hw2⟩:=qM (w.drew.alloc (.cells (Builtin.zeroCells (Value.slice none 0 0).cells n++Builtin.zeroCells (Value.slice none 0 0).cells (cap-n)) 22));rw[hw2]at hrun;have HV:Hid (w2.ownsRow w.heap.size 22 1 (.slice (some ⟨w.heap.size,0,none⟩) 0 cap) 0 []):=Lh (by
  rw[<-hw2];exact World.ownsRow_made w.drew _ cap qN hcm (by simp[Builtin.zeroCells,Value.cells];omega))
 have HB:Hid (Below w.heap.size w w2):=Lh (by
  rw[<-hw2];exact(show Below w.heap.size w w.drew from ⟨rfl,rfl,rfl,Nat.le_refl _,fun _ _=>rfl⟩).alloc qN _)
 have HR:=Lh hrun;unfold maxLen at hcm;clear hrun hcap hw2;go_enter Tryz.func167,Tryz.ntmps167
 go_wp2_with (at_builtin;refine Lib.wpList_append_run _ rfl (.tmp 20) (.tmp 21) _ _ rfl _ _ rfl rfl _ _ HR.out ?_)
 go_wp2
 go_ret;exact⟨w.heap.size,cap,rfl,HV.out,HB.out⟩
structure PartsB(w:World)(A n:Nat)(F:Nat->L8):Prop where
 lt:A<w.heap.size
 at_:∀i,i<n->∃p q,w.cell? ⟨A,i,none⟩=some (.slice p (F i).length q)/\RbIs w p (F i) q
theorem PartsB.later{W W':World}{A n:Nat}{F:Nat->L8}(h:PartsB W A n F)(hb:Below W.heap.size W W'):PartsB W' A n F:=
 ⟨Nat.lt_of_lt_of_le h.lt hb.size,fun i hi=>by
  obtain⟨p,q,h1,h2⟩:=h.at_ i hi;exact⟨p,q,by rw[hb.cell (p:=⟨A,i,none⟩) h.lt];exact h1,h2.later hb⟩⟩
def aAJ(F:Nat->L8)(n:Nat)(w:World)(s iv:Value)(wr:World):Prop:=
 ∃k:Nat,k<=n/\iv=.int .i64 k/\s=.int .i64 (jO F k:Nat)/\wr=w
def aAK(F:Nat->L8)(n:Nat)(w:World)(v iv:Value)(wr:World):Prop:=
 ∃(k:Nat)(xs:List Value),k<=n/\iv=.int .i64 k/\wr.ownsRow w.heap.size 22 1 v (jO F k) xs/\ElsB w.heap.size wr (EH F k) xs/\Below w.heap.size w wr
theorem B4(F:Nat->L8)(n A:Nat)(w:World)(hP:PartsB w A n F)(hn:n<=1000)(h0:0<jO F n)(hl:jO F n<=10000):
  Calls Tryz.prog 126 #[.slice (some ⟨A,0,none⟩) n n] w fun e w'=>∃x,e=.returned x/\RbV (EH F n) x w'/\Below w.heap.size w w':=by
 have HP:=Lh hP;have hlm:=fun k(h:k<=n)=>JW F k (n-k)
 have HLM:Hid (∀k,k<=n->jO F k<=10000):=Lh fun k h=>by
  have:=hlm k h;rw[show k+(n-k)=n by omega]at this;omega
 clear hP hlm;go_enter Tryz.func126,Tryz.ntmps126
 go_wp2_with fail;go_loopw [3,5,11] (fun s _ i wr=>aAJ F n w s i wr) (fun _ _ i _=>n-(intOf i).toNat)
 case atStart=>exact⟨0,Nat.zero_le _,rfl,rfl,rfl⟩
 case round=>
  obtain⟨k,hk,rfl,rfl,rfl⟩:=hrel;by_cases hlt:k<n
  ·obtain⟨p,q,hc,hr⟩:=HP.out.at_ k hlt;have hk0:(0:Int)<=(k:Int):=qO;have hk1:(k:Int)<(n:Int):=qO;have h1:=HLM.out (k+1) hlt;have h2:jO F (k+1)=jO F k+(F k).length:=rfl;have hr1:=hr.le;unfold maxLen at hr1;have hr2:=hr1.1;have hr3:=hr1.2;have H2:=Lh h2;have hs1:jO F k<=10000:=qO;have hs2:(F k).length<=10000:=qO;generalize jO F k=s at*;generalize (F k).length=m at*;have hd:decide ((s:Int)+(m:Int)<0)=false:=decide_eq_false qO;clear hr h2 h1 hr1;go_wp2_with fail;go_roundw
   case rel=>exact⟨k+1,qO,by go_num,by rw[H2.out];go_num,rfl⟩
   case measure=>simp[intOf];omega
  ·obtain rfl:k=n:=qO;have HG:=Lh (JX (jO F k) wr h0 hl);have HLL:Hid (∃L,jO F k=L):=Lh ⟨_,rfl⟩;obtain⟨L,hL⟩:=HLL.out;have HL:=Lh hL;rw[hL]at HG h0 hl⊢;clear hL HLL;go_wp2_with fail;refine HG.out.mono ?_;rintro e w2 ⟨g,cap,rfl,hown,hb⟩;have HV:=Lh hown;have HB:=Lh hb;clear hown hb HG;go_wp2_with fail;go_loopw [6,8,27] (fun v _ i wr2=>aAK F k wr v i wr2) (fun _ _ i _=>k-(intOf i).toNat)
   case atStart=>exact⟨0,[],Nat.zero_le _,rfl,HV.out,ElsB.nil _ _,HB.out⟩
   case round=>
    rename World=>W3
    obtain⟨i,xs,hi,rfl,hv,he,hb3⟩:=hrel;have HV3:=Lh hv;have HE3:=Lh he;have HB3:=Lh hb3;by_cases hlt2:i<k
    ·obtain⟨p,q,hc0,ys,hr0,hel0⟩:=HP.out.at_ i hlt2;have hc:W3.cell? ⟨A,i,none⟩=_:=(hb3.cell (p:=⟨A,i,none⟩) HP.out.lt).trans hc0;have HR:=Lh (hr0.later hb3);have HEL:=Lh (hel0.old.later hb3);have hi0:(0:Int)<=(i:Int):=qO;have hi1:(i:Int)<(k:Int):=qO;have h1:=HLM.out (i+1) hlt2;have h2:jO F (i+1)=jO F i+(F i).length:=rfl;obtain⟨m,hm⟩:=qM ((F i).length);have HYL:Hid (m=ys.length):=Lh (by rw[<-hm];exact hel0.len.symm);have H12:Hid (jO F i+m<=10000):=Lh qO;have H2:Hid (jO F i+m=jO F (i+1)):=Lh qO;rw[hm]at hc;clear hc0 hr0 hel0 hv he hb3 h1 h2 hm;go_wp2_with (at_builtin;refine jX rfl (.tmp 31) (.tmp 32) rfl wr.heap.size _ (jO F i) xs rfl HV3.out p m q ys rfl HYL.out HR.out HEL.out.els.ones (by have:=H12.out;omega) HB3.out.size ?_)
     intro v' w4 hv hg;have HV4:Hid (w4.ownsRow wr.heap.size 22 1 v' (jO F (i+1)) (xs++ys)):=Lh (by rw[<-H2.out];exact hv);have HE4:=Lh ((HE3.out.app HEL.out).grown HV3.out hg);have HB4:=Lh (fM HB3.out HV3.out hg);clear hv hg;go_wp2_with fail;go_roundw
     case rel=>exact⟨i+1,xs++ys,qO,by go_num,HV4.out,HE4.out,HB4.out⟩
     case measure=>simp[intOf];omega
    ·obtain rfl:i=k:=qO;have HRB:=Lh (tX HV3.out (by rw[B3]) HE3.out.els);clear hv he hb3;go_wp2_with fail;go_ret;exact⟨_,rfl,HRB.out,HB3.out⟩
section
open Go.Shelf
section
attribute [local go_sem] Oper.semAt_some
theorem JY(o:Option Addr)(n c:Nat)(w:World):
  Calls Tryz.prog 165 #[.slice o n c,.int .i64 8] w fun e w'=>e=.returned (.func (.func 187) #[] #[.pointer (some ⟨w.heap.size,0,none⟩),.pointer (some ⟨w.heap.size+1,0,none⟩)])/\w'=(w.alloc (.cells #[.slice o n c] 22)).alloc (.cells #[.int .i64 8] 3):=by
 have hmf:= @makes Tryz.prog;go_enter Tryz.func165,Tryz.ntmps165
 go_wp2
 go_ret;exact⟨rfl,rfl⟩
theorem EI(l:Nat)(I:Nat->World->Prop)(B Bx:World->Prop)(g m M cap Qs Qn:Nat)(w:World)(hM:M=8*m)(hm:m<=1000)(hcap:M<=cap)(hcap2:cap<=maxLen)
  (hI:∀i X,I i X->X.cell? ⟨Qs,0,none⟩=some (.slice (some ⟨g,0,none⟩) M cap)/\X.cell? ⟨Qn,0,none⟩=some (.int .i64 8))
  (hdn:∀i X n,I i X->I i (X.drewN n)) (hBk:∀X n,B X->B (X.drewN n))
  (hturn:∀i a X,a=8*i->I i X->B X->i<m->
   YieldAt Fence.wide 0 Tryz.prog l #[.slice (some ⟨g,a,none⟩) 8 8] X fun e X'=>(e=.returned (.bool true)/\I (i+1) X'/\B X')∨(e=.returned (.bool false)/\Bx X'))
  (h0:I 0 w) (hB:B w):
  Calls Tryz.prog 187 #[.func (.yield l) #[] #[],.pointer (some ⟨Qs,0,none⟩),.pointer (some ⟨Qn,0,none⟩)] w fun e X=>(∃v,e=.returned v)/\((I m X/\B X)∨Bx X):=by
 have HI:=Lh hI;have HDN:=Lh hdn;have HBK:=Lh hBk;have HTN:=Lh hturn;have HM:=Lh hM;unfold maxLen at hcap2;refine(callsIn_wide (n:=0)).1 (callsIn_of_wp Tryz.func187 rfl trivial ?_ rfl);simp only[Tryz.ntmps187,List.size_toArray,List.length_cons,List.length_nil,Nat.reduceAdd,Nat.reduceSub,Array.replicate_succ,Array.replicate_zero,List.push_toArray,List.append_toArray,List.nil_append,List.cons_append];clear hI hdn hBk hturn hM;gi_wp2
 gi_loopw [4,5] (fun p _ wr=>∃k a:Nat,k<=m/\a=8*k/\p=.int .i64 (a:Int)/\I k wr/\B wr) (fun p _ _=>M-(intOf p).toNat)
 case atStart=>exact⟨0,0,Nat.zero_le _,rfl,rfl,h0,hB⟩
 case round=>
  obtain⟨k,a,hk,ha,rfl,hi,hb⟩:=hrel;have hq1:=(HI.out _ _ hi).1;have hq2:=(HI.out _ _ hi).2;have H1:=Lh hi;have H2:=Lh hb;have HA:=Lh ha;by_cases hlt:k<m
  ·have haM:a+8<=M:=by have:=HM.out;omega
   have hd1:decide ((a:Int)<(M:Int))=true:=decide_eq_true qO;have ha0:(0:Int)<=(a:Int):=qO;have ha1:(a:Int)<=(M:Int):=qO;clear hi hb ha h0 hB;have hne:¬cap=a:=qO;gi_wp2
   gi_quiet (fail)
   rename_i nq;obtain⟨fn,tmps,assign,body,hy,hR⟩:=HTN.out k a (wr.drewN nq) HA.out (HDN.out _ _ _ H1.out) (HBK.out _ _ H2.out) hlt;have HR:=Lh hR;clear hR;gi_wp2
   refine⟨rfl,HR.out.mono ?_⟩;rintro e W3 (⟨rfl,hi3,hb3⟩|⟨rfl,hx3⟩)
   ·have hq3:=(HI.out _ _ hi3).2;have HI3:=Lh hi3;have HB3:=Lh hb3;clear hi3 hb3 hq1 hq2 hy;gi_wp2
    go_roundw
    case rel=>exact⟨k+1,a+8,qO,by have:=HA.out;omega,by go_num,HI3.out,HB3.out⟩
    case measure=>simp[intOf];omega
   ·have HX:=Lh hx3;clear hx3 hq1 hq2 hy;gi_wp2
    refine bodyPost_ret (results_none rfl _ _ _) rfl ?_;exact⟨⟨_,rfl⟩,.inr HX.out⟩
  ·obtain rfl:k=m:=qO;have haM:a=M:=by have:=HM.out;omega
   subst haM;clear hi hb ha h0 hB;gi_wp2
   go_end0
   exact⟨⟨_,rfl⟩,.inl ⟨H1.out,H2.out⟩⟩
theorem B5(p:BL)(s:Nat)(h:8*s+8<=p.length):((bytesV p).drop (8*s)).take 8=bytesV (blk p s):=by
 refine List.ext_getElem? fun i=>?_
 by_cases hi:i<8
 ·rw[List.getElem?_take_of_lt hi,List.getElem?_drop,aB p (8*s+i) qO,aB _ i (by simpa using hi)];have:=uh p s i hi;unfold co at this;rw[this]
 ·rw[List.getElem?_eq_none (by simp;omega),List.getElem?_eq_none (by simp;omega)]
theorem nl{P:Program}{ops:Array Oper}{Q:Exit->Act->World->Prop}{K:Act->World->Prop}{a:Act}{w:World}{o:Oper}(hg:o.guard=none)(s x:Operand)(t tn:TypeId)
  (hop:o.op=.call {callee:=.builtin .append,args:=#[s,x],argTypes:=#[t,tn]}) (vs vx:Value) (hs:a.eval s=vs) (hx:a.eval x=vx) (v':Value) (w':World)
  (hr:(Builtin.append_ #[t,tn] o.type #[vs,vx]).run P w=.ok v' w') (h:K (a.put o.dst v') w'):
  if Region.wanted o (yielded ops a.tmps)=true then Oper.wpIn Fence.wide 0 P o a w K Q else(∀f,o.about P w a.eval=some f->Fence.wide.fn f)/\K (a.put o.dst undef) w:=by
 have hw:Region.wanted o (yielded ops a.tmps)=true:=by simp[Region.wanted,hg]
 rw[if_pos hw];refine⟨fun _ _=>trivial,?_⟩;rw[Fence.wide_round,Oper.semAt_none];unfold execOp;simp only[hop,resolve,invoke,builtin,Sem.run_bind,Sem.run_pure,Result.andThen_ok,List.map_toArray,List.map_cons,List.map_nil,hs,hx,hr];exact h
structure Rst(b:Nat)(w X:World):Prop where
 os:X.os=w.os
 tape:X.tape=w.tape
 output:X.output=w.output
 size:w.heap.size<=X.heap.size
 same:∀k,k<w.heap.size->k≠b->X.heap[k]? =w.heap[k]?
theorem Rst.refl(b:Nat)(w:World):Rst b w w:=⟨rfl,rfl,rfl,Nat.le_refl _,fun _ _ _=>rfl⟩
theorem Rst.nc{b:Nat}{w X X':World}(h:Rst b w X)(k:Rf.NC w.heap.size X X'):Rst b w X':=
 ⟨k.os.trans h.os,k.tape.trans h.tape,k.output.trans h.output,Nat.le_trans h.size k.size,fun i hi hne=>by
  have h1:=h.same i hi hne;rw[<-h1];have hlt:i<X.heap.size:=Nat.lt_of_lt_of_le hi h.size;rw[Array.getElem?_eq_getElem hlt];exact k.same i _ (Array.getElem?_eq_getElem hlt) (.inr hi)⟩
theorem Rst.grown{b:Nat}{w X X':World}{r:Option Nat}(h:Rst b w X)(hg:X.grownBy X' r)(hr:∀k,r=some k->k=b∨w.heap.size<=k):Rst b w X':=
 ⟨hg.os.trans h.os,hg.tape.trans h.tape,hg.output.trans h.output,Nat.le_trans h.size hg.size,fun i hi hne=>by
  rw[<-h.same i hi hne];exact hg.block i (Nat.lt_of_lt_of_le hi h.size) fun e=>by
   rcases hr i e.symm with h1|h1
   ·exact hne h1
   ·omega⟩
theorem Rst.later{b:Nat}{w X X':World}(h:Rst b w X)(hb:Below X.heap.size X X'):Rst b w X':=h.grown (r:=none) ⟨hb.os,hb.tape,hb.output,hb.size,fun k hk _=>hb.block k hk⟩ (fun k e=>by cases e)
theorem Rst.boxed{b k:Nat}{t:TypeId}{v:Value}{w X:World}(h:Rst b w X)(hx:Boxed w k t v)(hne:k≠b):Boxed X k t v:=by
 unfold Boxed at*;rw[h.same k (aE.1 hx).1 hne];exact hx
theorem Rst.row{b:Nat}{w X:World}(h:Rst b w X){o:Option Addr}{vs:List Value}{c:Nat}(hr:RowIs w o vs c)(hne:0<vs.length->∀p,o=some p->p.block≠b):RowIs X o vs c:=
 ⟨hr.le,hr.cap,hr.nil,fun h0=>by
  obtain⟨p,off,e,hlt,hc⟩:=hr.cells h0;refine⟨p,off,e,Nat.lt_of_lt_of_le hlt h.size,fun i v hv=>?_⟩;have:=hc i v hv;unfold World.cell? at*;rw[h.same p hlt (hne h0 _ e)];exact this⟩
theorem Rst.below{b n:Nat}{w0 w X:World}(h:Rst b w X)(hb:Below n w0 w)(hn:n<=b)(hn2:n<=w.heap.size):Below n w0 X:=
 hb.trans ⟨h.os,h.tape,h.output,h.size,fun k hk=>h.same k qO qO⟩
structure SpI(b0:Nat)(w:World)(p:BL)(s:Nat)(v:Value)(xs:List Value)(X:World):Prop where
 box:Boxed X b0 27 v
 own:X.ownsRow w.heap.size 22 1 v s xs
 els:ElsB 0 X (dat p 0 s) xs
 rst:Rst b0 w X
theorem ElsB.nc{B base:Nat}{X X':World}{bs:L8}{xs:List Value}(h:ElsB base X bs xs)(k:Rf.NC B X X'):ElsB base X' bs xs:=
 ⟨⟨h.els.len,fun i x hx=>by
  obtain⟨o,c,e,hr⟩:=h.els.at_ i x hx;exact⟨o,c,e,hr.nc k⟩⟩,fun x hx ad l c e h0=>by
  rcases h.kind x hx ad l c e h0 with h1|⟨cur,h1⟩
  ·exact .inl h1
  ·exact .inr ⟨cur,k.cells h1⟩⟩
theorem SpI.nc{b0:Nat}{w X X':World}{p:BL}{s:Nat}{v:Value}{xs:List Value}(h:SpI b0 w p s v xs X)(k:Rf.NC w.heap.size X X'):SpI b0 w p s v xs X':=
 ⟨k.cells h.box,k.owns h.own,h.els.nc k,h.rst.nc k⟩
theorem SpI.later{b0:Nat}{w X X':World}{p:BL}{s:Nat}{v:Value}{xs:List Value}(h:SpI b0 w p s v xs X)(hb:Below X.heap.size X X'):SpI b0 w p s v xs X':=
 ⟨aC h.box hb,World.ownsRow.kept (row:=none) h.own ⟨hb.os,hb.tape,hb.output,hb.size,fun i hi _=>hb.block i hi⟩ (by cases v.ownBlock<;>simp),h.els.later hb,h.rst.later hb⟩
theorem SpI.step{b0:Nat}{w X X3:World}{p:BL}{s g cap:Nat}{v v':Value}{xs:List Value}(h:SpI b0 w p s v xs X)(hb0:b0<w.heap.size)(hbuf:Buf X g cap (blk p s))
  (hown:X3.ownsRow w.heap.size 22 1 v' (s+1) (xs++[.slice (some ⟨g,0,none⟩) 8 cap])) (hg:X.grownBy X3 v.ownBlock):
  SpI b0 w p (s+1) v' (xs++[.slice (some ⟨g,0,none⟩) 8 cap]) (X3.setCell ⟨b0,0,none⟩ v')/\KeepsOthers X (X3.setCell ⟨b0,0,none⟩ v'):=by
 have hlt:=fun k(e:v.ownBlock=some k)=>(World.ownsRow.lt h.own k e).1
 have hne:some b0≠v.ownBlock:=fun e=>by
  have:=hlt b0 e.symm;omega
 have hbox3:Boxed X3 b0 27 v:=by
  unfold Boxed;rw[hg.block b0 (aE.1 h.box).1 hne];exact h.box
 have hst:X3.grownBy (X3.setCell ⟨b0,0,none⟩ v') (some b0):=grownBy_setCell' _ _ _;have hel:ElsB 0 X3 (dat p 0 (s+1)) (xs++[.slice (some ⟨g,0,none⟩) 8 cap]):=by
  have h1:ElsB 0 X [blk p s] [.slice (some ⟨g,0,none⟩) 8 cap]:=ElsB.one ⟨_,cap,by rw[eA],hbuf.row⟩ (by
   have:=hbuf.kind 0;rwa[eA]at this)
  have h2:=(h.els.app h1).grown h.own hg (Nat.zero_le _);rw[Ac,Nat.zero_add];exact h2
 refine⟨⟨hbox3.set _,World.ownsRow.kept hown hst (.inr fun e=>?_),hel.keep hst fun k e=>?_,?_⟩,?_⟩
 ·have:=(World.ownsRow.lt hown b0 e).1;omega
 ·cases e
  exact⟨Nat.zero_le _,_,_,_,hbox3,qD⟩
 ·exact(h.rst.grown hg (fun k e=>.inr (hlt k e))).grown hst fun k e=>.inl (by cases e;rfl)
 ·refine(KeepsOthers.of_grownBy hg fun j o e ho=>?_).trans (KeepsOthers.setCell _ _ _);obtain⟨_,cur,T,f,h2,_⟩:=qv h.own qD j e;rw[h2]at ho;cases ho
  rfl
theorem JZ(p:BL)(m M g cap:Nat)(w:World)(hM:M=8*m)(hm:m<=1000)(hP:Buf w g cap p)(hl:p.length=M):
  Calls Tryz.prog 123 #[.slice (some ⟨g,0,none⟩) M cap] w fun e w'=>∃x,e=.returned x/\RbV (dat p 0 m) x w'/\Below w.heap.size w w':=by
 have hca:=hP.le;rw[hl]at hca;have hc1:=hca.1;have hc2:=hca.2;have hglt:=hP.lt;have HP:=Lh hP.row;have HL:=Lh hl;have HM:=Lh hM;refine Rf.dh Tryz.func123 rfl ?_;simp only[Tryz.ntmps123,List.size_toArray,List.length_cons,List.length_nil,Nat.reduceAdd,Nat.reduceSub,Array.replicate_succ,Array.replicate_zero,List.push_toArray,List.append_toArray,List.nil_append,List.cons_append];clear hP hl hM hca;go_wp2_with fail;refine(JY (some ⟨g,0,none⟩) M cap _).mono ?_;rintro e w2 ⟨rfl,hw2⟩;have hsz:(w.alloc (Obj.cells #[Value.slice none 0 0] 27)).heap.size=w.heap.size+1:=qS;rw[hsz];have hX0:Boxed w2 w.heap.size 27 (.slice none 0 0):=by rw[hw2];exact((Boxed.new w _ _).alloc _).alloc _
 have hXs:Boxed w2 (w.heap.size+1) 22 (.slice (some ⟨g,0,none⟩) M cap):=by
  rw[hw2];have:=Boxed.new (w.alloc (Obj.cells #[Value.slice none 0 0] 27)) 22 (.slice (some ⟨g,0,none⟩) M cap);rw[hsz]at this;exact this.alloc _
 have hXn:Boxed w2 (w.heap.size+1+1) 3 (.int .i64 8):=by
  rw[hw2];have:=Boxed.new ((w.alloc (Obj.cells #[Value.slice none 0 0] 27)).alloc (.cells #[.slice (some ⟨g,0,none⟩) M cap] 22)) 3 (.int .i64 8);rw[World.size_alloc,hsz]at this;exact this
 have hb2:Below w.heap.size w w2:=by rw[hw2];exact(((Below.refl _ w).alloc qN _).alloc qS _).alloc (by simp;omega) _
 have hb0:=hX0.lt;have HXS:=Lh hXs;have HXN:=Lh hXn;have HB2:=Lh hb2;have HP2:=Lh (HP.out.later hb2);obtain⟨b0,hbq⟩:=qM w.heap.size;have HS0:Hid (SpI b0 w2 p 0 (.slice none 0 0) [] w2):=Lh ⟨by rw[<-hbq];exact hX0,World.ownsRow_nil _ _ _ _,ElsB.nil _ _,Rst.refl _ _⟩;rw[hbq]at HXS HXN hb0 hglt⊢;have HBQ:=Lh hbq;clear hw2 hX0 hXs hXn hb2 hsz hbq;go_wp2_with fail;refine Rf.jd (α:=Nat) (σ:=Nat) rfl (enters_of Tryz.func187 qK rfl) (fun x=> #[.slice (some ⟨g,x,none⟩) 8 8]) (fun _=>rfl)
  (fun s X=>s<=m/\∃v xs,SpI b0 w2 p s v xs X)
  (fun c X=>False)
  (fun s x s' X=>s'=s+1/\s<m/\x=8*s)
  0 (fun s=>s=m) ?hI ?hIx ?hV ?h0 ?hseq ?round ?done ?stop
 case hI=>exact fun s X X' ⟨h,v,xs,hs⟩ k=>⟨h,v,xs,hs.nc k⟩
 case hIx=>exact fun c X X' h k=>h
 case hV=>exact fun s x s' X X' h k=>h
 case h0=>exact⟨Nat.zero_le _,_,_,HS0.out⟩
 case hseq=>
  intro l B Bx X hnc hi hB hk ht;refine(EI l (fun s X=>s<=m/\∃v xs,SpI b0 w2 p s v xs X) B Bx g m M cap (b0+1) (b0+1+1) X HM.out hm hc1 hc2 ?_ ?_ ?_ ?_ hi hB).mono ?_
  ·exact fun i X ⟨_,v,xs,h⟩=>⟨(h.rst.boxed HXS.out qO).cell,(h.rst.boxed HXN.out qO).cell⟩
  ·exact fun i X n ⟨h1,v,xs,h⟩=>⟨h1,v,xs,h.later (Kit.dn' X n)⟩
  ·exact fun X n h=>hk X _ h (bn (Kit.dn' X n))
  ·intro i a X ha h hB hlt;exact(ht i a (i+1) X h hB ⟨rfl,hlt,ha⟩).mono fun e X' h=>h.imp (fun h=>⟨h.1,h.2.1,h.2.2⟩) id
  ·rintro e X' ⟨hv,(⟨h,hB⟩|hx)⟩
   ·exact⟨hv,.inl ⟨m,rfl,h,hB⟩⟩
   ·exact⟨hv,.inr hx⟩
 case round=>
  rintro l s x s' X Z To ⟨h1,v,xs,h⟩ ⟨rfl,hlt,rfl⟩ HN HR HE;have hrow:=h.rst.row HP2.out (fun _ p e=>by cases e;show g≠b0;omega);have hrp:=hrow.part (8*s) 8 (by rw[bytesV_length,HL.out,HM.out];omega) 8 qN (by unfold maxLen;omega);rw[B5 p s (by rw[HL.out,HM.out];omega),Nat.zero_add]at hrp;have hcal:=ij (blk p s) (some ⟨g,8*s,none⟩) 8 X.drew (hrp.later qB.drew) qS qS;rw[eA]at hcal;have HCAL:Hid (Calls Tryz.prog 98 #[.slice (some ⟨g,8*s,none⟩) 8 8] X.drew fun e X1=>∃g' cap',e=.returned (.slice (some ⟨g',0,none⟩) 8 cap')/\Buf X1 g' cap' (blk p s)/\Below X.heap.size X X1):=Lh (hcal.mono fun e X1 ⟨g',cap',h1,_,h2,h3⟩=>⟨g',cap',by rw[h1,eA],h2,qB.drew.trans h3⟩);have c0:=h.box.cell;have HSP:=Lh h;have hmix: Tryz.prog.follows .mixedOrders=true:=qK;have FIN:Hid (∀g' cap' X1,Buf X1 g' cap' (blk p s)->Below X.heap.size X X1->∃(v':Value)(X3:World),(∃o' l' q',v'=.slice o' l' q')/\
    (Builtin.append_ #[27,27] 27 #[v,.slice (some ⟨X1.heap.size,0,none⟩) 1 1]).run Tryz.prog (X1.alloc (.cells #[.slice (some ⟨g',0,none⟩) 8 cap'] 22))=.ok v' X3/\
    X3.cell? ⟨b0,0,none⟩=some v/\X3.frozen? ⟨b0,0,none⟩=false/\KeepsOthers X (X3.setCell ⟨b0,0,none⟩ v')/\s+1<=m/\∃v xs,SpI b0 w2 p (s+1) v xs (X3.setCell ⟨b0,0,none⟩ v')):=Lh fun g' cap' X1 hbuf hb=>by
   have hb2:Below X.heap.size X (X1.alloc (.cells #[.slice (some ⟨g',0,none⟩) 8 cap'] 22)):=hb.alloc hb.size _;have hs2:=HSP.out.later hb2;have hrow2:RowIs (X1.alloc (.cells #[.slice (some ⟨g',0,none⟩) 8 cap'] 22)) (some ⟨X1.heap.size,0,none⟩) [.slice (some ⟨g',0,none⟩) 8 cap'] 1:=
    ⟨Nat.le_refl _,by unfold maxLen;omega,(fun e=>by cases e),fun _=>⟨X1.heap.size,0,rfl,qS,fun i v hv=>by
     match i,hv with
     |0,hv=>
      rw[bf _ _ _ _ rfl];exact hv
     |i+1,hv=>simp at hv⟩⟩
   obtain⟨v',X3,hr,ho,hg⟩:=sA _ 27 w2.heap.size v s xs hs2.own ⟨X1.heap.size,0,none⟩ 1 [.slice (some ⟨g',0,none⟩) 8 cap'] hrow2 (fun u hu=>by rw[List.mem_singleton]at hu;subst hu;rfl) (by simp;omega) hs2.rst.size;have hst:=hs2.step hb0 (hbuf.later (qB.alloc qN _)) ho hg;have hne:some b0≠v.ownBlock:=fun e=>by
    have:=(World.ownsRow.lt hs2.own b0 e.symm).1;omega
   have hbox3:Boxed X3 b0 27 v:=by
    unfold Boxed;rw[hg.block b0 (aE.1 hs2.box).1 hne];exact hs2.box
   have hform:∃o' l' q',v'=Value.slice o' l' q':=by
    rcases ho.2 with ⟨rfl,_⟩|⟨_,_,_,rfl,_⟩
    ·exact⟨_,_,_,rfl⟩
    ·exact⟨_,_,_,rfl⟩
   exact⟨v',X3,hform,hr,hbox3.cell,hbox3.frozen,(bn hb2).trans hst.2,qO,v',_,hst.1⟩
  clear hrow hrp hcal h;gi_wp2
  refine⟨trivial,?_⟩;gi_wp2
  refine Rf.gj hmix qK ?_;refine wpAnyIn_take (i:=1) (v:=.slice (some ⟨g,8*s,none⟩) 8 8) rfl rfl qK qK qK qI ⟨Or.inl ⟨by rfl,fun w=>by go_simp⟩,fun _=>rfl⟩ ?_;refine wpAnyIn_ready (rs:=[0,2]) qK qS ?_;refine AllReadyIn.cons rfl (fun K hK=>?_) ?_
  ·go_simp;refine hK _ _ ?_;clear hK K;refine wpAnyIn_ready (rs:=[2]) qK qS ?_;refine AllReadyIn.cons rfl (fun K hK=>?_) AllReadyIn.nil;go_simp;refine⟨trivial,rfl,?_⟩;refine((callsIn_wide (n:=0)).2 HCAL.out).mono ?_;rintro e X1 ⟨g',cap',rfl,hbuf,hb⟩;refine hK _ _ ?_;clear hK K;obtain⟨v',X3,⟨o',l',q',rfl⟩,hrun,hc3,hf3,hk3,hs3⟩:=FIN.out g' cap' X1 hbuf hb;have c1:=dt hb c0;have c2:=dt (aY X1 (.cells #[.slice (some ⟨g',0,none⟩) 8 cap'] 22)) c1;refine wpAnyIn_ready (rs:=[3]) qK qS ?_;refine AllReadyIn.cons rfl (fun K hK=>?_) AllReadyIn.nil;go_simp;refine hK _ _ ?_;clear hK K;refine wpAnyIn_ready (rs:=[4]) qK qS ?_;refine AllReadyIn.cons rfl (fun K hK=>?_) AllReadyIn.nil;refine nl ?_ (.tmp 8) (.tmp 11) 27 27 ?_ v (.slice (some ⟨X1.heap.size,0,none⟩) 1 1) ?_ ?_ (.slice o' l' q') X3 ?_ ?_
   ·rfl
   ·rfl
   ·rfl
   ·rfl
   ·exact hrun
   refine hK _ _ ?_;clear hK K;refine wpAnyIn_ready (rs:=[5]) qK qS ?_;refine AllReadyIn.cons rfl (fun K hK=>?_) AllReadyIn.nil;go_simp;refine hK _ _ ?_;clear hK K;refine wpAnyIn_done qK ?_ _;exact HN.out _ _ hk3 hs3
  refine AllReadyIn.cons rfl (fun K hK=>?_) AllReadyIn.nil;go_simp;refine⟨trivial,rfl,?_⟩;refine((callsIn_wide (n:=0)).2 HCAL.out).mono ?_;rintro e X1 ⟨g',cap',rfl,hbuf,hb⟩;refine hK _ _ ?_;clear hK K;obtain⟨v',X3,⟨o',l',q',rfl⟩,hrun,hc3,hf3,hk3,hs3⟩:=FIN.out g' cap' X1 hbuf hb;have c1:=dt hb c0;have c2:=dt (aY X1 (.cells #[.slice (some ⟨g',0,none⟩) 8 cap'] 22)) c1;refine wpAnyIn_ready (rs:=[0,3]) qK qS ?_;refine AllReadyIn.cons rfl (fun K hK=>?_) ?_
  ·go_simp;refine hK _ _ ?_;clear hK K;refine wpAnyIn_ready (rs:=[3]) qK qS ?_;refine AllReadyIn.cons rfl (fun K hK=>?_) AllReadyIn.nil;go_simp;refine hK _ _ ?_;clear hK K;refine wpAnyIn_ready (rs:=[4]) qK qS ?_;refine AllReadyIn.cons rfl (fun K hK=>?_) AllReadyIn.nil;refine nl ?_ (.tmp 8) (.tmp 11) 27 27 ?_ v (.slice (some ⟨X1.heap.size,0,none⟩) 1 1) ?_ ?_ (.slice o' l' q') X3 ?_ ?_
   ·rfl
   ·rfl
   ·rfl
   ·rfl
   ·exact hrun
   refine hK _ _ ?_;clear hK K;refine wpAnyIn_ready (rs:=[5]) qK qS ?_;refine AllReadyIn.cons rfl (fun K hK=>?_) AllReadyIn.nil;go_simp;refine hK _ _ ?_;clear hK K;refine wpAnyIn_done qK ?_ _;exact HN.out _ _ hk3 hs3
  refine AllReadyIn.cons rfl (fun K hK=>?_) AllReadyIn.nil;go_simp;refine hK _ _ ?_;clear hK K;refine wpAnyIn_ready (rs:=[0]) qK qS ?_;refine AllReadyIn.cons rfl (fun K hK=>?_) AllReadyIn.nil;go_simp;refine hK _ _ ?_;clear hK K;refine wpAnyIn_ready (rs:=[4]) qK qS ?_;refine AllReadyIn.cons rfl (fun K hK=>?_) AllReadyIn.nil;refine nl ?_ (.tmp 8) (.tmp 11) 27 27 ?_ v (.slice (some ⟨X1.heap.size,0,none⟩) 1 1) ?_ ?_ (.slice o' l' q') X3 ?_ ?_
  ·rfl
  ·rfl
  ·rfl
  ·rfl
  ·exact hrun
  refine hK _ _ ?_;clear hK K;refine wpAnyIn_ready (rs:=[5]) qK qS ?_;refine AllReadyIn.cons rfl (fun K hK=>?_) AllReadyIn.nil;go_simp;refine hK _ _ ?_;clear hK K;refine wpAnyIn_done qK ?_ _;exact HN.out _ _ hk3 hs3
 case done=>
  rintro D s X hD rfl ⟨h1,v,xs,h⟩ hK;have c0:=h.box.cell;have HRB:=Lh (tX h.own (by rw[bh]) h.els.els);have HRS:=Lh h.rst;clear h;go_wp2_with fail;refine Rf.leaves hK (results_tmp rfl _ _ _) ?_;obtain⟨o,c,e,ys,hr,hel⟩:=HRB.out;have hn:=Rf.NC.put (B:=0) (.deferred none) (Nat.zero_le _) hK rfl;refine⟨v,rfl,⟨o,c,e,ys,hr.nc hn,(ElsB.nc hel.old hn).els⟩,?_⟩;exact(HRS.out.below HB2.out (by rw[HBQ.out];exact Nat.le_refl _) (by rw[HBQ.out];omega)).trans (belowK_b (w:=w) qN X D _ _ (by rw[HBQ.out];omega) hK rfl rfl)
 case stop=>exact fun D c X hD h=>h.elim
end
end
theorem pH(l:List Nat)(k:Nat)(h:k<l.length):szG l k∈l:=by
 unfold szG;rw[List.getD_eq_getElem?_getD,List.getElem?_eq_getElem h];exact List.getElem_mem h
theorem NQ(p:BL)(a n k:Nat)(h:k<=n):(dat p a n).take k=dat p a k/\(dat p a n).drop k=dat p (a+k) (n-k):=by
 obtain⟨d,rfl⟩:∃d,n=k+d:=⟨n-k,qO⟩;rw[QT];have hl:(dat p a k).length=k:=bh _ _ _;constructor
 ·rw[List.take_left' hl]
 ·rw[List.drop_left' hl,show k+d-k=d by omega]
theorem RbIs.take{W:World}{o:Option Addr}{bs:L8}{c:Nat}(h:RbIs W o bs c)(k:Nat)(hk:k<=bs.length):RbIs W o (bs.take k) c:=by
 obtain⟨xs,h1,h2⟩:=h;have hl:=h2.len;have hle:=h1.le;refine⟨xs.take k,⟨by simp;omega,h1.cap,h1.nil,fun h0=>?_⟩,?_⟩
 ·obtain⟨b,off,e,hlt,hc⟩:=h1.cells (by simp at h0;omega);refine⟨b,off,e,hlt,fun i v hv=>hc i v ?_⟩;have hi:=(List.getElem?_eq_some_iff.1 hv).1;simp at hi;rw[<-hv,List.getElem?_take_of_lt qO]
 ·have:=h2.part 0 k;rw[List.drop_zero,List.drop_zero]at this;exact this
theorem RbIs.drop{W:World}{b off:Nat}{bs:L8}{c:Nat}(h:RbIs W (some ⟨b,off,none⟩) bs c)(k:Nat)(hk:k<=bs.length):RbIs W (some ⟨b,off+k,none⟩) (bs.drop k) (c-k):=by
 have h1:=h.le;have h2:=h.part k (bs.length-k) qO (c-k) qO qO;rw[List.take_of_length_le qS]at h2;exact h2
def F3(a b c:L8)(i:Nat):L8:=if i=0 then a else if i=1 then b else c
theorem EJ(a b c:L8):EH (F3 a b c) 3=a++(b++c):=by simp[EH,F3]
theorem vg(a b c:L8):jO (F3 a b c) 3=a.length+b.length+c.length:=by simp[jO,F3]
def YC(p:BL)(l:List Nat)(m:Nat)(w:World)(v6 v7 iv:Value)(wr:World):Prop:=
 ∃k:Nat,k<=l.length/\iv=.int .i64 k/\RbV (eW p 0 (l.take k)) v6 wr/\RbV (dat p (bc (l.take k)) (m-bc (l.take k))) v7 wr/\Below w.heap.size w wr
theorem B6(f:BL)(o:Option Addr)(c:Nat)(w:World)(hR:RowIs w o (bytesV f) c)(hl:f.length<=2000):
  Calls Tryz.prog 81 #[.slice o f.length c] w fun e w'=>∃x,e=.returned (.tuple #[x,.nilIface])/\RbV (fl f) x w'/\Below w.heap.size w w':=by
 have h1:=hR.le;have h2:=hR.cap;simp only[bytesV_length]at h1;unfold maxLen at h2;have HR:=Lh hR;have hs:=j9 f.length w hl;have hnb:=eM f.length hl;have hnp:=fE f.length;have hll:=jZ f.length;have hss:=db f.length;have hmem:=jF (nbk f.length) hnp hnb;have hpl:=nZ f;have hall:fl f=eW (jN f) 0 (shp f.length):=rfl;change ∀k∈shp f.length,_ at hmem;obtain⟨l,hlq⟩:=qM (shp f.length);obtain⟨m,hmq⟩:=qM (nbk f.length);obtain⟨p,hpq⟩:=qM (jN f);have HPD:Hid (∀v,Below w.heap.size w v->Calls Tryz.prog 124 #[.slice o f.length c] v (Own p v)):=Lh fun v hb=>by
  have:=RH f o c v (hR.later hb) qO;rwa[hpq]at this
 rw[hlq]at hs hll hss hmem hall;rw[hmq]at hnb hnp hss hpl;rw[hpq]at hpl hall;have HS:=Lh hs;have HSS:=Lh hss;have HMM:=Lh hmem;have HPL:=Lh hpl;have HALL:=Lh hall;obtain⟨M,hM⟩:=qM (8*m);have HM:=Lh hM;have hM1:M<=2000:=qO;clear hR hs hss hmem hpl hall hlq hmq hpq hM;go_enter Tryz.func81,Tryz.ntmps81
 go_wp2_with fail;refine HS.out.mono ?_;rintro e w1 ⟨x,rfl,⟨o1,c1,rfl,hr⟩,hb⟩;have hc1:=hr.cap;have hle1:=hr.le;simp at hle1;unfold maxLen at hc1;have HB1:=Lh hb;have HR1:=Lh hr;rw[bv];clear hb hr HS;go_wp2_with fail;refine(HPD.out _ HB1.out).mono ?_;rintro e w2 ⟨g,cap,rfl,hg,hbuf,hb⟩;have hsp:=JZ p m M g cap w2 HM.out.symm qO hbuf (by rw[HPL.out,HM.out]);rw[HPL.out,HM.out];have HB2:=Lh (Ks HB1.out hb);have HR2:=Lh (HR1.out.later hb);have HSP:=Lh hsp;clear hg hbuf hb hsp HPD HR1;go_wp2_with fail;refine HSP.out.mono ?_;rintro e w3 ⟨x7,rfl,hx7,hb⟩;have HB3:=Lh (Ks HB2.out hb);have HR3:=Lh (HR2.out.later hb);have HX7:=Lh hx7;clear hb hx7 HSP HR2;go_wp2_with fail;go_loopw [6,7,9,10,11,12,27] (fun v6 v7 _ _ _ _ iv wr=>YC p l m w3 v6 v7 iv wr) (fun _ _ _ _ _ _ iv _=>l.length-(intOf iv).toNat)
 case atStart=>exact⟨0,Nat.zero_le _,rfl,⟨none,0,rfl,RbIs.empty none 0 (Nat.zero_le _) (fun _=>rfl)⟩,by simpa using HX7.out,Below.refl _ _⟩
 case round=>
  obtain⟨k,hk,rfl,⟨o6,c6,rfl,hv6⟩,⟨o7,c7,rfl,hv7⟩,hbw⟩:=hrel;have HBW:=Lh hbw;have HV6:=Lh hv6;have HV7:=Lh hv7;rw[bh];by_cases hlt:k<l.length
  ·obtain⟨b1,off1,rfl,_,hcl⟩:=dR (HR3.out.later hbw) k hlt;change wr.cell? _=some (.int .i64 ((szG l k:Nat):Int))at hcl;have hst:=fP l k hlt;change _=_+szG l k at hst;have hsl:=eZ l (k+1);rw[HSS.out]at hsl;have hmk:=HMM.out _ (pH l k hlt);have hgl:(eW p 0 (l.take k)).length=bc (l.take k)+32*k:=by
    rw[jG,List.length_take];congr 1;omega
   have hgn:eW p 0 (l.take (k+1))=eW p 0 (l.take k)++jl p (bc (l.take k)) (szG l k):=by
    have e:l.take (k+1)=l.take k++[szG l k]:=by
     rw[List.take_add_one,List.getElem?_eq_getElem hlt];simp[szG,List.getD_eq_getElem?_getD,List.getElem?_eq_getElem hlt]
    rw[e,xc,Nat.zero_add]
   obtain⟨a,ha⟩:=qM (bc (l.take k));obtain⟨s,hs⟩:=qM (szG l k);obtain⟨G,hG⟩:=qM (eW p 0 (l.take k));obtain⟨r,hr⟩:=qM (m-a);rw[ha]at hst hgl hgn hv7⊢;rw[hs]at hcl hst hmk hgn;rw[hG]at hgl hgn hv6⊢;rw[hr]at hv7⊢;have hk0:(0:Int)<=(k:Int):=qO;have hk1:(k:Int)<(l.length:Int):=qO;have hsr:s<=r:=qO;have has:a+s<=250:=qO;have hs1:=hmk.1;have hs2:=hmk.2;have hdp:=NQ p a r s hsr;have h7le:=hv7.le;rw[bh]at h7le;have h71:=h7le.1;have h72:=h7le.2;unfold maxLen at h72;have h6le:=hv6.le;have h61:=h6le.1;have h62:=h6le.2;unfold maxLen at h62;obtain⟨b7,off7,p7,q7,rfl,_⟩:=hv7.cell 0 (by rw[bh];omega);have hdt:=hv7.take s (by rw[bh];exact hsr);have hdd:=hv7.drop s (by rw[bh];exact hsr);rw[hdp.1]at hdt;rw[hdp.2]at hdd;have hpar:=EG (dat p a s) (some ⟨b7,off7,none⟩) s c7 wr hdt (bh _ _ _) hs1 hs2;have HPA:=Lh hpar;have HDT:=Lh hdt;have HDD:=Lh hdd;have HGN:=Lh hgn;have HGL:=Lh hgl;have HST:=Lh hst;have HRR:=Lh hr;have HV6':=Lh hv6;have hsr0:(s:Int)<=(r:Int):=qO;have hsc:(s:Int)<=(c7:Int):=qO;clear hbw hv6 hv7 hst hsl hmk hgl hgn ha hs hG hr hdp h7le h6le hdt hdd hpar HV6 HV7;go_wp2_with fail;refine HPA.out.mono ?_;rintro e w4 ⟨gO,Gb,rfl,hm4,hb4⟩;have HB4:=Lh (Ks HBW.out hb4);obtain⟨gl,hgl⟩:=qM G.length;obtain⟨w5,hw5⟩:=qM (w4.alloc (.cells #[.slice o6 gl c6,.slice (some ⟨b7,off7,none⟩) s c7,.slice (some ⟨gO,0,none⟩) 32 32] 27));have hb5:Below w4.heap.size w4 w5:=by rw[<-hw5];exact aY _ _
   have hh5:w5.heap[w4.heap.size]? =some (.cells #[.slice o6 gl c6,.slice (some ⟨b7,off7,none⟩) s c7,.slice (some ⟨gO,0,none⟩) 32 32] 27 (0,0)):=by rw[<-hw5];exact World.alloc_heap_new _ _
   have hrb:=hm4.els (nD (dat p a s)) (kP _) (fun i hi=>YB _ i hi);have hparts:PartsB w5 w4.heap.size 3 (F3 G (dat p a s) (nD (dat p a s))):=⟨(aE.1 hh5).1,fun i hi=>by
    match i,hi with
    |0,_=>exact⟨o6,c6,by rw[cell_of_row _ _ _ _ _ _ hh5,<-hgl];rfl,(HV6'.out.later hb4).later hb5⟩
    |1,_=>exact⟨_,c7,by rw[cell_of_row _ _ _ _ _ _ hh5];show some _=some (Value.slice _ (dat p a s).length c7);rw[bh];rfl,(HDT.out.later hb4).later hb5⟩
    |2,_=>exact⟨_,32,by rw[cell_of_row _ _ _ _ _ _ hh5];show some _=some (Value.slice _ (nD (dat p a s)).length 32);rw[kP];rfl,hrb.later hb5⟩⟩
   have hcc:=B4 _ 3 w4.heap.size w5 hparts qO (by rw[vg,bh,kP];omega) (by rw[vg,bh,kP,HGL.out];omega);rw[EJ,show G++(dat p a s++nD (dat p a s))=eW p 0 (l.take (k+1)) by rw[HGN.out];rfl]at hcc;rw[<-hw5]at hcc;have HCC:=Lh hcc;have HW5:=Lh hw5;have HB5:=Lh (Ks HB4.out hb5);have HD5:=Lh ((HDD.out.later hb4).later hb5);rw[hgl];clear hm4 hb4 hgl hw5 hb5 hh5 hrb hparts hcc HPA HDD;go_wp2_with fail;refine HCC.out.mono ?_;rintro e w6 ⟨x6,rfl,hx6,hb6⟩;rw[HW5.out]at hb6;have HB6:=Lh (Ks HB5.out hb6);have HX6:=Lh hx6;have HD6:=Lh (HD5.out.later hb6);clear hx6 hb6 HCC HD5;have hrs:=HST.out;have hrr:=HRR.out;have HEQ:Hid (m-bc (l.take (k+1))=r-s):=Lh qO;clear hrs hrr;by_cases hcs:c7=s
   ·have hrs:r=s:=qO;subst hrs;have HCS:=Lh hcs;have hrr0:r-r=0:=Nat.sub_self _;have HR0:=Lh hrr0;clear hrr0;go_wp2_with fail;go_roundw
    case rel=>exact⟨k+1,qO,by go_num,HX6.out,by rw[HEQ.out,HR0.out];exact⟨_,0,rfl,RbIs.empty _ 0 (Nat.zero_le _) (fun e=>by cases e)⟩,HB6.out⟩
    case measure=>simp[intOf];omega
   ·have hcs2:¬c7=s:=hcs;go_wp2_with fail;go_roundw
    case rel=>exact⟨k+1,qO,by go_num,HX6.out,by rw[HEQ.out,HST.out];exact⟨_,_,by rw[bh],HD6.out⟩,HB6.out⟩
    case measure=>simp[intOf];omega
  ·obtain rfl:k=l.length:=qO;have hl6:RbIs wr o6 (fl f) c6:=by rw[HALL.out,<-List.take_length (l:=l)];exact HV6.out
   have HL6:=Lh hl6;have HLL:Hid ((eW p 0 (l.take l.length)).length=(fl f).length):=Lh (by rw[HALL.out,List.take_length]);clear hbw hv6 hv7 hl6;go_wp2_with fail;go_ret2
   exact⟨_,rfl,⟨o6,c6,by rw[<-HLL.out];rfl,HL6.out⟩,HB3.out.trans (HBW.out.mono HB3.out.size)⟩
