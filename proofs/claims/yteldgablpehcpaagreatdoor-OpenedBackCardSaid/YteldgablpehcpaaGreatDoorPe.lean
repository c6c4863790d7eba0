/- Pe -/
import Derived.Test.YteldgablpehcpaaGreatDoorDv
import Derived.Test.YteldgablpehcpaaGreatDoorGw
set_option linter.unusedVariables false
set_option linter.unusedSimpArgs false
set_option maxRecDepth 100000
set_option maxHeartbeats 8000000
namespace Go.Proofs.YteldgablpehcpaaGreatDoor
open Go.RowKit
def lW(ys:BL)(k:Nat):BL:=tab (fun m=>if m<k∨ys.length<=m+k then co ys (ys.length-1-m)else co ys m) ys.length
@[simp] theorem zG(ys:BL)(k:Nat):(lW ys k).length=ys.length:=by simp[lW]
theorem lX(ys:BL)(k m:Nat)(h:m<ys.length):co (lW ys k) m=if m<k∨ys.length<=m+k then co ys (ys.length-1-m)else co ys m:=aT _ _ _ h
theorem Dr(ys:BL):lW ys 0=ys:=aN qS fun m hm=>by
 simp at hm;rw[lX _ _ _ hm,if_neg qO]
theorem Dt(a:BL)(m:Nat)(h:m<a.length):co a.reverse m=co a (a.length-1-m):=by
 simp[co,List.getD_eq_getElem?_getD,h,List.getElem?_reverse,show a.length-1-m<a.length by omega]
theorem Du(ys:BL)(k:Nat)(h:ys.length<=2*k+1):lW ys k=ys.reverse:=aN qS fun m hm=>by
 simp at hm;rw[lX _ _ _ hm,Dt _ _ hm];by_cases e:m<k∨ys.length<=m+k
 ·rw[if_pos e]
 ·rw[if_neg e];congr 1
  omega
theorem Dw(ys:BL)(k:Nat)(h:2*k+1<ys.length):((lW ys k).set k (co (lW ys k) (ys.length-1-k))).set (ys.length-1-k) (co (lW ys k) k)=lW ys (k+1):=aN qS fun m hm=>by
 simp at hm;rw[lX _ _ _ hm,cj,cj,lX _ _ _ qO,lX _ _ _ qO,lX _ _ _ hm];simp only[List.length_set,zG];by_cases e1:ys.length-1-k=m
 ·rw[if_pos ⟨e1,qO⟩,if_neg qO,if_pos qO];congr 1
  omega
 ·rw[if_neg (fun h=>e1 h.1)];by_cases e2:k=m
  ·rw[if_pos ⟨e2,qO⟩,if_neg qO,if_pos qO,e2]
  ·rw[if_neg (fun h=>e2 h.1)];by_cases e3:m<k∨ys.length<=m+k
   ·rw[if_pos e3,if_pos qO]
   ·rw[if_neg e3,if_neg qO]
def aAE(w:World)(ys:BL)(g cap:Nat)(i j:Value)(wr:World):Prop:=
 ∃k:Nat,2*k<=ys.length+1/\i=.int .i64 k/\j=.int .i64 ((ys.length:Int)-1-k)/\Buf wr g cap (lW ys k)/\Only g w wr
theorem su(ys:BL)(g cap:Nat)(w:World)(hB:Buf w g cap ys):
  Calls Tryz.prog 192 #[.slice (some ⟨g,0,none⟩) ys.length cap] w fun e w'=>e=.returned (.tuple #[])/\Buf w' g cap ys.reverse/\Only g w w':=by
 have hle:=hB.le;unfold maxLen at hle;have HB0:Hid (Buf w g cap (lW ys 0)):=Lh (by rw[Dr];exact hB);clear hB;go_enter Tryz.func192,Tryz.ntmps192
 go_wp2_with fail;go_loopw [2,3] (fun i j wr=>aAE w ys g cap i j wr) (fun i j _=>ys.length-(intOf i).toNat)
 case atStart=>exact⟨0,qO,rfl,qS,HB0.out,Only.refl _ _⟩
 case round=>
  obtain⟨k,hk,rfl,rfl,hb,ho⟩:=hrel;by_cases hlt:2*k+1<ys.length
  ·have hd1:decide ((k:Int)<(ys.length:Int)-1-k)=true:=decide_eq_true qO;obtain⟨J,hJ⟩:=qM (ys.length-1-k);have hJ2:(ys.length:Int)-1-k=(J:Int):=qO;have hJn:((ys.length:Int)-1-k).toNat=J:=qO;have hc1:=hb.cell k (by simp;omega);have hf1:=hb.frozen k;have hc2:=hb.cell J (by simp;omega);have hf2:=hb.frozen J;have HST:=Lh (Dw ys k hlt);rw[hJ]at HST;generalize co (lW ys k) k=x at*;generalize co (lW ys k) J=y at*;have hxl:=UInt8.toNat_lt x;have hyl:=UInt8.toNat_lt y;have HB:=Lh hb;have HO:=Lh ho;have hkl:k<J:=qO;have hJl:J<ys.length:=qO;have HJ:=Lh hJ;have hk0:(0:Int)<=(k:Int):=qO;have hk1:(k:Int)<(ys.length:Int):=qO;have hj0:(0:Int)<=(J:Int):=qO;have hj1:(J:Int)<(ys.length:Int):=qO;rw[hJ2]at hd1⊢;clear hb ho hJ hJn;go_wp2_with fail;go_region
   all_goals
    go_wp2
    go_roundw
    case rel=>
     have s1:=HB.out.store k y;have s2:=s1.1.store J x;rw[HST.out]at s2;exact⟨k+1,qO,by go_num,by have:=HJ.out;congr 1;omega,s2.1.later (jV (Kit.Dn.refl _)).below,HO.out.trans (Only.trans s1.2 (Only.trans s2.2 (Only.of_below (jV (Kit.Dn.refl _)).below)))⟩
    case measure=>simp only[intOf];omega
  ·have hd1:decide ((k:Int)<(ys.length:Int)-1-k)=false:=decide_eq_false qO;rw[Du ys k qO]at hb;go_wp2
   go_end0
   exact⟨rfl,hb,ho⟩
def Own(z:BL)(w:World)(e:Ending)(w':World):Prop:=∃g cap,e=.returned (.slice (some ⟨g,0,none⟩) z.length cap)/\w.heap.size<=g/\Buf w' g cap z/\Below w.heap.size w w'
theorem Own.rows{z:BL}{w:World}{e:Ending}{w':World}(h:Own z w e w'):Rows z w e w':=by
 obtain⟨g,cap,rfl,hg,hb,hw⟩:=h;exact⟨_,rfl,⟨_,_,rfl,hb.row⟩,hw⟩
theorem ij(z:BL)(o:Option Addr)(c:Nat)(w:World)(hR:RowIs w o (bytesV z) c)(h0:0<z.length)(hl:z.length<=1000000):
  Calls Tryz.prog 98 #[.slice o z.length c] w (Own z w):=by
 have h1:=hR.le;have h2:=hR.cap;simp only[bytesV_length]at h1;unfold maxLen at h2;have HPE:Hid (RowIs (w.alloc (.cells #[] 5)) o (bytesV z) c):=Lh (hR.later (qB.alloc qN _));have HOWN:Hid ((w.alloc (.cells #[] 5)).ownsRow w.heap.size 5 1 (.slice (some ⟨w.heap.size,0,none⟩) 0 0) 0 (bytesV [])):=Lh (World.ownsRow_lit w #[] 0 qN (Nat.zero_le _) rfl);have HBE:Hid (Below w.heap.size w (w.alloc (.cells #[] 5))):=Lh (qB.alloc qN _);obtain⟨b,off,rfl,_,_⟩:=hR.cells (by simpa using h0);clear hR;have q22:∀(w:World)(a:Option Addr)(n c n' c':Nat),(binOp .eql 22 (.slice a n c) (.slice none n' c')).run Tryz.prog w=.ok (.bool a.isNone) w:=fun w a n c n' c'=>Lib.run_eql_slice_nil w _ _ a n c n' c' Tryz.underlying22
 go_enter Tryz.func98,Tryz.ntmps98
 go_wp2_with (at_builtin;refine aL rfl (.tmp 5) (.tmp 6) rfl w.heap.size _ 0 [] rfl HOWN.out _ z.length c z rfl rfl HPE.out qO HBE.out.size ?_)
 intro v2 w2 hv hgr;have hb2:=own_below (n:=0) HBE.out HOWN.out hgr;obtain⟨g,cap,rfl,hg,hbuf⟩:=fG hv qO qS;have HB2:=Lh hb2;have HBF:=Lh hbuf;clear hv hgr hb2 hbuf HOWN HBE HPE;go_wp2
 go_ret;exact⟨g,cap,rfl,hg,HBF.out,HB2.out⟩
theorem Dx(z:BL)(o:Option Addr)(c:Nat)(w:World)(hR:RowIs w o (bytesV z) c)(h0:0<z.length)(hl:z.length<=1000000):
  Calls Tryz.prog 190 #[.slice o z.length c] w (Own z.reverse w):=by
 have HC:=Lh (ij z o c w hR h0 hl);have h1:=hR.le;have h2:=hR.cap;simp only[bytesV_length]at h1;unfold maxLen at h2;clear hR;go_enter Tryz.func190,Tryz.ntmps190
 go_wp2_with fail;refine HC.out.mono ?_;rintro e w1 ⟨g,cap,rfl,hg,hb,hw⟩;have HG:=Lh hg;have HW:=Lh hw;have HR:=Lh (su z g cap w1 hb);clear hg hb hw HC;go_wp2_with fail;refine HR.out.mono ?_;rintro e w2 ⟨rfl,hb,ho⟩;have HB:=Lh hb;have HW2:=Lh (HW.out.trans (ho.below HG.out HW.out.size));clear hb ho HR;go_wp2_with fail;go_ret;exact⟨g,cap,by rw[List.length_reverse];rfl,HG.out,HB.out,HW2.out⟩
def zH(R:BL):BL:=(splice (List.replicate 32 0) 0 R).reverse
theorem sv(R:BL)(h:R.length<=32):(zH R).length=32:=by
 rw[zH,List.length_reverse,length_splice _ _ _ (by simp;omega),List.length_replicate]
theorem NL{d Y R:BL}(hR:DivOf (tr (dV d.reverse 32)) (bZ 32) Y R):R.length<=32/\IsCode (d++zH R):=by
 have hl:R.length<=32:=by
  have:=hR.less;rw[D3,br]at this;omega
 refine⟨hl,fun j hj=>?_⟩;have e:d++zH R=(splice (List.replicate 32 0) 0 R++d.reverse).reverse:=by simp[zH]
 rw[e,uY];have hs:(splice (List.replicate 32 (0:UInt8)) 0 R).length=32:=by rw[length_splice _ _ _ (by simp;omega),List.length_replicate]
 have h1:∀k,co (splice (List.replicate 32 0) 0 R++d.reverse) k=co (mG R (dV d.reverse 32)) k:=fun k=>by
  rw[nX,kN,hs];unfold dV;rw[nX,List.length_replicate];by_cases hk:k<32
  ·rw[if_pos hk,if_pos hk,cw,UInt8.xor_zero,j7 _ _ _ _ (by simp;omega)];by_cases hk2:k<R.length
   ·rw[if_pos ⟨Nat.zero_le _,qO⟩,Nat.sub_zero]
   ·rw[if_neg qO,cw,aZ qO]
  ·rw[if_neg hk,if_neg hk,aZ (z:=R) qO,UInt8.zero_xor]
 have h2:∀k,co (tr (dV d.reverse 32)) k=co (mG (bB Y (bZ 32)) R) k:=fun k=>by rw[<-hR.eq k,kN]
 rw[iZ h1,Fj,<-yi (dV d.reverse 32),iZ h2,Fj,oh,A7 32 j hj,Gf.aO,UInt8.zero_xor,UInt8.xor_self]
def VL(d:BL)(w:World)(e:Ending)(w':World):Prop:=
 ∃r x,r.length=32/\IsCode (d++r)/\e=.returned (.tuple #[x,.nilIface])/\RowV r x w'/\Below w.heap.size w w'
theorem vc(d:BL)(o:Option Addr)(c:Nat)(w:World)(hP:RowIs w o (bytesV d) c)(hl1:1<=d.length)(hl2:d.length<=223):
  Calls Tryz.prog 166 #[.slice o d.length c] w (VL d w):=by
 have h1:=hP.le;have h2:=hP.cap;simp only[bytesV_length]at h1;unfold maxLen at h2;obtain⟨i0,hi,hz0,hz1,hz2⟩:=info_parts ao;have hT:=Dx d o c w hP qO qO;have HPC:Hid (∀Y R,DivOf (tr (dV d.reverse 32)) (bZ 32) Y R->R.length<=32/\IsCode (d++zH R)):=Lh fun Y R h=>NL h
 have hdl:d.reverse.length=d.length:=List.length_reverse;generalize d.reverse=dr at hT HPC hdl;have HT:=Lh hT;have hdl2:dr.length<=223:=qO;clear hT hdl;have hd1:decide ((d.length:Int)<1)=false:=decide_eq_false qO;have hd2:decide ((223:Int)<(d.length:Int))=false:=decide_eq_false qO;clear hP;go_enter Tryz.func166,Tryz.ntmps166
 go_wp2_with fail;refine HT.out.mono ?_;rintro e w1 ⟨g1,cap1,rfl,hg1,hb1,hw1⟩;have HS:=Lh (I1 dr 32 _ _ w1 hb1.row qO);have HW1:=Lh hw1;clear hg1 hb1 hw1 HT;go_wp2_with fail;refine HS.out.mono ?_;rintro e w2 ⟨x2,rfl,hx2,hw2⟩;rw[show shN 32=32 from rfl]at hx2;have HW2:=Lh (Ks HW1.out hw2);have HX2:=Lh hx2;clear hx2 hw2 HS;go_wp2_with fail;refine(Ao w2).mono ?_;rintro e w3 ⟨x3,rfl,hx3,hw3⟩;have HW3:=Lh (Ks HW2.out hw3);have hx2:=HX2.out.later hw3;have hsl:(dV dr 32).length=32+dr.length:=by rw[dV,List.length_append,List.length_replicate]
 have htl:=iR (dV dr 32);obtain⟨o2,c2,rfl,hx2⟩:=hx2;obtain⟨o3,c3,rfl,hx3⟩:=hx3;have HD:=Lh (RG (tr (dV dr 32)) (bZ 32) o2 o3 c2 c3 w3 hx2 hx3 qO (by rw[br];omega) (by rw[D3,br];omega));clear hx2 hx3 hw3 hsl htl HX2;generalize tr (dV dr 32)=P at*;generalize bZ 32=G at*;go_wp2_with fail;refine HD.out.mono ?_;rintro e w4 ⟨Y,R,x,y,hDV,_,rfl,_,hy,hw4⟩;obtain⟨hRl,hcode⟩:=HPC.out Y R hDV;obtain⟨oR,cR,rfl,hy⟩:=hy;have HW4:=Lh (Ks HW3.out hw4);have HY:=Lh hy;have HC:=Lh hcode;have hRc:=hy.cap;unfold maxLen at hRc;have HPOS:Hid (∀w5,Below w4.heap.size w4 w5->0<(bytesV R).length->∃ad,oR=some ad/\∀j v,(bytesV R)[j]? =some v->w5.cell? (ad.add j)=some v):=Lh fun w5 hb h0=>by
  have hr:=HY.out.later hb;obtain⟨b,off,rfl,_,_⟩:=hr.cells h0;exact⟨_,rfl,hr.adds _ rfl⟩
 clear hy hw4 hcode hDV HD HPC;obtain⟨Z,hZ⟩:∃Z:BL,List.replicate 32 0=Z:=⟨_,rfl⟩;have hZl:Z.length=32:=by rw[<-hZ];simp
 have HZ:=Lh hZ;have HZL:=Lh hZl;clear hZ hZl;go_wp2_with (at_make;refine wpList_make_full _ rfl _ _ 22 rfl 0 5 i0 (.int .u8 0) 1 Tryz.underlying22 hi hz0 hz1 _ _ _ _ 32 rfl rfl qO qO (by rw[hz2];omega) (by unfold maxLen;omega) (Nat.zero_le _) ?_)
 intro w5 hown hgrow;have hb5:Below w4.heap.size w4 w5:=qB.grown hgrow qN (fun k h=>by cases h);have HB5:=Lh hb5;have HF5:Hid (Full w5 w4.heap.size Z):=Lh (by rw[<-HZ.out];exact(bK hown).full qS);clear hown hgrow hb5;go_wp2_with (refine wpList_copy_splice rfl (.tmp 30) (.tmp 31) 22 22 rfl 5 Tryz.underlying22 (by rw[hi];simp[hz1]) _ _ _ _ _ _ rfl rfl w4.heap.size 0 (bytesV Z) 5 HF5.out (bytesV R) (by simp only[bytesV_length];exact(Nat.min_eq_left qO).symm) (fun h0=>⟨rfl,HPOS.out _ HB5.out h0⟩) (by rw[bytesV_length,bytesV_length,HZL.out];omega) (aG R) w4.heap.size w4 HB5.out qN ?_)
 intro w6 hfull hb6;have hsl:(splice Z 0 R).length=32:=by rw[length_splice _ _ _ (by rw[HZL.out];omega),HZL.out]
 have hbuf:Buf w6 w4.heap.size 32 (splice Z 0 R):=by
  have h:Full w6 w4.heap.size (splice Z 0 R):=by unfold Full;rw[<-dM];exact hfull
  have:=h.buf (by rw[hsl];unfold maxLen;omega);rw[hsl]at this;exact this
 have hrv:=su _ _ _ _ hbuf;rw[hsl]at hrv;have HRV:=Lh hrv;have HW6:=Lh (Ks HW4.out hb6);have HG:Hid (w.heap.size<=w4.heap.size):=Lh HW4.out.size;clear hfull hb6 hsl hbuf hrv;go_wp2_with fail;refine HRV.out.mono ?_;rintro e w7 ⟨rfl,hb7,ho7⟩;have HW7:=Lh (HW6.out.trans (ho7.below HG.out HW6.out.size));rw[show(splice Z 0 R).reverse=zH R by rw[<-HZ.out];rfl]at hb7;have HB7:=Lh hb7;clear hb7 ho7 HRV;go_wp2_with fail;go_ret2
 exact⟨zH R,_,sv R hRl,HC.out,rfl,by rw[show(Value.slice (some ⟨w4.heap.size,0,none⟩) 32 32)=.slice (some ⟨w4.heap.size,0,none⟩) (zH R).length 32 by rw[sv R hRl]];exact⟨_,_,rfl,HB7.out.row⟩,HW7.out⟩
