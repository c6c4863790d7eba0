/- Sh -/
import Derived.Test.YteldgablpehcpaaGreatDoorIns
set_option linter.unusedVariables false
set_option linter.unusedSimpArgs false
set_option maxRecDepth 100000
set_option maxHeartbeats 8000000
namespace Go.Proofs.YteldgablpehcpaaGreatDoor
open Go.RowKit
def sM(l:List Nat):List Int:=l.map fun k:Nat=>(k:Int)
@[simp] theorem bv(l:List Nat):(sM l).length=l.length:=by simp[sM]
theorem xy(l:List Nat)(k:Nat):(sM l).getD k 0=((l.getD k 0:Nat):Int):=by
 unfold sM;by_cases h:k<l.length
 ·simp[List.getD_eq_getElem?_getD,h]
 ·simp[List.getD_eq_getElem?_getD,h]
theorem xz(n:Nat)(w:World)(hn:n<=1000000):
  Calls Tryz.prog 93 #[.int .i64 (n:Int)] w fun e w'=>e=.returned (.int .i64 (nbk n:Nat))/\w'=w:=by
 have h1:((n:Int)+8-1) / 8=((n+7) / 8:Nat):=qO;by_cases h0:n=0
 ·subst h0;go_enter Tryz.func93,Tryz.ntmps93
  go_wp2
  go_ret;exact⟨rfl,rfl⟩
 ·have e:nbk n=(n+7) / 8:=if_neg h0;obtain⟨m,hm⟩:=qM (nbk n);have hm1:1<=m:=qO;have h2:((n:Int)+8-1) / 8=(m:Int):=qO;have hmx:max (m:Int) 1=(m:Int):=qO;rw[hm];have H2:=Lh h2;clear h1 h2 hm e;go_enter Tryz.func93,Tryz.ntmps93
  go_wp2_with fail;go_ret;exact⟨by rw[H2.out];rfl,rfl⟩
theorem NI(w:World)(C:Array Value)(T:TypeId):(w.alloc (.cells C T)).ownsRow w.heap.size 3 1 (.slice none 0 0) 0 (aF []):=World.ownsRow_nil _ _ _ _
theorem bf(w:World)(C:Array Value)(T:TypeId)(v:Value)(h:C[0]? =some v):(w.alloc (.cells C T)).cell? ⟨w.heap.size,0,none⟩=some v:=by
 rw[cell_of_row _ _ 0 _ _ _ (World.alloc_heap_new w (.cells C T))];exact h
theorem dt{W W':World}{g:Nat}{v:Value}(hb:Below W.heap.size W W')(hc:W.cell? ⟨g,0,none⟩=some v):W'.cell? ⟨g,0,none⟩=some v:=by
 obtain⟨ob,ho,_⟩:=cells_of_cell hc;rw[hb.cell (p:=⟨g,0,none⟩) (aE.1 ho).1];exact hc
theorem aY(w:World)(o:Obj):Below w.heap.size w (w.alloc o):=qB.alloc qN _
theorem j9(n:Nat)(w:World)(hn:n<=2000):
  Calls Tryz.prog 53 #[.int .i64 (n:Int)] w fun e w'=>∃x,e=.returned (.tuple #[x,.nilIface])/\IntsV (sM (shp n)) x w'/\Below w.heap.size w w':=by
 have hd:decide ((n:Int)<0)=false:=decide_eq_false qO;have hd2:decide ((2000:Int)<(n:Int))=false:=decide_eq_false qO;have HC:=Lh (xz n w qO);have hb:=eM n hn;have h1:=fE n;have hs:shp n=if 223<nbk n then[223,nbk n-223]else[nbk n]:=rfl;generalize nbk n=m at*;clear hn;by_cases hm:223<m
 ·rw[if_pos hm]at hs;have hd3:decide ((223:Int)<(m:Int))=true:=decide_eq_true qO;have HS:=Lh hs;obtain⟨k,hk⟩:=qM (m-223);have hw:(m:Int)-223=(k:Int):=qO;have HK:=Lh hk;have HW:=Lh hw;obtain⟨w1,hw1⟩:=qM (w.alloc (.cells #[.int .i64 223] 3));have HO1:Hid (w1.ownsRow w.heap.size 3 1 (.slice none 0 0) 0 (aF [])):=Lh (by rw[<-hw1];exact NI _ _ _);have HC1:Hid (w1.cell? ⟨w.heap.size,0,none⟩=some (.int .i64 223)):=Lh (by rw[<-hw1];exact bf w _ _ _ rfl);have HB1:Hid (Below w.heap.size w w1):=Lh (by rw[<-hw1];exact aY _ _);have HW1:=Lh hw1;clear hs hk hw hw1 hm h1;go_enter Tryz.func53,Tryz.ntmps53
  go_wp2_with fail;refine HC.out.mono ?_;rintro e w' ⟨rfl,rfl⟩;go_wp2_with (first|rw[HW1.out]|(at_builtin;refine bC rfl (.tmp 18) (.tmp 19) rfl w'.heap.size _ 0 [] rfl HO1.out _ 223 rfl HC1.out qO HB1.out.size ?_))
  intro v' w2 hv hg;have HB2:=Lh (aw HB1.out HO1.out hg);obtain⟨w3,hw3⟩:=qM (w2.alloc (.cells #[.int .i64 (k:Int)] 3));have HO3:Hid (w3.ownsRow w'.heap.size 3 1 v' 1 (aF [223])):=Lh (by rw[<-hw3];exact World.ownsRow.alloc hv _);have HC3:Hid (w3.cell? ⟨w2.heap.size,0,none⟩=some (.int .i64 (k:Int))):=Lh (by rw[<-hw3];exact bf w2 _ _ _ rfl);have HB3:Hid (Below w'.heap.size w' w3):=Lh (by rw[<-hw3];exact HB2.out.alloc HB2.out.size _);have HW3:=Lh hw3;clear hv hg hw3;go_wp2_with (first|rw[HW.out]|rw[HW3.out]|(at_builtin;refine bC rfl (.tmp 23) (.tmp 25) rfl w'.heap.size _ 1 [223] rfl HO3.out _ (k:Int) rfl HC3.out qO HB3.out.size ?_))
  intro v2 w4 hv hg;have HB4:=Lh (aw HB3.out HO3.out hg);have HV:=Lh (bD hv rfl);clear hv hg;go_wp2_with fail;go_ret2
  exact⟨v2,rfl,by rw[HS.out,HK.out];exact HV.out,HB4.out⟩
 ·rw[if_neg hm]at hs;have hd3:decide ((223:Int)<(m:Int))=false:=decide_eq_false qO;have HS:=Lh hs;obtain⟨w1,hw1⟩:=qM (w.alloc (.cells #[.int .i64 (m:Int)] 3));have HO1:Hid (w1.ownsRow w.heap.size 3 1 (.slice none 0 0) 0 (aF [])):=Lh (by rw[<-hw1];exact NI _ _ _);have HC1:Hid (w1.cell? ⟨w.heap.size,0,none⟩=some (.int .i64 (m:Int))):=Lh (by rw[<-hw1];exact bf w _ _ _ rfl);have HB1:Hid (Below w.heap.size w w1):=Lh (by rw[<-hw1];exact aY _ _);have HW1:=Lh hw1;clear hs hw1 hm h1;go_enter Tryz.func53,Tryz.ntmps53
  go_wp2_with fail;refine HC.out.mono ?_;rintro e w' ⟨rfl,rfl⟩;go_wp2_with (first|rw[HW1.out]|(at_builtin;refine bC rfl (.tmp 23) (.tmp 25) rfl w'.heap.size _ 0 [] rfl HO1.out _ (m:Int) rfl HC1.out qO HB1.out.size ?_))
  intro v' w2 hv hg;have HB2:=Lh (aw HB1.out HO1.out hg);have HV:=Lh (bD hv rfl);clear hv hg;go_wp2_with fail;go_ret2
  exact⟨v',rfl,by rw[HS.out];exact HV.out,HB2.out⟩
theorem eZ(l:List Nat)(k:Nat):bc (l.take k)<=bc l:=by
 have:=nf (l.take k) (l.drop k);rw[List.take_append_drop]at this;omega
theorem fP(l:List Nat)(k:Nat)(h:k<l.length):bc (l.take (k+1))=bc (l.take k)+l.getD k 0:=by
 have e:l.take (k+1)=l.take k++[l.getD k 0]:=by
  rw[List.take_add_one,List.getElem?_eq_getElem h];simp[List.getD_eq_getElem?_getD,List.getElem?_eq_getElem h]
 rw[e,nf];simp
def Xx(l:List Nat)(w:World)(s i:Value)(wr:World):Prop:=∃k:Nat,k<=l.length/\i=.int .i64 k/\s=.int .i64 ((bc (l.take k)+32*k:Nat):Int)/\wr=w
theorem dR{l:List Nat}{W:World}{o:Option Addr}{c:Nat}(h:RowIs W o (aF (sM l)) c)(k:Nat)(hk:k<l.length):
  ∃b off,o=some ⟨b,off,none⟩/\b<W.heap.size/\W.cell? ⟨b,off+k,none⟩=some (.int .i64 ((l.getD k 0:Nat):Int)):=by
 obtain⟨b,off,e,hb,hc⟩:=h.cells (by simp;omega);refine⟨b,off,e,hb,?_⟩;rw[hc k _ (gQ _ k (by simpa using hk)),xy]
theorem yA(l:List Nat)(o:Option Addr)(c:Nat)(w:World)(hR:RowIs w o (aF (sM l)) c)(hl:l.length<=1000)(hs:bc l<=1000000):
  Calls Tryz.prog 63 #[.slice o l.length c] w fun e w'=>e=.returned (.int .i64 ((bc l+32*l.length:Nat):Int))/\w'=w:=by
 have h1:=hR.le;have h2:=hR.cap;simp at h1;unfold maxLen at h2;have HR:=Lh hR;have HS:=Lh hs;clear hR hs;go_enter Tryz.func63,Tryz.ntmps63
 go_wp2_with fail;go_loopw [3,5,8] (fun s _ i wr=>Xx l w s i wr) (fun _ _ i _=>l.length-(intOf i).toNat)
 case atStart=>exact⟨0,Nat.zero_le _,rfl,rfl,rfl⟩
 case round=>
  obtain⟨k,hk,rfl,rfl,rfl⟩:=hrel;by_cases hlt:k<l.length
  ·obtain⟨b,off,rfl,_,hc⟩:=dR HR.out k hlt;have hst:=fP l k hlt;have hle:=eZ l (k+1);have hle2:=HS.out;have HST:=Lh hst;have hk0:(0:Int)<=(k:Int):=qO;have hk1:(k:Int)<(l.length:Int):=qO;obtain⟨s,hs⟩:=qM (bc (l.take k)+32*k);rw[hs];have hs1:s<=2000000:=qO;have hx:l.getD k 0<=1000000:=qO;generalize l.getD k 0=x at*;have HX:Hid (bc (l.take (k+1))+32*(k+1)=s+(x+32)):=Lh qO;clear hst hle hle2 hs;go_wp2_with fail;go_roundw
   case rel=>exact⟨k+1,qO,by go_num,by rw[HX.out];go_num,rfl⟩
   case measure=>simp[intOf];omega
  ·obtain rfl:k=l.length:=qO;rw[List.take_length];go_wp2_with fail;go_ret;exact⟨rfl,rfl⟩
theorem db(n:Nat):bc (shp n)=nbk n:=Ab _
theorem jZ(n:Nat):1<=(shp n).length/\(shp n).length<=2:=GC _
theorem vU(n:Nat)(w:World)(hn:n<=2000):
  Calls Tryz.prog 46 #[.int .i64 (n:Int)] w fun e w'=>e=.returned (.tuple #[.int .i64 ((gi (nbk n):Nat):Int),.nilIface])/\Below w.heap.size w w':=by
 have HS:=Lh (j9 n w hn);have hb:=eM n hn;have hl:=jZ n;have HT:Hid (bc (shp n)+32*(shp n).length=gi (nbk n)):=Lh (by rw[db];rfl);go_enter Tryz.func46,Tryz.ntmps46
 go_wp2_with fail;refine HS.out.mono ?_;rintro e w1 ⟨x,rfl,⟨o,c,rfl,hr⟩,hb1⟩;have htt:=yA (shp n) o c w1 hr qO (by rw[db];omega);rw[HT.out]at htt;have HTT:=Lh htt;have HB:=Lh hb1;rw[bv];clear htt hr hb1 HS;go_wp2_with fail;refine HTT.out.mono ?_;rintro e w2 ⟨rfl,rfl⟩;go_wp2_with fail;go_ret2
 exact⟨rfl,HB.out⟩
def VJ(m:Nat)(w:World)(n v:Value)(wr:World):Prop:=
 Below w.heap.size w wr/\((n=.int .i64 (m:Int)/\wr.ownsRow w.heap.size 3 1 v 0 (aF []))∨(223<m/\n=.int .i64 ((m-223:Nat):Int)/\wr.ownsRow w.heap.size 3 1 v 1 (aF [223])))
theorem gG(n:Nat)(w:World)(hn:n<=2000):
  Calls Tryz.prog 21 #[.int .i64 (n:Int)] w fun e w'=>∃x,e=.returned (.tuple #[x,.int .i64 0])/\IntsV (sM (shp n)) x w'/\Below w.heap.size w w':=by
 have hd:decide ((n:Int)<0)=false:=decide_eq_false qO;have hd2:decide ((2000:Int)<(n:Int))=false:=decide_eq_false qO;have hb:=eM n hn;have h1:=fE n;have hs:shp n=if 223<nbk n then[223,nbk n-223]else[nbk n]:=rfl;have hnb:nbk n=if n=0 then 1 else(n+7) / 8:=rfl;obtain⟨w1,hw1⟩:=qM (w.alloc (.cells #[] 3));have HO1:Hid (w1.ownsRow w.heap.size 3 1 (.slice (some ⟨w.heap.size,0,none⟩) 0 0) 0 (aF [])):=Lh (by rw[<-hw1];exact World.ownsRow_lit w #[] 0 qN (Nat.zero_le _) rfl);have HB1:Hid (Below w.heap.size w w1):=Lh (by rw[<-hw1];exact aY _ _);have HW1:=Lh hw1;have HS:=Lh hs;have HNB:=Lh hnb;obtain⟨m,hm⟩:=qM (nbk n);have HM:=Lh hm;rw[hm]at hb h1;clear hw1 hs hnb;by_cases hr:0<n % 8
 ·have hdr:decide ((0:Int)<(n:Int) % 8)=true:=decide_eq_true qO;have hm2:(n:Int) / 8+1=(m:Int):=by
   rw[<-hm,HNB.out];split<;>omega
  have HM2:=Lh hm2;clear hr hm2 hm;go_enter Tryz.func21,Tryz.ntmps21
  go_wp2_with (first|rw[HW1.out])
  go_loopw [4,5] (fun a v wr=>VJ m w a v wr) (fun a _ _=>(intOf a).toNat)
  case atStart=>exact⟨HB1.out,.inl ⟨by rw[HM2.out],HO1.out⟩⟩
  case round=>
   obtain⟨hb2,⟨rfl,hv⟩|⟨hgt,rfl,hv⟩⟩:=hrel
   ·have HB2:=Lh hb2;have HV2:=Lh hv;by_cases hg:223<m
    ·have hd3:decide ((223:Int)<(m:Int))=true:=decide_eq_true qO;obtain⟨k,hk⟩:=qM (m-223);have HK:=Lh hk;have HW:=Lh (show(m:Int)-223=(k:Int) by omega);have HG:=Lh hg;have hkl:k<m:=qO;obtain⟨w3,hw3⟩:=qM (wr.alloc (.cells #[.int .i64 223] 3));have HO3:Hid (w3.ownsRow w.heap.size 3 1 _ 0 (aF [])):=Lh (by rw[<-hw3];exact World.ownsRow.alloc hv _);have HC3:Hid (w3.cell? ⟨wr.heap.size,0,none⟩=some (.int .i64 223)):=Lh (by rw[<-hw3];exact bf wr _ _ _ rfl);have HB3:Hid (Below w.heap.size w w3):=Lh (by rw[<-hw3];exact hb2.alloc hb2.size _);have HW3:=Lh hw3;clear hb2 hv hg hk hw3;go_wp2_with (first|rw[HW3.out]|rw[HW.out]|(at_builtin;refine bC rfl (.tmp 26) (.tmp 27) rfl w.heap.size _ 0 [] rfl HO3.out _ 223 rfl HC3.out qO HB3.out.size ?_))
     intro v' w4 hv hg;have HB4:=Lh (aw HB3.out HO3.out hg);have HV4:=Lh hv;clear hv hg;go_wp2_with (rw[HW.out])
     go_roundw
     case rel=>exact⟨HB4.out,.inr ⟨HG.out,by rw[HK.out],HV4.out⟩⟩
     case measure=>
      have:=HW.out;simp[intOf];omega
    ·have hd3:decide ((223:Int)<(m:Int))=false:=decide_eq_false qO;have HG:=Lh hg;obtain⟨w3,hw3⟩:=qM (wr.alloc (.cells #[.int .i64 (m:Int)] 3));have HO3:Hid (w3.ownsRow w.heap.size 3 1 _ 0 (aF [])):=Lh (by rw[<-hw3];exact World.ownsRow.alloc hv _);have HC3:Hid (w3.cell? ⟨wr.heap.size,0,none⟩=some (.int .i64 (m:Int))):=Lh (by rw[<-hw3];exact bf wr _ _ _ rfl);have HB3:Hid (Below w.heap.size w w3):=Lh (by rw[<-hw3];exact hb2.alloc hb2.size _);have HW3:=Lh hw3;clear hb2 hv hg hw3;go_wp2_with (first|rw[HW3.out]|(at_builtin;refine bC rfl (.tmp 31) (.tmp 33) rfl w.heap.size _ 0 [] rfl HO3.out _ (m:Int) rfl HC3.out qO HB3.out.size ?_))
     intro v' w4 hv hg;have HB4:=Lh (aw HB3.out HO3.out hg);have HV4:=Lh (bD hv rfl);clear hv hg;go_wp2_with fail;go_ret2
     exact⟨v',rfl,by rw[HS.out,HM.out,if_neg HG.out];exact HV4.out,HB4.out⟩
   ·have HG:=Lh hgt;obtain⟨k,hk⟩:=qM (m-223);rw[hk];have hd3:decide ((223:Int)<(k:Int))=false:=decide_eq_false qO;have HK:=Lh hk;obtain⟨w3,hw3⟩:=qM (wr.alloc (.cells #[.int .i64 (k:Int)] 3));have HO3:Hid (w3.ownsRow w.heap.size 3 1 _ 1 (aF [223])):=Lh (by rw[<-hw3];exact World.ownsRow.alloc hv _);have HC3:Hid (w3.cell? ⟨wr.heap.size,0,none⟩=some (.int .i64 (k:Int))):=Lh (by rw[<-hw3];exact bf wr _ _ _ rfl);have HB3:Hid (Below w.heap.size w w3):=Lh (by rw[<-hw3];exact hb2.alloc hb2.size _);have HW3:=Lh hw3;clear hb2 hv hgt hk hw3;go_wp2_with (first|rw[HW3.out]|(at_builtin;refine bC rfl (.tmp 31) (.tmp 33) rfl w.heap.size _ 1 [223] rfl HO3.out _ (k:Int) rfl HC3.out qO HB3.out.size ?_))
    intro v' w4 hv hg;have HB4:=Lh (aw HB3.out HO3.out hg);have HV4:=Lh (bD hv rfl);clear hv hg;go_wp2_with fail;go_ret2
    exact⟨v',rfl,by rw[HS.out,HM.out,if_pos HG.out,HK.out];exact HV4.out,HB4.out⟩
 ·by_cases h0:n=0
  ·have hm2:(1:Int)=(m:Int):=by
    rw[<-hm,HNB.out,if_pos h0];rfl
   have HM2:=Lh hm2;subst h0;clear hr hm2 hm hd hd2;go_enter Tryz.func21,Tryz.ntmps21
   go_wp2_with (first|rw[HW1.out])
   go_loopw [4,5] (fun a v wr=>VJ m w a v wr) (fun a _ _=>(intOf a).toNat)
   case atStart=>exact⟨HB1.out,.inl ⟨by rw[<-HM2.out],HO1.out⟩⟩
   case round=>
    obtain⟨hb2,⟨rfl,hv⟩|⟨hgt,rfl,hv⟩⟩:=hrel
    ·have HB2:=Lh hb2;have HV2:=Lh hv;by_cases hg:223<m
     ·have hd3:decide ((223:Int)<(m:Int))=true:=decide_eq_true qO;obtain⟨k,hk⟩:=qM (m-223);have HK:=Lh hk;have HW:=Lh (show(m:Int)-223=(k:Int) by omega);have HG:=Lh hg;have hkl:k<m:=qO;obtain⟨w3,hw3⟩:=qM (wr.alloc (.cells #[.int .i64 223] 3));have HO3:Hid (w3.ownsRow w.heap.size 3 1 _ 0 (aF [])):=Lh (by rw[<-hw3];exact World.ownsRow.alloc hv _);have HC3:Hid (w3.cell? ⟨wr.heap.size,0,none⟩=some (.int .i64 223)):=Lh (by rw[<-hw3];exact bf wr _ _ _ rfl);have HB3:Hid (Below w.heap.size w w3):=Lh (by rw[<-hw3];exact hb2.alloc hb2.size _);have HW3:=Lh hw3;clear hb2 hv hg hk hw3;go_wp2_with (first|rw[HW3.out]|rw[HW.out]|(at_builtin;refine bC rfl (.tmp 26) (.tmp 27) rfl w.heap.size _ 0 [] rfl HO3.out _ 223 rfl HC3.out qO HB3.out.size ?_))
      intro v' w4 hv hg;have HB4:=Lh (aw HB3.out HO3.out hg);have HV4:=Lh hv;clear hv hg;go_wp2_with (rw[HW.out])
      go_roundw
      case rel=>exact⟨HB4.out,.inr ⟨HG.out,by rw[HK.out],HV4.out⟩⟩
      case measure=>
       have:=HW.out;simp[intOf];omega
     ·have hd3:decide ((223:Int)<(m:Int))=false:=decide_eq_false qO;have HG:=Lh hg;obtain⟨w3,hw3⟩:=qM (wr.alloc (.cells #[.int .i64 (m:Int)] 3));have HO3:Hid (w3.ownsRow w.heap.size 3 1 _ 0 (aF [])):=Lh (by rw[<-hw3];exact World.ownsRow.alloc hv _);have HC3:Hid (w3.cell? ⟨wr.heap.size,0,none⟩=some (.int .i64 (m:Int))):=Lh (by rw[<-hw3];exact bf wr _ _ _ rfl);have HB3:Hid (Below w.heap.size w w3):=Lh (by rw[<-hw3];exact hb2.alloc hb2.size _);have HW3:=Lh hw3;clear hb2 hv hg hw3;go_wp2_with (first|rw[HW3.out]|(at_builtin;refine bC rfl (.tmp 31) (.tmp 33) rfl w.heap.size _ 0 [] rfl HO3.out _ (m:Int) rfl HC3.out qO HB3.out.size ?_))
      intro v' w4 hv hg;have HB4:=Lh (aw HB3.out HO3.out hg);have HV4:=Lh (bD hv rfl);clear hv hg;go_wp2_with fail;go_ret2
      exact⟨v',rfl,by rw[HS.out,HM.out,if_neg HG.out];exact HV4.out,HB4.out⟩
    ·have HG:=Lh hgt;obtain⟨k,hk⟩:=qM (m-223);rw[hk];have hd3:decide ((223:Int)<(k:Int))=false:=decide_eq_false qO;have HK:=Lh hk;obtain⟨w3,hw3⟩:=qM (wr.alloc (.cells #[.int .i64 (k:Int)] 3));have HO3:Hid (w3.ownsRow w.heap.size 3 1 _ 1 (aF [223])):=Lh (by rw[<-hw3];exact World.ownsRow.alloc hv _);have HC3:Hid (w3.cell? ⟨wr.heap.size,0,none⟩=some (.int .i64 (k:Int))):=Lh (by rw[<-hw3];exact bf wr _ _ _ rfl);have HB3:Hid (Below w.heap.size w w3):=Lh (by rw[<-hw3];exact hb2.alloc hb2.size _);have HW3:=Lh hw3;clear hb2 hv hgt hk hw3;go_wp2_with (first|rw[HW3.out]|(at_builtin;refine bC rfl (.tmp 31) (.tmp 33) rfl w.heap.size _ 1 [223] rfl HO3.out _ (k:Int) rfl HC3.out qO HB3.out.size ?_))
     intro v' w4 hv hg;have HB4:=Lh (aw HB3.out HO3.out hg);have HV4:=Lh (bD hv rfl);clear hv hg;go_wp2_with fail;go_ret2
     exact⟨v',rfl,by rw[HS.out,HM.out,if_pos HG.out,HK.out];exact HV4.out,HB4.out⟩
  ·have hdr:decide ((0:Int)<(n:Int) % 8)=false:=decide_eq_false qO;have hd0:((n:Int)==0)=false:=beq_false_of_ne qO;have hd00:decide ((n:Int)=0)=false:=decide_eq_false qO;have hm2:(n:Int) / 8=(m:Int):=by
    rw[<-hm,HNB.out,if_neg h0];omega
   have HM2:=Lh hm2;clear hr hm2 hm h0;go_enter Tryz.func21,Tryz.ntmps21
   go_wp2_with (first|rw[HW1.out])
   go_loopw [4,5] (fun a v wr=>VJ m w a v wr) (fun a _ _=>(intOf a).toNat)
   case atStart=>exact⟨HB1.out,.inl ⟨by rw[HM2.out],HO1.out⟩⟩
   case round=>
    obtain⟨hb2,⟨rfl,hv⟩|⟨hgt,rfl,hv⟩⟩:=hrel
    ·have HB2:=Lh hb2;have HV2:=Lh hv;by_cases hg:223<m
     ·have hd3:decide ((223:Int)<(m:Int))=true:=decide_eq_true qO;obtain⟨k,hk⟩:=qM (m-223);have HK:=Lh hk;have HW:=Lh (show(m:Int)-223=(k:Int) by omega);have HG:=Lh hg;have hkl:k<m:=qO;obtain⟨w3,hw3⟩:=qM (wr.alloc (.cells #[.int .i64 223] 3));have HO3:Hid (w3.ownsRow w.heap.size 3 1 _ 0 (aF [])):=Lh (by rw[<-hw3];exact World.ownsRow.alloc hv _);have HC3:Hid (w3.cell? ⟨wr.heap.size,0,none⟩=some (.int .i64 223)):=Lh (by rw[<-hw3];exact bf wr _ _ _ rfl);have HB3:Hid (Below w.heap.size w w3):=Lh (by rw[<-hw3];exact hb2.alloc hb2.size _);have HW3:=Lh hw3;clear hb2 hv hg hk hw3;go_wp2_with (first|rw[HW3.out]|rw[HW.out]|(at_builtin;refine bC rfl (.tmp 26) (.tmp 27) rfl w.heap.size _ 0 [] rfl HO3.out _ 223 rfl HC3.out qO HB3.out.size ?_))
      intro v' w4 hv hg;have HB4:=Lh (aw HB3.out HO3.out hg);have HV4:=Lh hv;clear hv hg;go_wp2_with (rw[HW.out])
      go_roundw
      case rel=>exact⟨HB4.out,.inr ⟨HG.out,by rw[HK.out],HV4.out⟩⟩
      case measure=>
       have:=HW.out;simp[intOf];omega
     ·have hd3:decide ((223:Int)<(m:Int))=false:=decide_eq_false qO;have HG:=Lh hg;obtain⟨w3,hw3⟩:=qM (wr.alloc (.cells #[.int .i64 (m:Int)] 3));have HO3:Hid (w3.ownsRow w.heap.size 3 1 _ 0 (aF [])):=Lh (by rw[<-hw3];exact World.ownsRow.alloc hv _);have HC3:Hid (w3.cell? ⟨wr.heap.size,0,none⟩=some (.int .i64 (m:Int))):=Lh (by rw[<-hw3];exact bf wr _ _ _ rfl);have HB3:Hid (Below w.heap.size w w3):=Lh (by rw[<-hw3];exact hb2.alloc hb2.size _);have HW3:=Lh hw3;clear hb2 hv hg hw3;go_wp2_with (first|rw[HW3.out]|(at_builtin;refine bC rfl (.tmp 31) (.tmp 33) rfl w.heap.size _ 0 [] rfl HO3.out _ (m:Int) rfl HC3.out qO HB3.out.size ?_))
      intro v' w4 hv hg;have HB4:=Lh (aw HB3.out HO3.out hg);have HV4:=Lh (bD hv rfl);clear hv hg;go_wp2_with fail;go_ret2
      exact⟨v',rfl,by rw[HS.out,HM.out,if_neg HG.out];exact HV4.out,HB4.out⟩
    ·have HG:=Lh hgt;obtain⟨k,hk⟩:=qM (m-223);rw[hk];have hd3:decide ((223:Int)<(k:Int))=false:=decide_eq_false qO;have HK:=Lh hk;obtain⟨w3,hw3⟩:=qM (wr.alloc (.cells #[.int .i64 (k:Int)] 3));have HO3:Hid (w3.ownsRow w.heap.size 3 1 _ 1 (aF [223])):=Lh (by rw[<-hw3];exact World.ownsRow.alloc hv _);have HC3:Hid (w3.cell? ⟨wr.heap.size,0,none⟩=some (.int .i64 (k:Int))):=Lh (by rw[<-hw3];exact bf wr _ _ _ rfl);have HB3:Hid (Below w.heap.size w w3):=Lh (by rw[<-hw3];exact hb2.alloc hb2.size _);have HW3:=Lh hw3;clear hb2 hv hgt hk hw3;go_wp2_with (first|rw[HW3.out]|(at_builtin;refine bC rfl (.tmp 31) (.tmp 33) rfl w.heap.size _ 1 [223] rfl HO3.out _ (k:Int) rfl HC3.out qO HB3.out.size ?_))
     intro v' w4 hv hg;have HB4:=Lh (aw HB3.out HO3.out hg);have HV4:=Lh (bD hv rfl);clear hv hg;go_wp2_with fail;go_ret2
     exact⟨v',rfl,by rw[HS.out,HM.out,if_pos HG.out,HK.out];exact HV4.out,HB4.out⟩
