/- Ly -/
import Derived.Test.YteldgablpehcpaaGreatDoorTr
import Derived.Lib.SmallJoins
import Derived.Lib.ConvBytes
set_option linter.unusedVariables false
set_option linter.unusedSimpArgs false
set_option maxRecDepth 100000
set_option maxHeartbeats 8000000
namespace Go.Proofs.YteldgablpehcpaaGreatDoor
open Go.RowKit
namespace Da
def bQ(n:Int):BL:=be8 (n % 18446744073709551616).toNat
def lw(c:UInt8):Bool:=decide (97<=c.toNat)&&decide (c.toNat<=122)
def aj(n:Nat):Bool:=decide (16<=n)&&decide (n<=64)
def inR(n:Int):Bool:=decide (0<=n)&&decide (n<=1099511627776)
def kI(k s:BL)(n:Int):BL:=eX k (s++0::bQ n)
theorem a8(n:Int):(bQ n).length=8:=fx _
theorem dB(k s:BL)(n:Int):(kI k s n).length=32:=ay _ _
def nbp(m j:Nat):BL:=(List.range 8).map fun i=>if 7-i<j then UInt8.ofNat (m / 256^(7-i))else 0
theorem vH(m j:Nat):(nbp m j).length=8:=by simp[nbp]
theorem Av(m:Nat):nbp m 0=List.replicate 8 0:=by
 refine List.ext_getElem (by simp[nbp]) fun j h1 h2=>?_
 rw[List.getElem_replicate];simp only[nbp,List.getElem_map,Nat.not_lt_zero,if_false]
theorem GZ(m:Nat):nbp m 8=be8 m:=by
 unfold nbp be8;refine List.map_congr_left fun q hq=>?_
 rw[if_pos qO]
theorem Aw(m j:Nat)(hj:j<8):(nbp m j).set (7-j) (UInt8.ofNat (m / 256^j))=nbp m (j+1):=by
 refine List.ext_getElem (by simp[nbp]) fun i h1 h2=>?_
 have hi:i<8:=by simpa[nbp]using h1
 simp only[nbp,List.getElem_set,List.getElem_map,List.getElem_range];by_cases e:7-j=i
 ·rw[if_pos e,if_pos qO,show 7-i=j by omega]
 ·rw[if_neg e];by_cases e2:7-i<j
  ·rw[if_pos e2,if_pos (show 7-i<j+1 by omega)]
  ·rw[if_neg e2,if_neg (show ¬7-i<j+1 by omega)]
end Da
theorem Ax(o:Option Addr)(n c:Nat)(w:World):Calls Tryz.prog 55 #[.slice o n c] w fun e w'=>e=.returned (.bool (Da.aj n))/\w'=w:=by
 by_cases h1:16<=n
 ·have hd1:decide ((n:Int)>=16)=true:=by simp;omega
  by_cases h2:n<=64
  ·have hd2:decide ((n:Int)<=64)=true:=by simp;omega
   have hr:Da.aj n=true:=by simp[Da.aj,h1,h2]
   rw[hr];go_enter Tryz.func55,Tryz.ntmps55
   go_wp2_with fail;go_ret;exact⟨rfl,rfl⟩
  ·have hd2:decide ((n:Int)<=64)=false:=by simp;omega
   have hr:Da.aj n=false:=by simp[Da.aj,h2]
   rw[hr];go_enter Tryz.func55,Tryz.ntmps55
   go_wp2_with fail;go_ret;exact⟨rfl,rfl⟩
 ·have hd1:decide ((n:Int)>=16)=false:=by simp;omega
  have hr:Da.aj n=false:=by simp[Da.aj,h1]
  rw[hr];go_enter Tryz.func55,Tryz.ntmps55
  go_wp2_with fail;go_ret;exact⟨rfl,rfl⟩
theorem Ay(n:Int)(w:World):Calls Tryz.prog 56 #[.int .i64 n] w fun e w'=>e=.returned (.bool (Da.inR n))/\w'=w:=by
 by_cases h1:0<=n
 ·have hd1:decide (n>=0)=true:=by simp;omega
  by_cases h2:n<=1099511627776
  ·have hd2:decide (n<=1099511627776)=true:=by simp;omega
   have hr:Da.inR n=true:=by simp[Da.inR,h1,h2]
   rw[hr];go_enter Tryz.func56,Tryz.ntmps56
   go_wp2_with fail;go_ret;exact⟨rfl,rfl⟩
  ·have hd2:decide (n<=1099511627776)=false:=by simp;omega
   have hr:Da.inR n=false:=by simp[Da.inR,h2]
   rw[hr];go_enter Tryz.func56,Tryz.ntmps56
   go_wp2_with fail;go_ret;exact⟨rfl,rfl⟩
 ·have hd1:decide (n>=0)=false:=by simp;omega
  have hr:Da.inR n=false:=by simp[Da.inR,h1]
  rw[hr];go_enter Tryz.func56,Tryz.ntmps56
  go_wp2_with fail;go_ret;exact⟨rfl,rfl⟩
def Xh(m g:Nat)(w:World)(i l:Value)(wr:World):Prop:=
 ∃j:Nat,j<=8/\i=.int .i64 (7-(j:Int))/\l=.int .u64 ((m / 256^j:Nat):Int)/\Arr wr g 65 (bytesV (Da.nbp m j))/\Below w.heap.size w wr
theorem Qc(Z:Array Value)(hZ:Z=(bytesV (List.replicate 8 0)).toArray)(hzs:∀w,Sem.run Tryz.prog (zeroValue 65) w=.ok (.agg Z) w)(n:Int)(w:World):
  Calls Tryz.prog 91 #[.int .i64 n] w fun e w'=>e=.returned (.slice (some ⟨w.heap.size,0,none⟩) 8 8)/\Arr w' w.heap.size 65 (bytesV (Da.bQ n))/\Below w.heap.size w w':=by
 obtain⟨g,hg⟩:=qM w.heap.size;obtain⟨W1,hW1⟩:=qM (w.alloc (Obj.cells Z 65));obtain⟨m,hm⟩:=qM ((n % 18446744073709551616).toNat);have hwr:IntKind.u64.wrap n=(m:Int):=by rw[IntKind.wrap_u64];omega
 have hml:m<18446744073709551616:=qO;have HB1:Hid (Below w.heap.size w W1):=Lh (by rw[<-hW1];exact qB.alloc qN _);have HX0:Hid (Xh m g w (.int .i64 7) (.int .u64 (m:Int)) W1):=Lh ⟨0,qO,rfl,by rw[Nat.pow_zero,Nat.div_one],by rw[Da.Av,<-hW1,hZ,<-hg];exact Arr.made _ _ _,HB1.out⟩;have HM:Hid (Da.bQ n=Da.nbp m 8):=Lh (by rw[Da.GZ,<-hm];rfl);have HW1:=Lh hW1;have HG:=Lh hg;clear hW1 hm hZ hg;go_enter Tryz.func91,Tryz.ntmps91
 go_wp2_with (first|rw[HW1.out,HG.out])
 go_loopw [4,5] (fun i l wr=>Xh m g w i l wr) (fun i _ _=>(intOf i+1).toNat)
 case atStart=>exact HX0.out
 case round=>
  obtain⟨j,hj,rfl,rfl,hA,hB⟩:=hrel;by_cases hlt:j<8
  ·have hd1:decide ((7:Int)-(j:Int)>=0)=true:=by simp;omega
   obtain⟨p,hp⟩:=qM (7-j);obtain⟨q,hq⟩:=qM (m / 256^j);have hql:q<18446744073709551616:=by rw[<-hq];exact Nat.lt_of_le_of_lt (Nat.div_le_self _ _) hml
   have hpi:(7:Int)-(j:Int)=(p:Int):=qO;obtain⟨y,hy⟩:=qM ((Da.nbp m j).getD p 0);have hc:wr.cell? ⟨g,p,none⟩=some (.int .u8 (y.toNat:Int)):=by rw[hA.cell,<-hy];exact aB _ _ (by rw[Da.vH];omega)
   have hfz:=hA.frozen p;have HA:=Lh hA;have HB:=Lh hB;have HQ:=Lh hq;have HP:=Lh hp;have hpl:p<8:=qO;rw[hpi,hq];rw[hpi]at hd1;clear hA hB hq hp hy HX0 HB1 HW1 hwr;go_wp2_with fail;refine⟨⟨j+1,qO,by go_num,by rw[Nat.pow_succ,<-Nat.div_div_eq_div_mul,HQ.out];rfl,?_,HA.out.below HB.out (by have:=HG.out;omega) _ _⟩,by simp[intOf]⟩;rw[<-Da.Aw m j hlt,HP.out,HQ.out,<-dP,show((q:Int) % 256)=((UInt8.ofNat q).toNat:Int) from by rw[UInt8.toNat_ofNat'];omega];exact HA.out.set p _
  ·obtain rfl:j=8:=qO;have hd1:decide ((7:Int)-((8:Nat):Int)>=0)=false:=qD;have HA:=Lh hA;have HB:=Lh hB;clear hA hB HX0 HB1 HW1 hwr;go_wp2_with fail;go_ret;exact⟨by rw[HG.out];rfl,by rw[HM.out,HG.out];exact HA.out,HB.out⟩
theorem Az(n:Int)(w:World):
  Calls Tryz.prog 91 #[.int .i64 n] w fun e w'=>e=.returned (.slice (some ⟨w.heap.size,0,none⟩) 8 8)/\Arr w' w.heap.size 65 (bytesV (Da.bQ n))/\Below w.heap.size w w':=Qc _ rfl GQ n w
structure KO(k:BL)(n:Int)(b:Nat)(W:World):Prop where
 key:∃p,Arr W b 115 [.pointer (some ⟨p,0,none⟩)]/\Arr W p 179 (bytesV (Da.fil k))
 num:∃q,Arr W (b+1) 22 [.slice (some ⟨q,0,none⟩) 8 8]/\Arr W q 65 (bytesV (Da.bQ n))
theorem KO.later{k:BL}{n:Int}{b:Nat}{W W':World}(h:KO k n b W)(hb:Below W.heap.size W W'):KO k n b W':=by
 obtain⟨⟨p,h1,h2⟩,⟨q,h3,h4⟩⟩:=h;exact⟨⟨p,h1.later hb h1.lt,h2.later hb h2.lt⟩,⟨q,h3.later hb h3.lt,h4.later hb h4.lt⟩⟩
theorem vI(k:BL)(o:Option Addr)(c:Nat)(n:Int)(w:World)(hR:RowIs w o (bytesV k) c)(hV:Cds w)(hl:k.length<=900000):
  Calls Tryz.prog 57 #[.slice o k.length c,.int .i64 n] w fun e w'=>∃b,e=.returned (.func (.func 94) #[] #[.pointer (some ⟨b,0,none⟩),.pointer (some ⟨b+1,0,none⟩)])/\KO k n b w'/\Below w.heap.size w w':=by
 have hmf:= @makes Tryz.prog;have KM:=Lh (gV k o c w hR hV hl);clear hR hV;go_enter Tryz.func57,Tryz.ntmps57
 go_wp2_with fail;refine KM.out.mono ?_;rintro e W1 ⟨rfl,hk,hb1⟩;obtain⟨p,hp⟩:=qM w.heap.size;rw[hp]at hk;have HK:=Lh hk;have HB1:=Lh hb1;have HP:=Lh hp;rw[hp];clear hk hb1 KM hp;go_wp2_with fail;refine(Az n W1).mono ?_;rintro e W2 ⟨rfl,hn,hb2⟩;have HB2:=Lh (Ks HB1.out hb2);have HK2:=Lh (HK.out.later hb2 HK.out.lt);have HN:=Lh hn;obtain⟨q,hq⟩:=qM W1.heap.size;rw[hq]at HN⊢;clear hn hb2 HK HB1 hq;go_wp2_with fail;go_ret;have hA1:Arr (W2.alloc (.cells #[.pointer (some ⟨p,0,none⟩)] 115)) W2.heap.size 115 [.pointer (some ⟨p,0,none⟩)]:=Arr.made _ _ _;have hA2:Arr ((W2.alloc (.cells #[.pointer (some ⟨p,0,none⟩)] 115)).alloc (.cells #[.slice (some ⟨q,0,none⟩) 8 8] 22)) (W2.alloc (.cells #[.pointer (some ⟨p,0,none⟩)] 115)).heap.size 22 [.slice (some ⟨q,0,none⟩) 8 8]:=Arr.made _ _ _;rw[World.size_alloc]at hA2;refine⟨_,rfl,⟨⟨p,hA1.alloc _,(HK2.out.alloc _).alloc _⟩,⟨q,hA2,(HN.out.alloc _).alloc _⟩⟩,?_⟩;exact(HB2.out.alloc HB2.out.size _).alloc (by rw[World.size_alloc];have:=HB2.out.size;omega) _
theorem BC{w:World}{a1 a2 a3:Option Addr}{c1 c2 c3:Nat}{x y z:BL}(h1:RowIs w a1 (bytesV x) c1)(h2:RowIs w a2 (bytesV y) c2)(h3:RowIs w a3 (bytesV z) c3):
  RbIs (w.alloc (.cells #[.slice a1 x.length c1,.slice a2 y.length c2,.slice a3 z.length c3] 22)) (some ⟨w.heap.size,0,none⟩) [x,y,z] 3:=
 have hA:Arr (w.alloc (.cells #[.slice a1 x.length c1,.slice a2 y.length c2,.slice a3 z.length c3] 22)) w.heap.size 22 [.slice a1 x.length c1,.slice a2 y.length c2,.slice a3 z.length c3]:=Arr.made _ _ _;have hb:Below w.heap.size w (w.alloc (.cells #[.slice a1 x.length c1,.slice a2 y.length c2,.slice a3 z.length c3] 22)):=qB.alloc qN _
 ⟨[.slice a1 x.length c1,.slice a2 y.length c2,.slice a3 z.length c3],⟨qS,by unfold maxLen;decide,fun h=>by(cases h),fun h0=>⟨w.heap.size,0,rfl,hA.lt,fun i v hv=>by rw[Nat.zero_add,hA.cell];exact hv⟩⟩,
  ((Els.one ⟨a1,c1,rfl,h1.later hb⟩).app (Els.one ⟨a2,c2,rfl,h2.later hb⟩)).app (Els.one ⟨a3,c3,rfl,h3.later hb⟩)⟩
theorem Me(w:World)(s:ByteArray)(hl:s.size<=1000000):
  ∃c,(convert 9 22 (.string s)).run Tryz.prog w=.ok (.slice (some ⟨w.heap.size,0,none⟩) s.size c) (Lib.bytesWorld w 5 s)/\
   RowIs (Lib.bytesWorld w 5 s) (some ⟨w.heap.size,0,none⟩) (bytesV s.data.toList) c/\Below w.heap.size w (Lib.bytesWorld w 5 s):=by
 have hsl:s.data.toList.length=s.size:=rfl;have h1:=grownCap_ge w s.size 0 5;have h2:=grownCap_le_maxLen w s.size 0 5 (by unfold maxLen;omega);refine⟨_,Lib.run_convert_string_bytes w _ _ 5 s Tryz.underlying9 Tryz.underlying22 Tryz.underlying5,⟨by rw[bytesV_length,hsl];exact h1,h2,fun h=>by(cases h),fun h0=>⟨w.heap.size,0,rfl,by rw[Lib.bytesWorld_size];omega,fun i v hv=>?_⟩⟩,Joins.below_bytesWorld _ _ _ _ qN⟩;have hi:i<s.size:=by have:=(List.getElem?_eq_some_iff.1 hv).1;rwa[bytesV_length,hsl]at this
 rw[Nat.zero_add,Lib.bytesWorld_cell w _ s i hi,<-hv];exact(aB _ _ hi).symm
theorem VA(Z:Array Value)(hZ:Z=(bytesV (List.replicate 32 0)).toArray)(hzs:∀w,Sem.run Tryz.prog (zeroValue 44) w=.ok (.agg Z) w)(k:BL)(n:Int)(b:Nat)(s:ByteArray)(hs:s.size<=1000)(w:World)(hO:KO k n b w)(hV:Cds w):
  Calls Tryz.prog 94 #[.string s,.pointer (some ⟨b,0,none⟩),.pointer (some ⟨b+1,0,none⟩)] w fun e w'=>∃g,e=.returned (.slice (some ⟨g,0,none⟩) 32 32)/\w.heap.size<=g/\Arr w' g 44 (bytesV (Da.kI k s.data.toList n))/\Below w.heap.size w w':=by
 obtain⟨⟨p,hk1,hk2⟩,⟨q,hn1,hn2⟩⟩:=hO;obtain⟨c,hcv,hrow,hb1⟩:=Me w s qO;obtain⟨W1,hW1⟩:=qM (Lib.bytesWorld w 5 s);rw[hW1]at hcv hrow hb1;obtain⟨W2,hW2⟩:=qM (W1.alloc (.cells #[.int .u8 0] 5));have hb2:Below W1.heap.size W1 W2:=by rw[<-hW2];exact qB.alloc qN _
 have hr2:RowIs W2 (some ⟨W1.heap.size,0,none⟩) (bytesV [0]) 1:=by
  rw[<-hW2];exact Arr.row (z:=[0]) (Arr.made _ _ _) (by unfold maxLen;decide)
 have hB2:=Ks hb1 hb2;have hq2:=(hn1.later hB2 hn1.lt).cell 0;have hrn:=(hn2.later hB2 hn2.lt).row (by rw[Da.a8];unfold maxLen;decide);rw[Da.a8]at hrn;obtain⟨W3,hW3⟩:=qM (W2.alloc (.cells #[.slice (some ⟨w.heap.size,0,none⟩) s.size c,.slice (some ⟨W1.heap.size,0,none⟩) 1 1,.slice (some ⟨q,0,none⟩) 8 8] 22));have hb3:Below W2.heap.size W2 W3:=by rw[<-hW3];exact qB.alloc qN _
 have hB3:=Ks hB2 hb3;have hR3:RbIs W3 (some ⟨W2.heap.size,0,none⟩) [s.data.toList,[0],Da.bQ n] 3:=by
  have:=BC (hrow.later hb2) hr2 hrn;rw[Da.a8,show s.data.toList.length=s.size from rfl,show([0]:BL).length=1 from rfl,hW3]at this;exact this
 have KO1:=qy k p [s.data.toList,[0],Da.bQ n] (some ⟨W2.heap.size,0,none⟩) 3 W3 (hk2.later hB3 hk2.lt) hR3 (hV.later hB3) (by simp[Da.a8];omega) qS;rw[show([s.data.toList,[0],Da.bQ n]:L8).flatten=s.data.toList++0::Da.bQ n by simp,show Da.eX k (s.data.toList++0::Da.bQ n)=Da.kI k s.data.toList n from rfl]at KO1;obtain⟨h,hh⟩:=qM (Da.kI k s.data.toList n);have hhl:h.length=32:=by rw[<-hh];exact Da.dB _ _ _
 obtain⟨E,hE⟩:=qM ((bytesV h).toArray);rw[hh,hE]at KO1;have HKO:=Lh KO1;have HES:Hid ((Tryz.prog.info? 44).map (·.size)=some E.size):=Lh (by rw[bJ,<-hE];simp[hhl]);have HEO:Hid (E.all (·.oneCell')=true):=Lh (by rw[<-hE];exact all_oneCell_toArray (aG _));have HEZ:Hid (Z.size=E.size):=Lh (by rw[hZ,<-hE];simp[hhl]);have hc1:w.cell? ⟨b,0,none⟩=some (.pointer (some ⟨p,0,none⟩)):=hk1.cell 0;have hc2:W2.cell? ⟨b+1,0,none⟩=some (.slice (some ⟨q,0,none⟩) 8 8):=hq2;have HB3:=Lh hB3;have HW1:=Lh hW1;have HW2:=Lh hW2;have HW3:=Lh hW3;have HE:=Lh hE;have HCV:=Lh hcv;rw[hh];clear hk1 hk2 hn1 hn2 hrow hb1 hW1 hW2 hW3 hb2 hr2 hB2 hq2 hrn hb3 hB3 hR3 KO1 hE hhl hZ hV hcv hh;go_enter Tryz.func94,Tryz.ntmps94
 go_upto_region 1 with fail
 apply wp_region_lit;refine qP ?_;refine qP ?_;refine wpList_plain rfl (fun K hK=>?_);have hcv:=HCV.out;go_simp;refine hK _ _ ?_;clear hK K hcv;refine qP ?_;rw[HW2.out];refine qP ?_;refine qP ?_;rw[HW3.out];refine wpList_plain rfl (fun K hK=>?_);go_simp;refine HKO.out.mono ?_;rintro e W4 ⟨rfl,hb4⟩;refine hK _ _ ?_;clear hK K HKO;obtain⟨W5,hW5⟩:=qM (W4.alloc (.cells Z 44));obtain⟨W6,hW6⟩:=qM (W5.setRow W4.heap.size E);have hA5:Arr W5 W4.heap.size 44 Z.toList:=by rw[<-hW5];exact Arr.made _ _ _
 have hA6:Arr W6 W4.heap.size 44 (bytesV h):=by rw[<-hW6,<-HE.out];exact setRow_heap _ _ _ _ _ _ hA5
 have hb6:Below W4.heap.size W4 W6:=by rw[<-hW6,<-hW5];exact(qB.alloc qN _).trans (aA qN)
 have HA5:Hid (W5.heap[W4.heap.size]? =some (.cells Z 44 (0,0))):=Lh hA5;have HA6:=Lh hA6;have HLE:Hid (w.heap.size<=W4.heap.size):=Lh (Ks HB3.out hb4).size;have HB6:=Lh (Ks (Ks HB3.out hb4) hb6);have HW5:=Lh hW5;have HW6:=Lh hW6;clear hW5 hW6 hA5 hA6 hb6 hb4;refine qP ?_;rw[HW5.out];refine wpList_store_row rfl 44 (.tmp 5) (.tmp 12) rfl W4.heap.size E rfl rfl 44 Z HA5.out HES.out HEZ.out HEO.out ?_;rw[HW6.out];go_wp2_with fail;go_ret;exact⟨_,rfl,HLE.out,HA6.out,HB6.out⟩
theorem G0(k:BL)(n:Int)(b:Nat)(s:ByteArray)(hs:s.size<=1000)(w:World)(hO:KO k n b w)(hV:Cds w):
  Calls Tryz.prog 94 #[.string s,.pointer (some ⟨b,0,none⟩),.pointer (some ⟨b+1,0,none⟩)] w fun e w'=>∃g,e=.returned (.slice (some ⟨g,0,none⟩) 32 32)/\w.heap.size<=g/\Arr w' g 44 (bytesV (Da.kI k s.data.toList n))/\Below w.heap.size w w':=
 VA _ rfl dg_zero k n b s hs w hO hV
namespace Da
def dN(m r:Bool):Nat:=if m then(if r then 0 else 1)else 9
def pv(b:Nat)(x:BL):BL:=if b=0 then x else[]
end Da
def eD(A:Nat->Addr)(b:Nat):Value:=if b=0 then .nilIface else .iface 302 (.pointer (some (A (b-1))))
namespace Er
theorem Mf{W:World}{g:Nat}{v:Value}(hc:W.cell? ⟨g,0,none⟩=some v):g<W.heap.size:=by
 unfold World.cell? at hc;cases hh:W.heap[g]? with
 |none=>simp[hh]at hc
 |some o=>exact(aE.1 hh).1
theorem cell_later{W W':World}{g:Nat}{v:Value}(hc:W.cell? ⟨g,0,none⟩=some v)(hb:Below W.heap.size W W'):W'.cell? ⟨g,0,none⟩=some v:=by
 have hlt:g<W.heap.size:=by
  unfold World.cell? at hc;cases hh:W.heap[g]? with
  |none=>simp[hh]at hc
  |some o=>exact(aE.1 hh).1
 rw[hb.cell (p:=⟨g,0,none⟩) hlt];exact hc
structure E9a(W:World)(A:Nat->Addr):Prop where
 c0:W.cell? ⟨2,0,none⟩=some (.iface 302 (.pointer (some (A 0))))
 c8:W.cell? ⟨8,0,none⟩=some (.iface 302 (.pointer (some (A 8))))
theorem E9a.later{W W':World}{A:Nat->Addr}(h:E9a W A)(hb:Below W.heap.size W W'):E9a W' A:=⟨cell_later h.c0 hb,cell_later h.c8 hb⟩
end Er
theorem RowV.nil(w:World):RowV [] (.slice none 0 0) w:=⟨none,0,rfl,RowIs.empty none 0 (Nat.zero_le _) (fun _=>rfl)⟩
namespace Da
def Tp:BL:=[109,97,115,107]
def Mg:BL:=[112,108,97,99,101]
def Tq:BL:=[115,101,110,116,105,110,101,108]
def Xj:BL:=[116,97,103]
def Ts:BL:=[115,112,111,116]
def dp(k:BL)(n:Int):L8:=[kI k Tp n,kI k Mg n,kI k Tq n,kI k Xj n,kI k Ts n]
def lR(b:Nat)(l:L8):L8:=if b=0 then l else[[],[],[],[],[]]
end Da
theorem kT:(Tryz.prog.info? 82).map (·.size)=some 5:=qK
def eY:List Value:=[.slice none 0 0,.slice none 0 0,.slice none 0 0,.slice none 0 0,.slice none 0 0]
theorem rH(w:World):Sem.run Tryz.prog (zeroValue 82) w=.ok (.agg eY.toArray) w:=qK
theorem Ih: Tryz.prog.built 82 []=some eY.toArray:=qK
theorem Mh(o0 o1 o2 o3 o4:Option Addr)(l0 l1 l2 l3 l4 c0 c1 c2 c3 c4:Nat):
  Tryz.prog.built 82 [(0,.slice o0 l0 c0),(1,.slice o1 l1 c1),(2,.slice o2 l2 c2),(3,.slice o3 l3 c3),(4,.slice o4 l4 c4)]=some [.slice o0 l0 c0,.slice o1 l1 c1,.slice o2 l2 c2,.slice o3 l3 c3,.slice o4 l4 c4].toArray:=qK
theorem yw(o0 o1 o2 o3 o4:Option Addr)(l0 l1 l2 l3 l4 c0 c1 c2 c3 c4:Nat):
  ([.slice o0 l0 c0,.slice o1 l1 c1,.slice o2 l2 c2,.slice o3 l3 c3,.slice o4 l4 c4]:List Value).toArray.all (·.oneCell')=true:=
 all_oneCell_toArray (fun v hv=>by
  simp only[List.mem_cons,List.not_mem_nil,or_false]at hv;rcases hv with rfl|rfl|rfl|rfl|rfl<;>rfl)
theorem mT{P:Program}{fn:Func}{p u:Tmp}{ty:TypeId}(h:fn.results=#[.cell p ty,.tmp u])(tmps:Array Value)(w:World)(g:Nat)(t:TypeId)(cs:Array Value)(fr:Nat×Nat)(d:TypeDesc)
  (hp:tmps.getD p undef=.pointer (some ⟨g,0,none⟩)) (hg:w.heap[g]? =some (.cells cs t fr))
  (hu:P.underlying ty=some d) (hd:(match d with| .struct _| .array _ _=>true|_=>false)=true) (hi:(P.info? ty).map (·.size)=some cs.size):
  (results fn tmps).run P w=.ok (.tuple #[.agg cs,tmps.getD u undef]) w:=by
 rw[results_cell_tmp h,hp];simp[asAddr,run_loadVar_row w g t ty cs fr d hg hu hd hi]
theorem xf{P:Program}{o:Oper}{a:Act}{T:TypeId}{Z:Array Value}(ho:o.op=.build T #[])(hb:P.built T []=some Z)(v:World):(execOp a.eval o).run P v=.ok (.value (.agg Z)) v:=by
 have e:(((#[]:Array (Nat×Operand)).map fun(i,x)=>(i,a.eval x)))=#[]:=qS;have h:=run_build (P:=P) v T #[] Z hb;simp[execOp,ho,h,Result.andThen]
theorem BE{w:World}{g e:Nat}{v:Value}(h:w.cell? ⟨e,0,none⟩=some v)(C:Array Value)(hne:e≠g):(w.setRow g C).cell? ⟨e,0,none⟩=some v:=by
 unfold World.cell?;rw[setRow_other _ _ _ _ hne];exact h
structure Rnew(w w':World)(g:Nat)(z:BL):Prop where
 le:w.heap.size<=g
 arr:Arr w' g 44 (bytesV z)
theorem Rnew.later{w w' w'':World}{g:Nat}{z:BL}(h:Rnew w w' g z)(hb:Below w'.heap.size w' w''):Rnew w w'' g z:=⟨h.le,h.arr.later hb h.arr.lt⟩
theorem Rnew.row{w w':World}{g:Nat}{z:BL}(h:Rnew w w' g z)(hz:z.length=32)(h':Nat)(C:Array Value)(hh:h'≠g):RowV z (.slice (some ⟨g,0,none⟩) 32 32) (w'.setRow h' C):=by
 have hA:Arr (w'.setRow h' C) g 44 (bytesV z):=by unfold Arr;rw[setRow_other _ _ _ _ (fun e=>hh e.symm)];exact h.arr
 have:=hA.row (by rw[hz];unfold maxLen;decide);exact⟨_,32,by rw[hz],by rw[hz]at this;exact this⟩
theorem vJ(k:BL)(n:Int)(b:Nat)(s:ByteArray)(hs:s.size<=1000)(w:World)(hO:KO k n b w)(hV:Cds w):
  Calls Tryz.prog 94 #[.string s,.pointer (some ⟨b,0,none⟩),.pointer (some ⟨b+1,0,none⟩)] w fun e w'=>∃g,e=.returned (.slice (some ⟨g,0,none⟩) 32 32)/\Rnew w w' g (Da.kI k s.data.toList n)/\Below w.heap.size w w':=by
 refine(G0 k n b s hs w hO hV).mono ?_;rintro e w' ⟨g,rfl,hle,ha,hb⟩;exact⟨g,rfl,⟨hle,ha⟩,hb⟩
theorem jr(w:World):Els w [[],[],[],[],[]] eY:=
 ((((Els.one (RowV.nil w)).app (Els.one (RowV.nil w))).app (Els.one (RowV.nil w))).app (Els.one (RowV.nil w))).app (Els.one (RowV.nil w))
theorem Qd(Z:Array Value)(hZ:Z=eY.toArray)(hzs:∀w,Sem.run Tryz.prog (zeroValue 82) w=.ok (.agg Z) w)(hbu: Tryz.prog.built 82 []=some Z)
  (k:BL) (o:Option Addr) (c:Nat) (n:Int) (A:Nat->Addr) (w:World) (hR:RowIs w o (bytesV k) c) (hV:Cds w) (hE:Er.E9a w A) (hl:k.length<=900000):
  Calls Tryz.prog 29 #[.slice o k.length c,.int .i64 n] w fun e w'=>∃xs:List Value,e=.returned (.tuple #[.agg xs.toArray,eD A (Da.dN (Da.aj k.length) (Da.inR n))])/\
   Els w' (Da.lR (Da.dN (Da.aj k.length) (Da.inR n)) (Da.dp k n)) xs/\Below w.heap.size w w':=by
 obtain⟨g,hg⟩:=qM w.heap.size;obtain⟨W1,hW1⟩:=qM (w.alloc (Obj.cells Z 82));have hb1:Below w.heap.size w W1:=by rw[<-hW1];exact qB.alloc qN _
 have hA1:Arr W1 g 82 Z.toList:=by rw[<-hW1,<-hg];exact Arr.made _ _ _
 have KF:=Lh (vI k o c n W1 (hR.later hb1) (hV.later hb1) hl);have LM:=Lh (Ax o k.length c W1);have LR:=Lh (Ay n W1);have hE1:=hE.later hb1;have hE0:=hE1.c0;have hE8:=hE1.c8;have HBU:=Lh hbu;have HEW:=Lh hE;have HNE:Hid (∀(e:Nat)(v:Value),w.cell? ⟨e,0,none⟩=some v->e<g):=Lh fun e v hc=>by
  have:=Er.Mf hc;omega
 have HZS:Hid ((Tryz.prog.info? 82).map (·.size)=some Z.size):=Lh (by rw[kT,hZ];rfl);have HZO:Hid (Z.all (·.oneCell')=true):=Lh (by rw[hZ];exact all_oneCell_toArray (fun v hv=>by simp only[eY,List.mem_cons,List.not_mem_nil,or_false,or_self]at hv;subst hv;rfl));have HA1:Hid (W1.heap[g]? =some (.cells Z 82 (0,0))):=Lh hA1;have HV1:=Lh (hV.later hb1);have HB1:=Lh hb1;have HW1:=Lh hW1;have HG:=Lh hg;have HZ:=Lh hZ;obtain⟨m,hm⟩:=qM (Da.aj k.length);obtain⟨r,hr⟩:=qM (Da.inR n);rw[hm]at LM⊢;rw[hr]at LR⊢;clear hR hV hE hm hr hb1 hA1 hE1 hW1 hg hZ;go_enter Tryz.func29,Tryz.ntmps29
 go_wp2_with (first|rw[HW1.out,HG.out])
 refine LM.out.mono ?_;rintro e w1 ⟨rfl,rfl⟩;cases m with
 |false=>
  have hc7:w1.drew.cell? ⟨8,0,none⟩=_:=hE8;have hc8:=BE hc7 Z (Nat.ne_of_lt (HNE.out _ _ HEW.out.c8));clear hE0 hE8;go_upto_region 2 with fail
  refine wp_region_any qK ?_;change wpAny _ _ _ _ _ _ _ (World.drew _);refine wpAny_take (i:=0) (v:=.agg Z) rfl qK qK qK qI (Or.inl ⟨by rfl,fun v=>xf rfl HBU.out v⟩) ?_;refine wpAny_ready (rs:=[1,2]) qK qS ?_;refine AllReady.cons rfl (fun K hK=>?_) (AllReady.cons rfl (fun K hK=>?_) AllReady.nil)
  ·go_simp;refine hK _ _ ?_;clear hK K;refine wpAny_ready (rs:=[2]) qK qS ?_;refine AllReady.cons rfl (fun K hK=>?_) AllReady.nil;rw[if_pos (by rfl)];refine wp_store_row 82 (.tmp 4) (.tmp 11) rfl g Z rfl rfl 82 Z HA1.out HZS.out rfl HZO.out (hK _ _ ?_);clear hK K;refine wpAny_ready (rs:=[3]) qK qS ?_;refine AllReady.cons rfl (fun K hK=>?_) AllReady.nil;go_simp;refine hK _ _ ?_;clear hK K;refine wpAny_done qK ?_ _;go_wp2_with fail;refine bodyPost_ret (mT rfl _ _ g 82 Z (0,0) _ rfl (setRow_heap w1.drew _ _ _ _ _ HA1.out) Tryz.underlying82 rfl HZS.out) rfl ?_;exact⟨eY,by rw[HZ.out];rfl,jr _,(Kit.dn HB1.out 1).trans (aA (Nat.le_of_eq HG.out))⟩
  ·rw[if_pos (by rfl)];refine wp_store_row 82 (.tmp 4) (.tmp 11) rfl g Z rfl rfl 82 Z HA1.out HZS.out rfl HZO.out (hK _ _ ?_);clear hK K;refine wpAny_ready (rs:=[1]) qK qS ?_;refine AllReady.cons rfl (fun K hK=>?_) AllReady.nil;go_simp;refine hK _ _ ?_;clear hK K;refine wpAny_ready (rs:=[3]) qK qS ?_;refine AllReady.cons rfl (fun K hK=>?_) AllReady.nil;go_simp;refine hK _ _ ?_;clear hK K;refine wpAny_done qK ?_ _;go_wp2_with fail;refine bodyPost_ret (mT rfl _ _ g 82 Z (0,0) _ rfl (setRow_heap w1.drew _ _ _ _ _ HA1.out) Tryz.underlying82 rfl HZS.out) rfl ?_;exact⟨eY,by rw[HZ.out];rfl,jr _,(Kit.dn HB1.out 1).trans (aA (Nat.le_of_eq HG.out))⟩
 |true=>
  go_wp2_with fail;refine LR.out.mono ?_;rintro e w1 ⟨rfl,rfl⟩;cases r with
  |false=>
   have hc7:w1.drew.cell? ⟨2,0,none⟩=_:=hE0;have hc8:=BE hc7 Z (Nat.ne_of_lt (HNE.out _ _ HEW.out.c0));clear hE0 hE8;go_upto_region 4 with fail
   refine wp_region_any qK ?_;change wpAny _ _ _ _ _ _ _ (World.drew _);refine wpAny_take (i:=0) (v:=.agg Z) rfl qK qK qK qI (Or.inl ⟨by rfl,fun v=>xf rfl HBU.out v⟩) ?_;refine wpAny_ready (rs:=[1,2]) qK qS ?_;refine AllReady.cons rfl (fun K hK=>?_) (AllReady.cons rfl (fun K hK=>?_) AllReady.nil)
   ·go_simp;refine hK _ _ ?_;clear hK K;refine wpAny_ready (rs:=[2]) qK qS ?_;refine AllReady.cons rfl (fun K hK=>?_) AllReady.nil;rw[if_pos (by rfl)];refine wp_store_row 82 (.tmp 4) (.tmp 17) rfl g Z rfl rfl 82 Z HA1.out HZS.out rfl HZO.out (hK _ _ ?_);clear hK K;refine wpAny_ready (rs:=[3]) qK qS ?_;refine AllReady.cons rfl (fun K hK=>?_) AllReady.nil;go_simp;refine hK _ _ ?_;clear hK K;refine wpAny_done qK ?_ _;go_wp2_with fail;refine bodyPost_ret (mT rfl _ _ g 82 Z (0,0) _ rfl (setRow_heap w1.drew _ _ _ _ _ HA1.out) Tryz.underlying82 rfl HZS.out) rfl ?_;exact⟨eY,by rw[HZ.out];rfl,jr _,(Kit.dn HB1.out 1).trans (aA (Nat.le_of_eq HG.out))⟩
   ·rw[if_pos (by rfl)];refine wp_store_row 82 (.tmp 4) (.tmp 17) rfl g Z rfl rfl 82 Z HA1.out HZS.out rfl HZO.out (hK _ _ ?_);clear hK K;refine wpAny_ready (rs:=[1]) qK qS ?_;refine AllReady.cons rfl (fun K hK=>?_) AllReady.nil;go_simp;refine hK _ _ ?_;clear hK K;refine wpAny_ready (rs:=[3]) qK qS ?_;refine AllReady.cons rfl (fun K hK=>?_) AllReady.nil;go_simp;refine hK _ _ ?_;clear hK K;refine wpAny_done qK ?_ _;go_wp2_with fail;refine bodyPost_ret (mT rfl _ _ g 82 Z (0,0) _ rfl (setRow_heap w1.drew _ _ _ _ _ HA1.out) Tryz.underlying82 rfl HZS.out) rfl ?_;exact⟨eY,by rw[HZ.out];rfl,jr _,(Kit.dn HB1.out 1).trans (aA (Nat.le_of_eq HG.out))⟩
  |true=>
   clear hE0 hE8;go_wp2_with fail;refine KF.out.mono ?_;rintro e w2 ⟨b,rfl,hko,hb2⟩;have HKO:=Lh hko;have HC0:=Lh hb2;have HKO0:=HKO;clear hko hb2 KF HKO;go_upto_region 6 with fail
   apply wp_region_lit;refine qP ?_;refine wpList_plain rfl (fun K hK=>?_);go_simp;refine(vJ k n b ⟨#[109,97,115,107]⟩ qD w2 HKO0.out (HV1.out.later HC0.out)).mono ?_;rintro e X0 ⟨g0,rfl,hr0,hb0⟩;refine hK _ _ ?_;clear hK K;have HKO1:=Lh (HKO0.out.later hb0);have HC1:=Lh (Ks HC0.out hb0);have HR00:Hid (Rnew w1 X0 g0 (Da.kI k Da.Tp n)):=Lh ⟨Nat.le_trans HC0.out.size hr0.le,hr0.arr⟩;clear hr0 hb0 HKO0 HC0;refine qP ?_;refine wpList_plain rfl (fun K hK=>?_);go_simp;refine(vJ k n b ⟨#[112,108,97,99,101]⟩ qD X0 HKO1.out (HV1.out.later HC1.out)).mono ?_;rintro e X1 ⟨g1,rfl,hr1,hb1⟩;refine hK _ _ ?_;clear hK K;have HKO2:=Lh (HKO1.out.later hb1);have HC2:=Lh (Ks HC1.out hb1);have HR01:=Lh (HR00.out.later hb1);have HR11:Hid (Rnew w1 X1 g1 (Da.kI k Da.Mg n)):=Lh ⟨Nat.le_trans HC1.out.size hr1.le,hr1.arr⟩;clear hr1 hb1 HKO1 HC1 HR00;refine qP ?_;refine wpList_plain rfl (fun K hK=>?_);go_simp;refine(vJ k n b ⟨#[115,101,110,116,105,110,101,108]⟩ qD X1 HKO2.out (HV1.out.later HC2.out)).mono ?_;rintro e X2 ⟨g2,rfl,hr2,hb2⟩;refine hK _ _ ?_;clear hK K;have HKO3:=Lh (HKO2.out.later hb2);have HC3:=Lh (Ks HC2.out hb2);have HR02:=Lh (HR01.out.later hb2);have HR12:=Lh (HR11.out.later hb2);have HR22:Hid (Rnew w1 X2 g2 (Da.kI k Da.Tq n)):=Lh ⟨Nat.le_trans HC2.out.size hr2.le,hr2.arr⟩;clear hr2 hb2 HKO2 HC2 HR01 HR11;refine qP ?_;refine wpList_plain rfl (fun K hK=>?_);go_simp;refine(vJ k n b ⟨#[116,97,103]⟩ qD X2 HKO3.out (HV1.out.later HC3.out)).mono ?_;rintro e X3 ⟨g3,rfl,hr3,hb3⟩;refine hK _ _ ?_;clear hK K;have HKO4:=Lh (HKO3.out.later hb3);have HC4:=Lh (Ks HC3.out hb3);have HR03:=Lh (HR02.out.later hb3);have HR13:=Lh (HR12.out.later hb3);have HR23:=Lh (HR22.out.later hb3);have HR33:Hid (Rnew w1 X3 g3 (Da.kI k Da.Xj n)):=Lh ⟨Nat.le_trans HC3.out.size hr3.le,hr3.arr⟩;clear hr3 hb3 HKO3 HC3 HR02 HR12 HR22;refine qP ?_;refine wpList_plain rfl (fun K hK=>?_);go_simp;refine(vJ k n b ⟨#[115,112,111,116]⟩ qD X3 HKO4.out (HV1.out.later HC4.out)).mono ?_;rintro e X4 ⟨g4,rfl,hr4,hb4⟩;refine hK _ _ ?_;clear hK K;have HKO5:=Lh (HKO4.out.later hb4);have HC5:=Lh (Ks HC4.out hb4);have HR04:=Lh (HR03.out.later hb4);have HR14:=Lh (HR13.out.later hb4);have HR24:=Lh (HR23.out.later hb4);have HR34:=Lh (HR33.out.later hb4);have HR44:Hid (Rnew w1 X4 g4 (Da.kI k Da.Ts n)):=Lh ⟨Nat.le_trans HC4.out.size hr4.le,hr4.arr⟩;clear hr4 hb4 HKO4 HC4 HR03 HR13 HR23 HR33;refine bN rfl 82 _ rfl [(0,.slice (some ⟨g0,0,none⟩) 32 32),(1,.slice (some ⟨g1,0,none⟩) 32 32),(2,.slice (some ⟨g2,0,none⟩) 32 32),(3,.slice (some ⟨g3,0,none⟩) 32 32),(4,.slice (some ⟨g4,0,none⟩) 32 32)] (by simp[Act.eval]) _ (Mh _ _ _ _ _ _ _ _ _ _ _ _ _ _ _) ?_;obtain⟨F,hF⟩:∃F:Array Value,([.slice (some ⟨g0,0,none⟩) 32 32,.slice (some ⟨g1,0,none⟩) 32 32,.slice (some ⟨g2,0,none⟩) 32 32,.slice (some ⟨g3,0,none⟩) 32 32,.slice (some ⟨g4,0,none⟩) 32 32]:List Value).toArray=F:=⟨_,rfl⟩;have HFS:Hid ((Tryz.prog.info? 82).map (·.size)=some F.size):=Lh (by rw[kT,<-hF];rfl);have HFO:Hid (F.all (·.oneCell')=true):=Lh (by rw[<-hF];exact yw _ _ _ _ _ _ _ _ _ _ _ _ _ _ _);have HFZ:Hid (Z.size=F.size):=Lh (by rw[HZ.out,<-hF];rfl);have HX4:Hid (X4.heap[g]? =some (.cells Z 82 (0,0))):=Lh ((show Arr w1 g 82 Z.toList from HA1.out).later HC5.out (show Arr w1 g 82 Z.toList from HA1.out).lt);have HY:Hid ((X4.setRow g F).heap[g]? =some (.cells F 82 (0,0))):=Lh (setRow_heap _ _ _ _ _ _ HX4.out);have hbY:Below X4.heap.size X4 X4:=Below.refl _ _;have HBY:Hid (Below w.heap.size w (X4.setRow g F)):=Lh ((Ks HB1.out HC5.out).trans (aA (Nat.le_of_eq HG.out)));have HN:Hid (g<w1.heap.size):=Lh (show Arr w1 g 82 Z.toList from HA1.out).lt;have HF:=Lh hF;clear hF hbY
   rw[HF.out];refine wpList_store_rowTo rfl 82 (.tmp 4) (.tmp 32) rfl rfl g F rfl rfl 82 Z HX4.out HFS.out HFZ.out HFO.out ?_;go_wp2_with fail;refine bodyPost_ret (mT rfl _ _ g 82 F (0,0) _ rfl HY.out Tryz.underlying82 rfl HFS.out) rfl ?_;exact⟨[.slice (some ⟨g0,0,none⟩) 32 32,.slice (some ⟨g1,0,none⟩) 32 32,.slice (some ⟨g2,0,none⟩) 32 32,.slice (some ⟨g3,0,none⟩) 32 32,.slice (some ⟨g4,0,none⟩) 32 32],by rw[HF.out];rfl,((((Els.one (HR04.out.row (Da.dB _ _ _) g F (by have:=HN.out;have:=HR04.out.le;omega))).app (Els.one (HR14.out.row (Da.dB _ _ _) g F (by have:=HN.out;have:=HR14.out.le;omega)))).app (Els.one (HR24.out.row (Da.dB _ _ _) g F (by have:=HN.out;have:=HR24.out.le;omega)))).app (Els.one (HR34.out.row (Da.dB _ _ _) g F (by have:=HN.out;have:=HR34.out.le;omega)))).app (Els.one (HR44.out.row (Da.dB _ _ _) g F (by have:=HN.out;have:=HR44.out.le;omega))),HBY.out⟩
theorem lS(k:BL)(o:Option Addr)(c:Nat)(n:Int)(A:Nat->Addr)(w:World)(hR:RowIs w o (bytesV k) c)(hV:Cds w)(hE:Er.E9a w A)(hl:k.length<=900000):
  Calls Tryz.prog 29 #[.slice o k.length c,.int .i64 n] w fun e w'=>∃xs:List Value,e=.returned (.tuple #[.agg xs.toArray,eD A (Da.dN (Da.aj k.length) (Da.inR n))])/\
   Els w' (Da.lR (Da.dN (Da.aj k.length) (Da.inR n)) (Da.dp k n)) xs/\Below w.heap.size w w':=
 Qd _ rfl rH Ih k o c n A w hR hV hE hl
