/- Mac -/
import Derived.Test.YteldgablpehcpaaGreatDoorHk
set_option linter.unusedVariables false
set_option linter.unusedSimpArgs false
set_option maxRecDepth 100000
set_option maxHeartbeats 8000000
namespace Go.Proofs.YteldgablpehcpaaGreatDoor
open Go.RowKit
namespace Da
def fil(k:BL):BL:=(if 64<k.length then sha k else k)++List.replicate (64-(if 64<k.length then sha k else k).length) 0
def xk(k:BL)(x:UInt8):BL:=k.map (·^^^x)
def eX(k m:BL):BL:=sha (xk (fil k) 92++sha (xk (fil k) 54++m))
def xi(k:BL)(x:UInt8)(i:Nat):BL:=xk (k.take i) x++k.drop i
theorem Aj(k:BL):(if 64<k.length then sha k else k).length<=64:=by
 by_cases h:64<k.length
 ·rw[if_pos h,ai];omega
 ·rw[if_neg h];omega
theorem un(k:BL):(fil k).length=64:=by
 have:=Aj k;unfold fil;rw[List.length_append,List.length_replicate];omega
theorem ic(k:BL)(x:UInt8):(xk k x).length=k.length:=by simp[xk]
theorem ay(k m:BL):(eX k m).length=32:=ai _
theorem I6(k:BL)(x:UInt8)(i:Nat):(xi k x i).length=k.length:=by simp[xi,xk];omega
theorem QY(k:BL)(x:UInt8):xi k x 0=k:=by simp[xi,xk]
theorem Un(k:BL)(x:UInt8):xi k x k.length=xk k x:=by simp[xi]
theorem XQ(k:BL)(x:UInt8)(i:Nat)(h:i<k.length):(xi k x i)[i]? =some (k.getD i 0):=by
 unfold xi;rw[List.getElem?_append_right (by simp[xk];omega)];simp[xk,h,List.getElem?_drop,Nat.min_eq_left (Nat.le_of_lt h)]
theorem Uo(k:BL)(x:UInt8)(i:Nat)(h:i<k.length):(xi k x i).getD i 0=k.getD i 0:=by
 rw[List.getD_eq_getElem?_getD,XQ k x i h];rfl
theorem QZ(k:BL)(x:UInt8)(i:Nat)(h:i<k.length):(xi k x i).set i (k.getD i 0^^^x)=xi k x (i+1):=by
 have hl:(xk (k.take i) x).length=i:=by simp[xk];omega
 unfold xi;rw[List.set_append_right _ _ qO,hl,Nat.sub_self,List.drop_eq_getElem_cons h,qZ,List.take_add_one,List.getElem?_eq_getElem h];simp only[xk,List.map_append,List.append_assoc];simp[h]
theorem DY(n:Nat):bytesV (List.replicate n 0)=List.replicate n (.int .u8 0):=by unfold bytesV;rw[List.map_replicate];rfl
theorem Ak(s:BL):splice (bytesV (List.replicate 64 0)) 0 (bytesV s)=bytesV (s++List.replicate (64-s.length) 0):=by
 rw[DY];simp only[splice,bytesV,List.take_zero,List.nil_append,List.drop_replicate,List.length_map,Nat.zero_add,List.map_append,List.map_replicate];rfl
end Da
theorem I7(w:World):Sem.run Tryz.prog (zeroValue 179) w=.ok (.agg (bytesV (List.replicate 64 0)).toArray) w:=qK
theorem jo{w:World}{ad:Option Addr}{c:Nat}{x:BL}(hR:RowIs w ad (bytesV x) c):
  RbIs (w.alloc (.cells #[.slice ad x.length c] 22)) (some ⟨w.heap.size,0,none⟩) [x] 1:=
 have hA:Arr (w.alloc (.cells #[.slice ad x.length c] 22)) w.heap.size 22 [.slice ad x.length c]:=Arr.made _ _ _
 ⟨[.slice ad x.length c],⟨qS,by unfold maxLen;decide,fun h=>by(cases h),fun h0=>⟨w.heap.size,0,rfl,hA.lt,fun i v hv=>by rw[Nat.zero_add,hA.cell];exact hv⟩⟩,
  Els.one ⟨ad,c,rfl,hR.later (qB.alloc qN _)⟩⟩
theorem MF(Z D:Array Value)(hZ:Z=(bytesV (List.replicate 64 0)).toArray)(hzs:∀w,Sem.run Tryz.prog (zeroValue 179) w=.ok (.agg Z) w)(hD:D=(bytesV (List.replicate 32 0)).toArray)(hds:∀w,Sem.run Tryz.prog (zeroValue 44) w=.ok (.agg D) w)
  (k:BL) (o:Option Addr) (c:Nat) (w:World) (hR:RowIs w o (bytesV k) c) (hV:Cds w) (hl:k.length<=900000):
  Calls Tryz.prog 50 #[.slice o k.length c] w fun e w'=>e=.returned (.pointer (some ⟨w.heap.size,0,none⟩))/\Arr w' w.heap.size 179 (bytesV (Da.fil k))/\Below w.heap.size w w':=by
 obtain⟨g,hg⟩:=qM w.heap.size;obtain⟨W1,hW1⟩:=qM (w.alloc (Obj.cells Z 179));have hb1:Below w.heap.size w W1:=by rw[<-hW1];exact qB.alloc qN _
 have hs1:W1.heap.size=g+1:=by rw[<-hW1,World.size_alloc,hg]
 have hA1:Arr W1 g 179 (bytesV (List.replicate 64 0)):=by rw[<-hW1,hZ,<-hg];exact Arr.made _ _ _
 have hR1:=hR.later hb1;have hV1:=hV.later hb1;have HW1:=Lh hW1;have HB1:=Lh hb1;have HS1:=Lh hs1;have HA1:=Lh hA1;have HG:=Lh hg;by_cases hlong:64<k.length
 ·have hd:decide ((k.length:Int)>64)=true:=by simp;omega
  have SO:Hid (Calls Tryz.prog 33 #[.slice (some ⟨W1.heap.size,0,none⟩) 1 1] (W1.alloc (.cells #[.slice o k.length c] 22)) fun e w'=>e=.returned (.agg (bytesV (Da.sha k)).toArray)/\Below (W1.alloc (.cells #[.slice o k.length c] 22)).heap.size (W1.alloc (.cells #[.slice o k.length c] 22)) w'):=Lh (by
   have:=mN [k] (some ⟨W1.heap.size,0,none⟩) 1 (W1.alloc (.cells #[.slice o k.length c] 22)) (jo hR1) (hV1.later (qB.alloc qN _)) (by simpa using hl) qS;rw[show([k]:L8).flatten=k by simp]at this;exact this)
  have HC:Hid ([Value.slice o k.length c].toArray=#[Value.slice o k.length c]):=Lh rfl;obtain⟨W2,hW2⟩:=qM (W1.alloc (.cells #[.slice o k.length c] 22));have HB2:Hid (Below w.heap.size w W2):=Lh (Ks hb1 (by rw[<-hW2];exact qB.alloc qN _));rw[hW2]at SO;obtain⟨F,hF⟩:=qM ((bytesV (Da.sha k)).toArray);rw[hF]at SO;have HRS:Hid ((Tryz.prog.info? 44).map (·.size)=some F.size):=Lh (by rw[bJ,<-hF];simp[Da.ai]);have HRO:Hid (F.all (·.oneCell')=true):=Lh (by rw[<-hF];exact all_oneCell_toArray (aG _));have HRZ:Hid (D.size=F.size):=Lh (by rw[hD,<-hF];simp[Da.ai]);have HF:=Lh hF;have HW2:=Lh hW2;clear hR hV hW1 hb1 hs1 hA1 hR1 hV1 hZ hF hW2 hg;go_enter Tryz.func50,Tryz.ntmps50
  go_upto_region 2 with fail
  rw[HW1.out,HG.out];have HD:=Lh hD;clear hD;go_upto_region 3 with fail
  apply wp_region_lit;refine qP ?_;refine qP ?_;rw[HW2.out];refine wpList_plain rfl (fun K hK=>?_);go_simp;refine SO.out.mono ?_;rintro e W3 ⟨rfl,hb3⟩;refine hK _ _ ?_;clear hK K;obtain⟨W4,hW4⟩:=qM (W3.alloc (.cells D 44));obtain⟨W5,hW5⟩:=qM (W4.setRow W3.heap.size F);have hA4:Arr W4 W3.heap.size 44 D.toList:=by rw[<-hW4];exact Arr.made _ _ _
  have hA5:Arr W5 W3.heap.size 44 (bytesV (Da.sha k)):=by rw[<-hW5,<-HF.out];exact setRow_heap _ _ _ _ _ _ hA4
  have hb5:Below W3.heap.size W3 W5:=by rw[<-hW5,<-hW4];exact(qB.alloc qN _).trans (aA qN)
  have hr3:Below W1.heap.size W1 W3:=Ks (by rw[<-HW2.out];exact qB.alloc qN _) hb3;have hA1:Arr W5 g 179 (bytesV (List.replicate 64 0)):=(HA1.out.later hr3 HA1.out.lt).later hb5 (Nat.lt_of_lt_of_le HA1.out.lt hr3.size);have hB5:Below w.heap.size w W5:=Ks (Ks HB2.out hb3) hb5;have HA4:Hid (W4.heap[W3.heap.size]? =some (.cells D 44 (0,0))):=Lh hA4;have HA5:=Lh hA5;have HA1:=Lh hA1;have HB5:=Lh hB5;have HW4:=Lh hW4;have HW5:=Lh hW5;clear hW4 hW5 hA4 hA5 hb5 hr3 hA1 hB5 hb3 SO;refine qP ?_;rw[HW4.out];refine wpList_store_row rfl 44 (.tmp 4) (.tmp 10) rfl W3.heap.size F rfl rfl 44 D HA4.out HRS.out HRZ.out HRO.out ?_;rw[HW5.out];go_upto_region 5 with fail
  apply wp_region_lit;refine qP ?_;refine qP ?_;refine qP ?_;refine wpList_copy_splice rfl (.tmp 13) (.tmp 14) 22 22 rfl 5 qK qK (some ⟨g,0,none⟩) (some ⟨W3.heap.size,0,none⟩) 64 64 32 32 rfl rfl g 0 (bytesV (List.replicate 64 0)) 179 HA1.out (bytesV (Da.sha k)) (by simp[Da.ai])
   (fun _=>⟨rfl,_,rfl,fun j v hv=>by rw[Addr.add_mid,Nat.zero_add,HA5.out.cell];exact hv⟩) (by simp[Da.ai]) (aG _) w.heap.size w HB5.out (Nat.le_of_eq HG.out) ?_
  intro w' h1 h2;have hE:Arr w' g 179 (bytesV (Da.fil k)):=by
   have:=h1.out;rw[Da.Ak]at this;unfold Da.fil;rw[if_pos hlong];exact this
  have HE:=Lh hE;have HB6:=Lh h2;clear hE h2 h1;go_wp2_with fail;go_ret;exact⟨by rw[HG.out];rfl,by rw[HG.out];exact HE.out,HB6.out⟩
 ·have hd:decide ((k.length:Int)>64)=false:=by simp;omega
  have HR1:=Lh hR1;clear hR hV hW1 hb1 hs1 hA1 hR1 hV1 hZ hg;go_enter Tryz.func50,Tryz.ntmps50
  go_upto_region 2 with fail
  rw[HW1.out,HG.out];go_upto_region 5 with fail
  apply wp_region_lit;refine qP ?_;refine qP ?_;refine qP ?_;refine wpList_copy_splice rfl (.tmp 13) (.tmp 14) 22 22 rfl 5 qK qK (some ⟨g,0,none⟩) o 64 64 k.length c rfl rfl g 0 (bytesV (List.replicate 64 0)) 179 HA1.out (bytesV k) (by rw[bytesV_length];exact(Nat.min_eq_left qO).symm)
   (fun h0=>⟨rfl,by
    obtain⟨b2,off2,e,hb2,hc2⟩:=HR1.out.cells h0;exact⟨_,e,fun j v hv=>by rw[Addr.add_mid];exact hc2 j v hv⟩⟩) (by simp;omega) (aG _) w.heap.size w HB1.out (Nat.le_of_eq HG.out) ?_
  intro w' h1 h2;have hE:Arr w' g 179 (bytesV (Da.fil k)):=by
   have:=h1.out;rw[Da.Ak]at this;unfold Da.fil;rw[if_neg hlong];exact this
  have HE:=Lh hE;have HB6:=Lh h2;clear hE h2 h1;go_wp2_with fail;go_ret;exact⟨by rw[HG.out];rfl,by rw[HG.out];exact HE.out,HB6.out⟩
theorem gV(k:BL)(o:Option Addr)(c:Nat)(w:World)(hR:RowIs w o (bytesV k) c)(hV:Cds w)(hl:k.length<=900000):
  Calls Tryz.prog 50 #[.slice o k.length c] w fun e w'=>e=.returned (.pointer (some ⟨w.heap.size,0,none⟩))/\Arr w' w.heap.size 179 (bytesV (Da.fil k))/\Below w.heap.size w w':=
 MF _ _ rfl I7 rfl dg_zero k o c w hR hV hl
def Wi1(k:BL)(x:UInt8)(w:World)(g:Nat)(i:Value)(wr:World):Prop:=
 ∃j:Nat,j<=64/\i=.int .i64 j/\Arr wr g 177 (bytesV (Da.xi k x j))/\Below w.heap.size w wr
theorem Q0(Z:Array Value)(hZ:Z=(bytesV (List.replicate 64 0)).toArray)(hzs:∀w,Sem.run Tryz.prog (zeroValue 177) w=.ok (.agg Z) w)
  (k:BL) (hk:k.length=64) (x:UInt8) (b:Nat) (w:World) (hA:Arr w b 179 (bytesV k)):
  Calls Tryz.prog 141 #[.pointer (some ⟨b,0,none⟩),.int .u8 x.toNat] w fun e w'=>e=.returned (.slice (some ⟨w.heap.size,0,none⟩) 64 64)/\Arr w' w.heap.size 177 (bytesV (Da.xk k x))/\Below w.heap.size w w':=by
 obtain⟨g,hg⟩:=qM w.heap.size;obtain⟨F,hF⟩:=qM ((bytesV k).toArray);obtain⟨W1,hW1⟩:=qM (w.alloc (Obj.cells Z 177));obtain⟨W2,hW2⟩:=qM (W1.setRow g F);have hA1:Arr W1 g 177 Z.toList:=by rw[<-hW1,<-hg];exact Arr.made _ _ _
 have hA2:Arr W2 g 177 (bytesV (Da.xi k x 0)):=by rw[<-hW2,Da.QY,<-hF];exact setRow_heap _ _ _ _ _ _ hA1
 have hb2:Below w.heap.size w W2:=by rw[<-hW2,<-hW1];exact(qB.alloc qN _).trans (aA (Nat.le_of_eq hg))
 have HLD:Hid (w.heap[b]? =some (.cells F 179 (0,0))):=Lh (by rw[<-hF];exact hA);have HSZ:Hid ((Tryz.prog.info? 177).map (·.size)=some F.size):=Lh (by rw[nM,<-hF];simp[hk]);have HST:Hid (W1.heap[g]? =some (.cells Z 177 (0,0))):=Lh hA1;have HOC:Hid (F.all (·.oneCell')=true):=Lh (by rw[<-hF];exact all_oneCell_toArray (aG _));have HZS:Hid (Z.size=F.size):=Lh (by rw[hZ,<-hF];simp[hk]);have HA2:=Lh hA2;have HB2:=Lh hb2;have HW1:=Lh hW1;have HW2:=Lh hW2;have HG:=Lh hg;have HK:=Lh hk;clear hA1 hA2 hb2 hW1 hW2 hg hF hZ hA hk;go_enter Tryz.func141,Tryz.ntmps141
 go_upto_region 1 with fail
 apply wp_region_lit;refine qP ?_;refine qP ?_;refine qP ?_;refine wpList_load_row rfl 177 (.tmp 9) rfl b rfl 179 F (0,0) _ HLD.out j6 rfl HSZ.out ?_;refine qP ?_;rw[HW1.out,HG.out];refine wpList_store_row rfl 177 (.tmp 5) (.tmp 10) rfl g F rfl rfl 177 Z HST.out HSZ.out HZS.out HOC.out ?_;rw[HW2.out];go_wp2_with fail;go_loopw [11] (fun i wr=>Wi1 k x w g i wr) (fun i _=>64-(intOf i).toNat)
 case atStart=>exact⟨0,Nat.zero_le _,rfl,HA2.out,HB2.out⟩
 case round=>
  rename World=>X1
  obtain⟨j,hj,rfl,hA,hB⟩:=hrel;by_cases hlt:j<64
  ·have hd1:decide ((j:Int)<64)=true:=by simp;omega
   have hc:=hA.cell j;have hf:=hA.frozen j;obtain⟨y,hy⟩:=qM (k.getD j 0);have hst:=Da.QZ k x j (by rw[HK.out];exact hlt);rw[aB _ _ (by rw[Da.I6,HK.out];exact hlt),Da.Uo _ _ _ (by rw[HK.out];exact hlt),hy]at hc;rw[hy]at hst;have hX:Hid (bits .xor .u8 (y.toNat:Int) (x.toNat:Int)=((y^^^x).toNat:Int)):=Lh (by
    rw[u8_xor_nat _ _ (UInt8.toNat_lt _) (UInt8.toNat_lt _),UInt8.toNat_xor])
   have hA':Arr (X1.setCell ⟨g,j,none⟩ (.int .u8 ((y^^^x).toNat:Int))) g 177 (bytesV (Da.xi k x (j+1))):=by
    have:=hA.set j (.int .u8 ((y^^^x).toNat:Int));rw[dP,hst]at this;exact this
   have hB':=hA.below hB (Nat.le_of_eq HG.out) j (.int .u8 ((y^^^x).toNat:Int));have HX:Hid (Wi1 k x w g (.int .i64 ((j:Int)+1)) (X1.setCell ⟨g,j,none⟩ (.int .u8 ((y^^^x).toNat:Int)))):=Lh ⟨j+1,qO,by go_num,hA',hB'⟩;clear hA hB hA' hB' hst hy;go_wp2_with fail;rw[hX.out];exact⟨HX.out,by simp[intOf];omega⟩
  ·obtain rfl:j=64:=qO;have hE:Arr X1 g 177 (bytesV (Da.xk k x)):=by
    have:=Da.Un k x;rw[HK.out]at this;rw[<-this];exact hA
   have HE:=Lh hE;have HB:=Lh hB;clear hE hA hB;go_wp2_with fail;go_ret;exact⟨by rw[HG.out];rfl,by rw[HG.out];exact HE.out,HB.out⟩
theorem MG(w:World):Sem.run Tryz.prog (zeroValue 177) w=.ok (.agg (bytesV (List.replicate 64 0)).toArray) w:=qK
theorem Al(k:BL)(hk:k.length=64)(x:UInt8)(b:Nat)(w:World)(hA:Arr w b 179 (bytesV k)):
  Calls Tryz.prog 141 #[.pointer (some ⟨b,0,none⟩),.int .u8 x.toNat] w fun e w'=>e=.returned (.slice (some ⟨w.heap.size,0,none⟩) 64 64)/\Arr w' w.heap.size 177 (bytesV (Da.xk k x))/\Below w.heap.size w w':=
 Q0 _ rfl MG k hk x b w hA
theorem ie{w:World}{a1 a2:Option Addr}{c1 c2:Nat}{x y:BL}(h1:RowIs w a1 (bytesV x) c1)(h2:RowIs w a2 (bytesV y) c2):
  RbIs (w.alloc (.cells #[.slice a1 x.length c1,.slice a2 y.length c2] 22)) (some ⟨w.heap.size,0,none⟩) [x,y] 2:=
 have hA:Arr (w.alloc (.cells #[.slice a1 x.length c1,.slice a2 y.length c2] 22)) w.heap.size 22 [.slice a1 x.length c1,.slice a2 y.length c2]:=Arr.made _ _ _;have hb:Below w.heap.size w (w.alloc (.cells #[.slice a1 x.length c1,.slice a2 y.length c2] 22)):=qB.alloc qN _
 ⟨[.slice a1 x.length c1,.slice a2 y.length c2],⟨qS,by unfold maxLen;decide,fun h=>by(cases h),fun h0=>⟨w.heap.size,0,rfl,hA.lt,fun i v hv=>by rw[Nat.zero_add,hA.cell];exact hv⟩⟩,
  (Els.one ⟨a1,c1,rfl,h1.later hb⟩).app (Els.one ⟨a2,c2,rfl,h2.later hb⟩)⟩
def Of2(P:BL)(bs:L8)(g:Nat)(w:World)(i:Value)(wr:World):Prop:=
 ∃n:Nat,n<=bs.length/\i=.int .i64 n/\Hash wr (g+1) (P++(bs.take n).flatten)/\Arr wr g 44 (bytesV (List.replicate 32 0))/\Below w.heap.size w wr
theorem Up(Z:Array Value)(hZ:Z=(bytesV (List.replicate 32 0)).toArray)(hzs:∀w,Sem.run Tryz.prog (zeroValue 44) w=.ok (.agg Z) w)
  (k:BL) (hk:k.length=64) (b:Nat) (bs:L8) (o:Option Addr) (c:Nat) (w:World) (hA:Arr w b 179 (bytesV k))
  (hR:RbIs w o bs c) (hV:Cds w) (hl:bs.flatten.length<=800000) (hn:bs.length<=1000000):
  Calls Tryz.prog 95 #[.pointer (some ⟨b,0,none⟩),.slice o bs.length c] w fun e w'=>e=.returned (.agg (bytesV (Da.sha (Da.xk k 92++Da.sha (Da.xk k 54++bs.flatten)))).toArray)/\Below w.heap.size w w':=by
 obtain⟨g,hg⟩:=qM w.heap.size;obtain⟨W1,hW1⟩:=qM (w.alloc (Obj.cells Z 44));have hb1:Below w.heap.size w W1:=by rw[<-hW1];exact qB.alloc qN _
 have hs1:W1.heap.size=g+1:=by rw[<-hW1,World.size_alloc,hg]
 have hR1:Arr W1 g 44 (bytesV (List.replicate 32 0)):=by rw[<-hW1,hZ,<-hg];exact Arr.made _ _ _
 have HR:=Lh hR;have HA:=Lh hA;have HK:=Lh hk;have HV:=Lh hV;have HW1:=Lh hW1;have HB1:=Lh hb1;have HR1:=Lh hR1;have HS1:=Lh hs1;have HG:=Lh hg;have HZ:=Lh hZ;clear hR hV hW1 hb1 hs1 hR1 hg hZ hA hk;obtain⟨P,hP⟩:=qM (Da.xk k 54);have HPL:Hid (P.length=64):=Lh (by rw[<-hP,Da.ic];exact HK.out);have HP:=Lh hP;clear hP;go_enter Tryz.func95,Tryz.ntmps95
 go_upto_region 1 with fail
 rw[HW1.out,HG.out];apply wp_region_lit;refine wpList_plain rfl (fun K hK=>?_);go_simp;refine(GI W1).mono ?_;rintro e W2 ⟨rfl,hh2,hb2,hs2⟩;refine hK _ _ ?_;clear hK K;rw[HS1.out]at hh2 hs2⊢;have HH2:=Lh hh2;have HR2:Hid (Arr W2 g 44 (bytesV (List.replicate 32 0))):=Lh (HR1.out.later hb2 HR1.out.lt);have HB2:Hid (Below w.heap.size w W2):=Lh (Ks HB1.out hb2);have HS2:=Lh hs2;clear hh2 hb2 hs2 HW1 HB1 HR1;refine qP ?_;refine wpList_plain rfl (fun K hK=>?_);go_simp;refine(Al k HK.out 54 b W2 (HA.out.later HB2.out HA.out.lt)).mono ?_;rintro e W3 ⟨rfl,hr3,hb3⟩;refine hK _ _ ?_;clear hK K;rw[HP.out]at hr3;have PU:Hid (Calls Tryz.prog 69 #[.pointer (some ⟨g+1,0,none⟩),.slice (some ⟨W2.heap.size,0,none⟩) 64 64] W3 fun e w'=>e=.returned (.pointer (some ⟨g+1,0,none⟩))/\Hash w' (g+1) P/\W3.grownBy w' (some (g+1))):=Lh (by
  have hcd:=(HV.out.later HB2.out).later hb3;have hrow:=hr3.row (by rw[HPL.out];unfold maxLen;decide);rw[HPL.out]at hrow;have:=tY (g+1) [] P (some ⟨W2.heap.size,0,none⟩) 64 W3 (HH2.out.kept (gU (B:=0) (row:=none) hb3) (fun e=>by cases e)) hrow (fun h0 ad e=>by cases e;show W2.heap.size≠g+1;rw[HS2.out];omega) (HV.out.ne (by rw[HG.out];omega)) hcd.cubes hcd.begins (by rw[HPL.out];decide);rw[HPL.out]at this;exact this)
 have HB3:Hid (Below w.heap.size w W3):=Lh (Ks HB2.out hb3);have HR3:Hid (Arr W3 g 44 (bytesV (List.replicate 32 0))):=Lh (HR2.out.later hb3 HR2.out.lt);clear hr3 hb3 HH2 HR2 HB2;refine wpList_plain rfl (fun K hK=>?_);go_simp;refine PU.out.mono ?_;rintro e W4 ⟨rfl,hh,hgr⟩;refine hK _ _ ?_;clear hK K;have HX:Hid (Of2 P bs g w (.int .i64 0) W4):=Lh ⟨0,Nat.zero_le _,rfl,by simpa using hh,HR3.out.kept hgr (fun e=>by cases e),below_grown HB3.out hgr (by have:=HG.out;omega) HB3.out.size⟩;clear hh hgr PU HB3 HR3;go_wp2_with fail;go_loopw [15] (fun i wr=>Of2 P bs g w i wr) (fun i _=>bs.length-(intOf i).toNat)
 case atStart=>exact HX.out
 case round=>
  rename World=>X1
  obtain⟨n,hn',rfl,hH1,hR1,hB1⟩:=hrel;by_cases hlt:n<bs.length
  ·have hd1:decide ((n:Int)<(bs.length:Int))=true:=by simpa using hlt
   obtain⟨b1,off1,p1,q1,rfl,hb1,hcell,hrow⟩:=(HR.out.later hB1).cell n hlt;have hrw:=HR.out.cell n hlt;have PU:Hid (Calls Tryz.prog 69 #[.pointer (some ⟨g+1,0,none⟩),.slice p1 (bi bs n).length q1] X1 fun e w'=>e=.returned (.pointer (some ⟨g+1,0,none⟩))/\Hash w' (g+1) (P++(bs.take n).flatten++bi bs n)/\X1.grownBy w' (some (g+1))):=Lh (by
    have hcd:=HV.out.later hB1;refine tY (g+1) (P++(bs.take n).flatten) (bi bs n) p1 q1 X1 hH1 hrow (fun h0 ad e=>?_) (HV.out.ne (by have:=HG.out;omega)) hcd.cubes hcd.begins ?_
    ·obtain⟨b2,off2,p2,q2,e2,hb2,hcell2,hrow2⟩:=hrw;cases e2
     rw[hB1.cell (p:=⟨b1,off1+n,none⟩) hb2]at hcell;rw[hcell]at hcell2;cases hcell2
     obtain⟨b3,off3,e3,hb3,_⟩:=hrow2.cells (by simpa using h0);rw[e]at e3;cases e3
     show b3≠g+1;have:=HG.out;omega
    ·have:=ia bs n hlt;have h2:=yq bs (n+1);rw[this,List.length_append]at h2;rw[List.length_append,HPL.out];omega)
   have HFS:Hid (P++(bs.take (n+1)).flatten=P++(bs.take n).flatten++bi bs n):=Lh (by rw[ia bs n hlt,List.append_assoc]);have HH1:=Lh hH1;have HR1:=Lh hR1;have HB1:=Lh hB1;clear hH1 hR1 hB1 hrow hrw;go_wp2_with fail;refine PU.out.mono ?_;rintro e X2 ⟨rfl,hh,hgr⟩;have HX:Hid (Of2 P bs g w (.int .i64 ((n:Int)+1)) X2):=Lh ⟨n+1,qO,by go_num,by rw[HFS.out];exact hh,HR1.out.kept hgr (fun e=>by cases e),below_grown HB1.out hgr (by have:=HG.out;omega) HB1.out.size⟩;clear hh hgr PU;go_wp2_with fail;exact⟨HX.out,by simp[intOf];omega⟩
  ·obtain rfl:n=bs.length:=qO;rw[List.take_length]at hH1;obtain⟨I,hI⟩:=qM (Da.sha (P++bs.flatten));have hIl:I.length=32:=by rw[<-hI];exact Da.ai _
   have SU:Hid (Calls Tryz.prog 70 #[.pointer (some ⟨g+1,0,none⟩)] X1 fun e w'=>e=.returned (.agg (bytesV I).toArray)/\Below X1.heap.size X1 w'):=Lh (by
    rw[<-hI];exact Ai (g+1) _ X1 hH1 (HV.out.later hB1) (by rw[List.length_append,HPL.out];omega))
   obtain⟨F,hF⟩:=qM ((bytesV I).toArray);rw[hF]at SU;have HRS:Hid ((Tryz.prog.info? 44).map (·.size)=some F.size):=Lh (by rw[bJ,<-hF];simp[hIl]);have HRO:Hid (F.all (·.oneCell')=true):=Lh (by rw[<-hF];exact all_oneCell_toArray (aG _));have HRZ:Hid (Z.size=F.size):=Lh (by rw[HZ.out,<-hF];simp[hIl]);have HF:=Lh hF;have HI:=Lh hI;have HIL:=Lh hIl;have HR1:=Lh hR1;have HB1:=Lh hB1;clear hH1 hR1 hB1 hF hI hIl HX;go_upto_region 7 with fail
   apply wp_region_lit;refine qP ?_;refine wpList_plain rfl (fun K hK=>?_);go_simp;refine SU.out.mono ?_;rintro e X2 ⟨rfl,hb⟩;refine hK _ _ ?_;clear hK K;obtain⟨X3,hX3⟩:=qM (X2.alloc (.cells Z 44));obtain⟨X4,hX4⟩:=qM (X3.setRow X2.heap.size F);have hA3:Arr X3 X2.heap.size 44 Z.toList:=by rw[<-hX3];exact Arr.made _ _ _
   have hA4:Arr X4 X2.heap.size 44 (bytesV I):=by rw[<-hX4,<-HF.out];exact setRow_heap _ _ _ _ _ _ hA3
   have hb4:Below X2.heap.size X2 X4:=by rw[<-hX4,<-hX3];exact(qB.alloc qN _).trans (aA qN)
   have hR4:=(HR1.out.later hb HR1.out.lt).later hb4 (Nat.lt_of_lt_of_le HR1.out.lt hb.size);have hB4:=Ks (Ks HB1.out hb) hb4;have HA3:Hid (X3.heap[X2.heap.size]? =some (.cells Z 44 (0,0))):=Lh hA3;have HA4:=Lh hA4;have HR4:=Lh hR4;have HB4:=Lh hB4;have HX3:=Lh hX3;have HX4:=Lh hX4;clear hX3 hX4 hA3 hA4 hb4 hR4 hB4 hb SU HB1 HR1;refine qP ?_;rw[HX3.out];refine wpList_store_row rfl 44 (.tmp 8) (.tmp 24) rfl X2.heap.size F rfl rfl 44 Z HA3.out HRS.out HRZ.out HRO.out ?_;rw[HX4.out];go_upto_region 8 with fail
   have WI:Hid (Calls Tryz.prog 141 #[.pointer (some ⟨b,0,none⟩),.int .u8 92] X4.drew fun e w'=>e=.returned (.slice (some ⟨X4.heap.size,0,none⟩) 64 64)/\Arr w' X4.heap.size 177 (bytesV (Da.xk k 92))/\Below X4.drew.heap.size X4.drew w'):=
    Lh (Al k HK.out 92 b X4.drew ((HA.out.later HB4.out HA.out.lt).drew))
   clear HX3 HX4;refine wp_region_any qK ?_;change wpAny _ _ _ _ _ _ _ (World.drew _);refine wpAny_take (i:=0) (v:=?va1) rfl qK qK qK qI (Or.inl ⟨by rfl,?ha1⟩) ?ra1;case ha1=>(intro w;(go_simp<;>with_reducible rfl))
   refine wpAny_take (i:=2) (v:=?va2) rfl qK qK qK qI (Or.inl ⟨by rfl,?ha2⟩) ?ra2;case ha2=>(intro w;(go_simp<;>with_reducible rfl))
   refine wpAny_ready (rs:=[1]) qK qS ?_;refine AllReady.cons rfl (fun K hK=>?_) AllReady.nil;go_simp;refine WI.out.mono ?_;rintro e X5 ⟨rfl,hr5,hb5⟩;refine hK _ _ ?_;clear hK K WI;have hA5:Arr X5 X2.heap.size 44 (bytesV I):=HA4.out.drew.later hb5 HA4.out.lt;have hR5:Arr X5 g 44 (bytesV (List.replicate 32 0)):=HR4.out.drew.later hb5 HR4.out.lt;have hB5:Below w.heap.size w X5:=Ks (Kit.dn HB4.out 1) hb5;have hrow1:=hr5.row (by rw[Da.ic,HK.out];unfold maxLen;decide);rw[Da.ic,HK.out]at hrow1;have hrow2:=hA5.row (by rw[HIL.out];unfold maxLen;decide);rw[HIL.out]at hrow2;obtain⟨X6,hX6⟩:=qM (X5.alloc (.cells #[.slice (some ⟨X4.heap.size,0,none⟩) 64 64,.slice (some ⟨X2.heap.size,0,none⟩) 32 32] 22));have hR6:RbIs X6 (some ⟨X5.heap.size,0,none⟩) [Da.xk k 92,I] 2:=by
    have:=ie hrow1 hrow2;rw[Da.ic,HK.out,HIL.out,hX6]at this;exact this
   have hb6:Below X5.heap.size X5 X6:=by rw[<-hX6];exact qB.alloc qN _
   have hB6:=Ks hB5 hb6;have SO:Hid (Calls Tryz.prog 33 #[.slice (some ⟨X5.heap.size,0,none⟩) 2 2] X6 fun e w'=>e=.returned (.agg (bytesV (Da.sha (Da.xk k 92++I))).toArray)/\Below X6.heap.size X6 w'):=Lh (by
    have:=mN [Da.xk k 92,I] (some ⟨X5.heap.size,0,none⟩) 2 X6 hR6 (HV.out.later hB6) (by simp[Da.ic,HK.out,HIL.out]) qS;rw[show([Da.xk k 92,I]:L8).flatten=Da.xk k 92++I by simp]at this;exact this)
   have HX6:=Lh hX6;have HR6:=Lh (hR5.later hb6 hR5.lt);have HB6:=Lh hB6;clear hA5 hR5 hB5 hrow1 hrow2 hX6 hR6 hb6 hB6 hr5 hb5;refine wpAny_ready (rs:=[3]) qK qS ?_;refine AllReady.cons rfl (fun K hK=>?_) AllReady.nil;go_simp;rw[HX6.out];refine hK _ _ ?_;clear hK K;refine wpAny_ready (rs:=[4]) qK qS ?_;refine AllReady.cons rfl (fun K hK=>?_) AllReady.nil;go_simp;obtain⟨E,hE⟩:=qM ((bytesV (Da.sha (Da.xk k 92++I))).toArray);rw[hE]at SO;have HES:Hid ((Tryz.prog.info? 44).map (·.size)=some E.size):=Lh (by rw[bJ,<-hE];simp[Da.ai]);have HEO:Hid (E.all (·.oneCell')=true):=Lh (by rw[<-hE];exact all_oneCell_toArray (aG _));have HEZ:Hid ((bytesV (List.replicate 32 0)).toArray.size=E.size):=Lh (by rw[<-hE];simp[Da.ai]);have HE:=Lh hE;clear hE;refine SO.out.mono ?_;rintro e X7 ⟨rfl,hb7⟩;refine hK _ _ ?_;clear hK K SO;have hR7:=HR6.out.later hb7 HR6.out.lt;have HL7:Hid (X7.heap[g]? =some (.cells (bytesV (List.replicate 32 0)).toArray 44 (0,0))):=Lh hR7;have HGW:Hid ((X7.setRow g E).heap[g]? =some (.cells E 44 (0,0))):=Lh (setRow_heap _ _ _ _ _ _ hR7);have HBW:Hid (Below w.heap.size w (X7.setRow g E)):=Lh ((Ks HB6.out hb7).trans (aA (Nat.le_of_eq HG.out)));clear hb7 hR7;refine wpAny_ready (rs:=[5]) qK qS ?_;refine AllReady.cons rfl (fun K hK=>?_) AllReady.nil;rw[if_pos (by rfl)];refine wp_store_row 44 (.tmp 4) (.tmp 29) rfl g E rfl rfl 44 (bytesV (List.replicate 32 0)).toArray HL7.out HES.out HEZ.out HEO.out (hK _ _ ?_);clear hK K;refine wpAny_done qK ?_ _;go_wp2_with fail;refine bodyPost_ret (results_cell_row rfl _ _ g 44 E (0,0) _ rfl HGW.out au rfl HES.out) rfl ?_;exact⟨by rw[<-HE.out,<-HI.out,<-HP.out],HBW.out⟩
theorem Q1(k:BL)(hk:k.length=64)(b:Nat)(bs:L8)(o:Option Addr)(c:Nat)(w:World)(hA:Arr w b 179 (bytesV k))
  (hR:RbIs w o bs c) (hV:Cds w) (hl:bs.flatten.length<=800000) (hn:bs.length<=1000000):
  Calls Tryz.prog 95 #[.pointer (some ⟨b,0,none⟩),.slice o bs.length c] w fun e w'=>e=.returned (.agg (bytesV (Da.sha (Da.xk k 92++Da.sha (Da.xk k 54++bs.flatten)))).toArray)/\Below w.heap.size w w':=
 Up _ rfl dg_zero k hk b bs o c w hA hR hV hl hn
theorem qy(k:BL)(b:Nat)(bs:L8)(o:Option Addr)(c:Nat)(w:World)(hA:Arr w b 179 (bytesV (Da.fil k)))
  (hR:RbIs w o bs c) (hV:Cds w) (hl:bs.flatten.length<=800000) (hn:bs.length<=1000000):
  Calls Tryz.prog 95 #[.pointer (some ⟨b,0,none⟩),.slice o bs.length c] w fun e w'=>e=.returned (.agg (bytesV (Da.eX k bs.flatten)).toArray)/\Below w.heap.size w w':=
 Q1 _ (Da.un k) b bs o c w hA hR hV hl hn
namespace Da
def dfN(a b:BL):Nat->Nat
 |0=>a.length^^^b.length
 |n+1=>dfN a b n|||(a.getD n 0^^^b.getD n 0).toNat
theorem DZ(a b:BL)(ha:a.length<2^16)(hb:b.length<2^16):∀n,dfN a b n<2^16
 |0=>Nat.xor_lt_two_pow ha hb
 |n+1=>Nat.or_lt_two_pow (DZ a b ha hb n) (Nat.lt_trans (UInt8.toNat_lt _) qD)
theorem Ur{p q:Nat}:p|||q=0↔p=0/\q=0:=Nat.or_eq_zero_iff
theorem GO(a b:BL):∀n,dfN a b n=0↔a.length=b.length/\∀i,i<n->a.getD i 0=b.getD i 0
 |0=>by
  rw[dfN];constructor
  ·intro h;refine⟨Nat.eq_of_testBit_eq fun i=>?_,fun i hi=>qO⟩;have:=congrArg (fun n=>n.testBit i) h;simp only[Nat.testBit_xor,Nat.zero_testBit]at this;revert this
   cases a.length.testBit i<;>cases b.length.testBit i<;>simp
  ·rintro⟨h,_⟩;rw[h,Nat.xor_self]
 |n+1=>by
  rw[dfN,Ur,GO a b n];constructor
  ·rintro⟨⟨h1,h2⟩,h3⟩;refine⟨h1,fun i hi=>?_⟩;by_cases e:i=n
   ·subst e;have h4:a.getD i 0^^^b.getD i 0=0:=UInt8.toNat_inj.1 h3;exact UInt8.xor_eq_zero_iff.1 h4
   ·exact h2 i qO
  ·rintro⟨h1,h2⟩;refine⟨⟨h1,fun i hi=>h2 i qO⟩,?_⟩;rw[h2 n qO];simp
theorem MH(a b:BL):dfN a b (min a.length b.length)=0↔a=b:=by
 rw[GO];constructor
 ·rintro⟨h1,h2⟩;refine List.ext_getElem h1 fun i k1 k2=>?_
  have:=h2 i qO;simpa[k1,k2]using this
 ·rintro rfl;exact⟨rfl,fun _ _=>rfl⟩
end Da
theorem Us(p q:Nat)(hp:p<2^16)(hq:q<2^16):bits .or .i64 (p:Int) (q:Int)=((p|||q:Nat):Int):=by
 have hx:p|||q<2^16:=Nat.or_lt_two_pow hp hq;have hp':p % 2^IntKind.i64.bits=p:=Nat.mod_eq_of_lt (by show p<2^64;omega);have hq':q % 2^IntKind.i64.bits=q:=Nat.mod_eq_of_lt (by show q<2^64;omega);simp only[bits,BitVec.ofInt_natCast,BitVec.toNat_or,BitVec.toNat_ofNat,hp',hq'];rw[IntKind.wrap_i64];omega
def Sa1(a b:BL)(w:World)(d i:Value)(wr:World):Prop:=
 ∃n:Nat,n<=min a.length b.length/\i=.int .i64 n/\d=.int .i64 (Da.dfN a b n:Nat)/\Below w.heap.size w wr
theorem uo(a b:BL)(oa:Option Addr)(ca:Nat)(ob:Option Addr)(cb:Nat)(w:World)(hA:RowIs w oa (bytesV a) ca)(hB:RowIs w ob (bytesV b) cb)(hal:a.length<=60000)(hbl:b.length<=60000):
  Calls Tryz.prog 142 #[.slice oa a.length ca,.slice ob b.length cb] w fun e w'=>e=.returned (.bool (a==b))/\Below w.heap.size w w':=by
 have HX0:Hid (bits .xor .i64 (a.length:Int) (b.length:Int)=((Da.dfN a b 0:Nat):Int)):=Lh (Gf.Li _ _ qO qO);have HA:=Lh hA;have HB:=Lh hB;obtain⟨m,hm⟩:=qM (min a.length b.length);have hmi:min (a.length:Int) (b.length:Int)=(m:Int):=qO;have HM:=Lh hm;clear hA hB hm;go_enter Tryz.func142,Tryz.ntmps142
 go_wp2_with (first|rw[HX0.out])
 case inl h=>
  have HL:Hid (min a.length b.length=b.length):=Lh qO;have HX1:Hid (Sa1 a b w (.int .i64 (Da.dfN a b 0:Nat)) (.int .i64 0) w):=Lh ⟨0,Nat.zero_le _,rfl,rfl,Below.refl _ _⟩;go_loopw [5,17] (fun d i wr=>Sa1 a b w d i wr) (fun d i _=>b.length-(intOf i).toNat)
  case atStart=>exact HX1.out
  case round=>
   rename World=>X1
   obtain⟨n,hn,rfl,rfl,hB1⟩:=hrel;by_cases hlt:n<b.length
   ·have hd1:decide ((n:Int)<(b.length:Int))=true:=by simpa using hlt
    have hla:n<a.length:=qO;have hlb:n<b.length:=qO;obtain⟨ba,fa,rfl,hba,hca⟩:=(HA.out.later hB1).cells (by rw[bytesV_length];omega);obtain⟨bb,fb,rfl,hbb,hcb⟩:=(HB.out.later hB1).cells (by rw[bytesV_length];omega);obtain⟨x,hx⟩:=qM (a.getD n 0);obtain⟨y,hy⟩:=qM (b.getD n 0);have hc1:X1.cell? ⟨ba,fa+n,none⟩=some (.int .u8 (x.toNat:Int)):=hca n _ (by rw[aB _ _ hla,hx]);have hc2:X1.cell? ⟨bb,fb+n,none⟩=some (.int .u8 (y.toNat:Int)):=hcb n _ (by rw[aB _ _ hlb,hy]);have hX:bits .xor .u8 (x.toNat:Int) (y.toNat:Int)=((x^^^y).toNat:Int):=by
     rw[u8_xor_nat _ _ (UInt8.toNat_lt _) (UInt8.toNat_lt _),UInt8.toNat_xor]
    obtain⟨z,hz⟩:=qM ((x^^^y).toNat);obtain⟨q,hq⟩:=qM (Da.dfN a b n);have hO:bits .or .i64 (q:Int) (z:Int)=((q|||z:Nat):Int):=Us _ _ (by rw[<-hq];exact Da.DZ a b qO qO n) (by rw[<-hz];exact Nat.lt_trans (UInt8.toNat_lt _) qD);have hzl:z<256:=by rw[<-hz];exact UInt8.toNat_lt _
    have hQ:Da.dfN a b (n+1)=q|||z:=by rw[Da.dfN,hq,hx,hy,hz]
    rw[hz]at hX;have HN:Hid (∀nq,Sa1 a b w (.int .i64 ((q|||z:Nat):Int)) (.int .i64 ((n:Int)+1)) (X1.drewN nq)):=Lh fun nq=>⟨n+1,qO,by go_num,by rw[hQ],Ks hB1 (Kit.dn' X1 nq)⟩
    rw[hq];have hWZ:IntKind.i64.wrap (z:Int)=(z:Int):=by rw[IntKind.wrap_i64];omega
    clear hx hy hz hq hQ hca hcb hB1 HA HB hzl;go_wp2_with fail;go_quiet (fail)
    go_wp2_with fail;exact⟨HN.out nq,by simp[intOf];omega⟩
   ·obtain rfl:n=b.length:=qO;have hE:(((Da.dfN a b b.length:Nat):Int)==0)=(a==b):=by
     have:=Da.MH a b;rw[HL.out]at this;by_cases e:a=b
     ·rw[this.2 e];subst e;simp
     ·have h0:Da.dfN a b b.length≠0:=fun h=>e (this.1 h)
      have h1:(((Da.dfN a b b.length:Nat):Int)==0)=false:=by simp;exact_mod_cast h0
      rw[h1];exact(beq_eq_false_iff_ne.2 e).symm
    obtain⟨r,hr⟩:=qM ((a==b));obtain⟨q,hq⟩:=qM (Da.dfN a b b.length);rw[hr,hq]at hE;have HR:=Lh hr;have HB1:=Lh hB1;rw[hq];clear hr hq hB1;go_wp2_with fail;go_ret;exact⟨by rw[HR.out];rfl,HB1.out⟩
 case inr h=>
  have HL:Hid (min a.length b.length=a.length):=Lh qO;have HX1:Hid (Sa1 a b w (.int .i64 (Da.dfN a b 0:Nat)) (.int .i64 0) w):=Lh ⟨0,Nat.zero_le _,rfl,rfl,Below.refl _ _⟩;go_loopw [5,17] (fun d i wr=>Sa1 a b w d i wr) (fun d i _=>a.length-(intOf i).toNat)
  case atStart=>exact HX1.out
  case round=>
   rename World=>X1
   obtain⟨n,hn,rfl,rfl,hB1⟩:=hrel;by_cases hlt:n<a.length
   ·have hd1:decide ((n:Int)<(a.length:Int))=true:=by simpa using hlt
    have hla:n<a.length:=qO;have hlb:n<b.length:=qO;obtain⟨ba,fa,rfl,hba,hca⟩:=(HA.out.later hB1).cells (by rw[bytesV_length];omega);obtain⟨bb,fb,rfl,hbb,hcb⟩:=(HB.out.later hB1).cells (by rw[bytesV_length];omega);obtain⟨x,hx⟩:=qM (a.getD n 0);obtain⟨y,hy⟩:=qM (b.getD n 0);have hc1:X1.cell? ⟨ba,fa+n,none⟩=some (.int .u8 (x.toNat:Int)):=hca n _ (by rw[aB _ _ hla,hx]);have hc2:X1.cell? ⟨bb,fb+n,none⟩=some (.int .u8 (y.toNat:Int)):=hcb n _ (by rw[aB _ _ hlb,hy]);have hX:bits .xor .u8 (x.toNat:Int) (y.toNat:Int)=((x^^^y).toNat:Int):=by
     rw[u8_xor_nat _ _ (UInt8.toNat_lt _) (UInt8.toNat_lt _),UInt8.toNat_xor]
    obtain⟨z,hz⟩:=qM ((x^^^y).toNat);obtain⟨q,hq⟩:=qM (Da.dfN a b n);have hO:bits .or .i64 (q:Int) (z:Int)=((q|||z:Nat):Int):=Us _ _ (by rw[<-hq];exact Da.DZ a b qO qO n) (by rw[<-hz];exact Nat.lt_trans (UInt8.toNat_lt _) qD);have hzl:z<256:=by rw[<-hz];exact UInt8.toNat_lt _
    have hQ:Da.dfN a b (n+1)=q|||z:=by rw[Da.dfN,hq,hx,hy,hz]
    rw[hz]at hX;have HN:Hid (∀nq,Sa1 a b w (.int .i64 ((q|||z:Nat):Int)) (.int .i64 ((n:Int)+1)) (X1.drewN nq)):=Lh fun nq=>⟨n+1,qO,by go_num,by rw[hQ],Ks hB1 (Kit.dn' X1 nq)⟩
    rw[hq];have hWZ:IntKind.i64.wrap (z:Int)=(z:Int):=by rw[IntKind.wrap_i64];omega
    clear hx hy hz hq hQ hca hcb hB1 HA HB hzl;go_wp2_with fail;go_quiet (fail)
    go_wp2_with fail;exact⟨HN.out nq,by simp[intOf];omega⟩
   ·obtain rfl:n=a.length:=qO;have hE:(((Da.dfN a b a.length:Nat):Int)==0)=(a==b):=by
     have:=Da.MH a b;rw[HL.out]at this;by_cases e:a=b
     ·rw[this.2 e];subst e;simp
     ·have h0:Da.dfN a b a.length≠0:=fun h=>e (this.1 h)
      have h1:(((Da.dfN a b a.length:Nat):Int)==0)=false:=by simp;exact_mod_cast h0
      rw[h1];exact(beq_eq_false_iff_ne.2 e).symm
    obtain⟨r,hr⟩:=qM ((a==b));obtain⟨q,hq⟩:=qM (Da.dfN a b a.length);rw[hr,hq]at hE;have HR:=Lh hr;have HB1:=Lh hB1;rw[hq];clear hr hq hB1;go_wp2_with fail;go_ret;exact⟨by rw[HR.out];rfl,HB1.out⟩
theorem GP:(Tryz.prog.info? 65).map (·.size)=some 8:=qK
theorem MI: Tryz.prog.underlying 65=some (.array 8 5):=qK
theorem GQ(w:World):Sem.run Tryz.prog (zeroValue 65) w=.ok (.agg (bytesV (List.replicate 8 0)).toArray) w:=qK
theorem Ut(Z Y:Array Value)(hZ:Z=(bytesV (List.replicate 32 0)).toArray)(hzs:∀w,Sem.run Tryz.prog (zeroValue 44) w=.ok (.agg Z) w)(hY:Y=(bytesV (List.replicate 8 0)).toArray)(hys:∀w,Sem.run Tryz.prog (zeroValue 65) w=.ok (.agg Y) w)
  (k:BL) (b:Nat) (bs:L8) (o:Option Addr) (c:Nat) (w:World) (hA:Arr w b 179 (bytesV (Da.fil k)))
  (hR:RbIs w o bs c) (hV:Cds w) (hl:bs.flatten.length<=800000) (hn:bs.length<=1000000):
  Calls Tryz.prog 90 #[.pointer (some ⟨b,0,none⟩),.slice o bs.length c] w fun e w'=>
   ∃g,e=.returned (.slice (some ⟨g,0,none⟩) 8 8)/\RowIs w' (some ⟨g,0,none⟩) (bytesV ((Da.eX k bs.flatten).take 8)) 8/\Below w.heap.size w w':=by
 have KO:=Lh (qy k b bs o c w hA hR hV hl hn);obtain⟨h,hh⟩:=qM (Da.eX k bs.flatten);have hhl:h.length=32:=by rw[<-hh];exact Da.ay _ _
 obtain⟨E,hE⟩:=qM ((bytesV h).toArray);obtain⟨T,hT⟩:=qM ((bytesV (h.take 8)).toArray);have HES:Hid ((Tryz.prog.info? 44).map (·.size)=some E.size):=Lh (by rw[bJ,<-hE];simp[hhl]);have HEO:Hid (E.all (·.oneCell')=true):=Lh (by rw[<-hE];exact all_oneCell_toArray (aG _));have HEZ:Hid (Z.size=E.size):=Lh (by rw[hZ,<-hE];simp[hhl]);have HTS:Hid ((Tryz.prog.info? 65).map (·.size)=some T.size):=Lh (by rw[GP,<-hT];simp[hhl]);have HTS2:Hid ((Tryz.prog.info? 65).map (·.size)=some (bytesV (h.take 8)).length):=Lh (by rw[GP];simp[hhl]);have HTO:Hid (T.all (·.oneCell')=true):=Lh (by rw[<-hT];exact all_oneCell_toArray (aG _));have HTZ:Hid (Y.size=T.size):=Lh (by rw[hY,<-hT];simp[hhl]);rw[hh,hE]at KO;have HE:=Lh hE;have HT:=Lh hT;have HHL:=Lh hhl;have HH:=Lh hh;rw[hh];clear hR hV hE hT hhl hZ hY hA hh;go_enter Tryz.func90,Tryz.ntmps90
 go_upto_region 1 with fail
 apply wp_region_lit;refine qP ?_;refine qP ?_;refine wpList_plain rfl (fun K hK=>?_);go_simp;refine KO.out.mono ?_;rintro e W1 ⟨rfl,hb1⟩;refine hK _ _ ?_;clear hK K KO;obtain⟨W2,hW2⟩:=qM (W1.alloc (.cells Z 44));obtain⟨W3,hW3⟩:=qM (W2.setRow W1.heap.size E);have hA2:Arr W2 W1.heap.size 44 Z.toList:=by rw[<-hW2];exact Arr.made _ _ _
 have hA3:Arr W3 W1.heap.size 44 (bytesV h):=by rw[<-hW3,<-HE.out];exact setRow_heap _ _ _ _ _ _ hA2
 have hb3:Below W1.heap.size W1 W3:=by rw[<-hW3,<-hW2];exact(qB.alloc qN _).trans (aA qN)
 have hB3:=Ks hb1 hb3;have HA2:Hid (W2.heap[W1.heap.size]? =some (.cells Z 44 (0,0))):=Lh hA2;have HRA:Hid (W3.rangeAt W1.heap.size 0 (bytesV (h.take 8))):=Lh (hA3.range 0 _ fun j v hv=>by
  rw[Nat.zero_add];rw[<-hv];have hj:j<(h.take 8).length:=by have:=(List.getElem?_eq_some_iff.1 hv).1;rwa[bytesV_length]at this
  unfold bytesV;rw[List.getElem?_map,List.getElem?_map,List.getElem?_take,if_pos (by rw[List.length_take]at hj;omega)])
 have HB3:=Lh hB3;have HW2:=Lh hW2;have HW3:=Lh hW3;clear hW2 hW3 hA2 hA3 hb3 hB3 hb1;refine qP ?_;rw[HW2.out];refine wpList_store_row rfl 44 (.tmp 5) (.tmp 9) rfl W1.heap.size E rfl rfl 44 Z HA2.out HES.out HEZ.out HEO.out ?_;rw[HW3.out];clear HW2 HW3 HA2;go_upto_region 2 with fail
 apply wp_region_lit;refine qP ?_;refine qP ?_;refine wpList_load_mid rfl 65 (.tmp 11) rfl W1.heap.size 0 rfl (bytesV (h.take 8)) _ HRA.out MI rfl HTS2.out ?_;rw[HT.out];obtain⟨W4,hW4⟩:=qM (W3.alloc (.cells Y 65));obtain⟨W5,hW5⟩:=qM (W4.setRow W3.heap.size T);have hA4:Arr W4 W3.heap.size 65 Y.toList:=by rw[<-hW4];exact Arr.made _ _ _
 have hA5:Arr W5 W3.heap.size 65 (bytesV (h.take 8)):=by rw[<-hW5,<-HT.out];exact setRow_heap _ _ _ _ _ _ hA4
 have hb5:Below W3.heap.size W3 W5:=by rw[<-hW5,<-hW4];exact(qB.alloc qN _).trans (aA qN)
 have HA4:Hid (W4.heap[W3.heap.size]? =some (.cells Y 65 (0,0))):=Lh hA4;have hrow:=hA5.row (by rw[List.length_take,HHL.out];unfold maxLen;decide);rw[show(h.take 8).length=8 by rw[List.length_take,HHL.out];rfl]at hrow;have HROW:=Lh hrow;have HB5:=Lh (Ks HB3.out hb5);have HW4:=Lh hW4;have HW5:=Lh hW5;clear hW4 hW5 hA4 hA5 hb5 hrow;refine qP ?_;rw[HW4.out];refine wpList_store_row rfl 65 (.tmp 6) (.tmp 12) rfl W3.heap.size T rfl rfl 65 Y HA4.out HTS.out HTZ.out HTO.out ?_;rw[HW5.out];go_wp2_with fail;go_ret;exact⟨_,rfl,HROW.out,HB5.out⟩
theorem GR(k:BL)(b:Nat)(bs:L8)(o:Option Addr)(c:Nat)(w:World)(hA:Arr w b 179 (bytesV (Da.fil k)))
  (hR:RbIs w o bs c) (hV:Cds w) (hl:bs.flatten.length<=800000) (hn:bs.length<=1000000):
  Calls Tryz.prog 90 #[.pointer (some ⟨b,0,none⟩),.slice o bs.length c] w fun e w'=>
   ∃g,e=.returned (.slice (some ⟨g,0,none⟩) 8 8)/\RowIs w' (some ⟨g,0,none⟩) (bytesV ((Da.eX k bs.flatten).take 8)) 8/\Below w.heap.size w w':=
 Ut _ _ rfl dg_zero rfl GQ k b bs o c w hA hR hV hl hn
theorem uq(k:BL)(b:Nat)(t:BL)(ot:Option Addr)(ct:Nat)(bs:L8)(o:Option Addr)(c:Nat)(w:World)(hA:Arr w b 179 (bytesV (Da.fil k)))
  (hT:RowIs w ot (bytesV t) ct) (htl:t.length<=60000) (hR:RbIs w o bs c) (hV:Cds w) (hl:bs.flatten.length<=800000) (hn:bs.length<=1000000):
  Calls Tryz.prog 96 #[.pointer (some ⟨b,0,none⟩),.slice ot t.length ct,.slice o bs.length c] w fun e w'=>
   e=.returned (.bool (t==(Da.eX k bs.flatten).take 8))/\Below w.heap.size w w':=by
 have TG:=Lh (GR k b bs o c w hA hR hV hl hn);obtain⟨h,hh⟩:=qM ((Da.eX k bs.flatten).take 8);have hhl:h.length=8:=by rw[<-hh,List.length_take,Da.ay];rfl
 rw[hh]at TG⊢;have SM:Hid (∀(g:Nat)(w':World),RowIs w' (some ⟨g,0,none⟩) (bytesV h) 8->Below w.heap.size w w'->Calls Tryz.prog 142 #[.slice ot t.length ct,.slice (some ⟨g,0,none⟩) 8 8] w' fun e w2=>e=.returned (.bool (t==h))/\Below w'.heap.size w' w2):=Lh fun g w' hr hb=>by
  have:=uo t h ot ct (some ⟨g,0,none⟩) 8 w' (hT.later hb) hr htl qO;rw[hhl]at this;exact this
 clear hA hT hR hV hh hhl;go_enter Tryz.func96,Tryz.ntmps96
 go_wp2_with fail;refine TG.out.mono ?_;rintro e W1 ⟨g,rfl,hr,hb⟩;go_wp2_with fail;refine(SM.out g W1 hr hb).mono ?_;rintro e W2 ⟨rfl,hb2⟩;go_wp2_with fail;go_ret;exact⟨rfl,Ks hb hb2⟩
