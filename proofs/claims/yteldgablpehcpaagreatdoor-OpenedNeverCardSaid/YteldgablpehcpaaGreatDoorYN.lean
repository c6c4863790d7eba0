/- YN -/
import Derived.Test.YteldgablpehcpaaGreatDoorAn17
import Derived.Test.YteldgablpehcpaaGreatDoorCi17
import Derived.Test.YteldgablpehcpaaGreatDoorErr
import Derived.Test.YteldgablpehcpaaGreatDoorOrb
import Derived.Test.YteldgablpehcpaaGreatDoorVr2
import Derived.Test.YteldgablpehcpaaGreatDoorOp15
import Derived.Test.YteldgablpehcpaaGreatDoorIns
set_option linter.unusedVariables false
set_option linter.unusedSimpArgs false
set_option maxRecDepth 100000
set_option maxHeartbeats 8000000
namespace Go.Proofs.YteldgablpehcpaaGreatDoor
open Go.RowKit
namespace Da
theorem Hs(bs:List UInt8)(i:Nat):(gw bs i).length=64:=od _ _
theorem Px(bs:List UInt8):gw bs 0=List.replicate 64 0:=by
 refine List.ext_getElem (by simp[gw,tb]) fun j h1 h2=>?_
 rw[List.getElem_replicate];simp only[gw,tb,List.getElem_map,Nat.not_lt_zero,if_false]
theorem Py(bs:List UInt8)(k:Nat):(gw bs k).set k (part bs k 4)=gw bs (k+1):=by
 unfold gw;rw[Cw];refine lI fun t ht=>?_
 by_cases e:t=k
 ·subst e;simp
 ·rw[if_neg e];by_cases e2:t<k
  ·rw[if_pos e2,if_pos qO]
  ·rw[if_neg e2,if_neg qO]
theorem UX(bs:List UInt8):gw bs 16=sx bs 0:=by
 unfold gw sx fw;refine lI fun t ht=>?_
 by_cases e:t<16
 ·rw[if_pos e,show min 4 (64-4*t)=4 by omega]
 ·rw[if_neg e,show min 4 (64-4*t)=0 by omega];rfl
theorem LJ(bs:List UInt8):(full bs).length % 64=0:=by
 rw[si];unfold zn;split<;>omega
theorem Hw(bs:List UInt8)(t:Nat):
  UInt32.ofNat ((bs.getD (4*t) 0).toNat*2^24)|||UInt32.ofNat ((bs.getD (4*t+1) 0).toNat*2^16)|||UInt32.ofNat ((bs.getD (4*t+2) 0).toNat*2^8)|||UInt32.ofNat (bs.getD (4*t+3) 0).toNat=part bs t 4:=by
 generalize hx0:(bs.getD (4*t) 0).toNat=x0;generalize hx1:(bs.getD (4*t+1) 0).toNat=x1;generalize hx2:(bs.getD (4*t+2) 0).toNat=x2;generalize hx3:(bs.getD (4*t+3) 0).toNat=x3;have key:∀(u:UInt32)(x:Nat),UInt32.ofNat (u.toNat*256)|||UInt32.ofNat x=(u<<<8)|||UInt32.ofNat x:=fun u x=>by
  congr 1
  apply UInt32.toNat_inj.1;simp[Nat.shiftLeft_eq]
 have k2:∀(x n:Nat),n<32->UInt32.ofNat (x*2^n)=UInt32.ofNat x<<<(UInt32.ofNat n):=fun x n hn=>by
  apply UInt32.toNat_inj.1;simp[Nat.shiftLeft_eq,Nat.mod_eq_of_lt (show n<4294967296 by omega),Nat.mod_eq_of_lt hn]
 simp only[part,key];rw[show 4*t+0=4*t from rfl,hx0,hx1,hx2,hx3,k2 x0 24 qD,k2 x1 16 qD,k2 x2 8 qD];apply UInt32.toBitVec_inj.1;simp only[UInt32.toBitVec_or,UInt32.toBitVec_shiftLeft];generalize (UInt32.ofNat x0).toBitVec=y0;generalize (UInt32.ofNat x1).toBitVec=y1;generalize (UInt32.ofNat x2).toBitVec=y2;generalize (UInt32.ofNat x3).toBitVec=y3;rw[show(UInt32.ofNat 24).toBitVec % (32:BitVec 32)=24#32 from rfl,show(UInt32.ofNat 16).toBitVec % (32:BitVec 32)=16#32 from rfl,show(UInt32.ofNat 8).toBitVec % (32:BitVec 32)=8#32 from rfl,show(8:UInt32).toBitVec % (32:BitVec 32)=8#32 from rfl,show(0:UInt32).toBitVec=0#32 from rfl];simp only[BitVec.shiftLeft_eq',BitVec.shiftLeft_or_distrib,<-BitVec.shiftLeft_add];simp
end Da
theorem eo(x:UInt32)(n:Nat)(h1:1<=n)(h2:n<=31)(w:World):Calls Tryz.prog 52 #[.int .u32 (x.toNat:Int),.int .u64 (n:Int)] w fun e w'=>e=.returned (.int .u32 ((Da.eH x n).toNat:Int))/\w'=w:=by
 go_enter Tryz.func52,Tryz.ntmps52
 go_wp2_with fail;go_ret;refine⟨?_,rfl⟩;rw[Fe,<-u32_or,<-qb,<-uL];rfl
theorem dA:(Tryz.prog.info? 28).map (·.size)=some 32:=qK
theorem cQ: Tryz.prog.underlying 28=some (.array 32 5):=qK
theorem d32_zero(w:World):Sem.run Tryz.prog (zeroValue 28) w=.ok (.agg (bytesV (List.replicate 32 0)).toArray) w:=qK
theorem I4: Tryz.prog.built 28 []=some (bytesV (List.replicate 32 0)).toArray:=qK
theorem I5: Tryz.prog.built 121 []=some (ar (List.replicate 64 0)).toArray:=qK
structure Rds(W:World):Prop where
 cubes:Var W 21 Da.cubes
 begins:Var W 20 Da.begins
theorem Rds.later{W W':World}(h:Rds W)(hb:Below W.heap.size W W'):Rds W':=⟨h.cubes.later hb,h.begins.later hb⟩
def GM:Value->Nat
 | .slice _ n _=>n
 |_=>0
def Rp1(z:List UInt8)(W1:World)(v:Value)(wr:World):Prop:=
 ∃d L:Nat,z.length+1+d=L/\d<=Da.zn z.length/\wr.ownsRow W1.heap.size 5 1 v L (bytesV (z++128::List.replicate d 0))/\Below W1.heap.size W1 wr
def Rp2(z:List UInt8)(W1:World)(v i:Value)(wr:World):Prop:=
 ∃k L:Nat,k<=8/\i=.int .i64 (7-(k:Int))/\z.length+1+Da.zn z.length+k=L/\wr.ownsRow W1.heap.size 5 1 v L (bytesV ((z++128::List.replicate (Da.zn z.length) 0)++(Da.be8 (8*z.length)).take k))/\Below W1.heap.size W1 wr
def Ch3(q:List UInt8)(gs M:Nat)(X:World)(i:Value)(wr:World):Prop:=
 ∃k:Nat,64*k<=M/\i=.int .i64 ((64*k:Nat):Int)/\Arr wr gs 120 (ar (Da.hx q k))/\Below X.heap.size X wr
def Ch4(bs:List UInt8)(st:List UInt32)(gs gw:Nat)(X:World)(i:Value)(wr:World):Prop:=
 ∃t:Nat,t<=16/\i=.int .i64 t/\Arr wr gw 121 (ar (Da.gw bs t))/\Arr wr gs 120 (ar st)/\Below X.heap.size X wr
def Ch5(bs:List UInt8)(st:List UInt32)(gs gw:Nat)(X:World)(i:Value)(wr:World):Prop:=
 ∃t:Nat,16<=t/\t<=64/\i=.int .i64 t/\Arr wr gw 121 (ar (Da.sx bs (t-16)))/\Arr wr gs 120 (ar st)/\Below X.heap.size X wr
def Ch6(ws st:List UInt32)(gs gw:Nat)(X:World)(a b c d e f gg h i:Value)(wr:World):Prop:=
 ∃(k:Nat)(s:Da.St),k<=64/\i=.int .i64 k/\Da.rs (Da.St.of st) ws k=s/\a=.int .u32 (s.a.toNat:Int)/\b=.int .u32 (s.b.toNat:Int)/\c=.int .u32 (s.c.toNat:Int)/\d=.int .u32 (s.d.toNat:Int)/\
  e=.int .u32 (s.e.toNat:Int)/\f=.int .u32 (s.f.toNat:Int)/\gg=.int .u32 (s.g.toNat:Int)/\h=.int .u32 (s.h.toNat:Int)/\
  Arr wr gw 121 (ar ws)/\Arr wr gs 120 (ar st)/\Below X.heap.size X wr
def Ro7(st:List UInt32)(g g2:Nat)(w:World)(i:Value)(wr:World):Prop:=
 ∃k:Nat,k<=8/\i=.int .i64 k/\Arr wr g2 28 (bytesV (dgp st (4*k)))/\Arr wr g 28 (bytesV (List.replicate 32 0))/\Below w.heap.size w wr
theorem jH{W X:World}{b n i:Nat}{T:TypeId}{l l':List UInt32}(h:Arr W b T (ar l)/\Below n X W)(hn:n<=b)(x:UInt32)(e:l.set i x=l'):
  Arr (W.setCell ⟨b,i,none⟩ (.int .u32 (x.toNat:Int))) b T (ar l')/\Below n X (W.setCell ⟨b,i,none⟩ (.int .u32 (x.toNat:Int))):=
 ⟨by rw[<-e,<-lJ];exact h.1.set i _,h.1.below h.2 hn i _⟩
theorem qx{W X:World}{b n i:Nat}{T:TypeId}{l l':List UInt8}(h:Arr W b T (bytesV l)/\Below n X W)(hn:n<=b)(x:UInt8)(e:l.set i x=l'):
  Arr (W.setCell ⟨b,i,none⟩ (.int .u8 (x.toNat:Int))) b T (bytesV l')/\Below n X (W.setCell ⟨b,i,none⟩ (.int .u8 (x.toNat:Int))):=
 ⟨by rw[<-e,<-dP];exact h.1.set i _,h.1.below h.2 hn i _⟩
theorem Uk(n L:Nat)(h1:n+1<=L)(h2:L<n+1+Da.zn n):L % 64≠56:=by
 unfold Da.zn at h2;split at h2<;>omega
theorem Ul(n:Nat):(n+1+Da.zn n) % 64=56:=by
 unfold Da.zn;split<;>omega
theorem ME(m k:Nat)(h:k<8):(Da.be8 m).take (k+1)=(Da.be8 m).take k++[UInt8.ofNat (m / 256^(7-k))]:=by
 rw[List.take_add_one,List.getElem?_eq_getElem (by rw[Da.fx];exact h)];simp[Da.be8]
theorem Um(Z Z8 Z64:Array Value)(hZ:Z=(bytesV (List.replicate 32 0)).toArray)(hzs:∀w,Sem.run Tryz.prog (zeroValue 28) w=.ok (.agg Z) w)(hZ8:Z8=(ar (List.replicate 8 0)).toArray)(hzs8:∀w,Sem.run Tryz.prog (zeroValue 120) w=.ok (.agg Z8) w)
  (hZ64:Z64=(ar (List.replicate 64 0)).toArray) (hzs64:∀w,Sem.run Tryz.prog (zeroValue 121) w=.ok (.agg Z64) w) (hb64: Tryz.prog.built 121 []=some Z64) (hb32: Tryz.prog.built 28 []=some Z) (z:List UInt8) (o:Option Addr) (c:Nat) (w:World)
  (hR:RowIs w o (bytesV z) c) (hV:Rds w) (hl:z.length<=100000):
  Calls Tryz.prog 25 #[.slice o z.length c] w fun e w'=>e=.returned (.agg (bytesV (Da.sha z)).toArray)/\Below w.heap.size w w':=by
 obtain⟨n,hn⟩:∃n,z.length=n:=⟨_,rfl⟩;obtain⟨g0,hg⟩:∃g,w.heap.size=g:=⟨_,rfl⟩;obtain⟨W1,hW1⟩:∃W1,w.alloc (Obj.cells Z 28)=W1:=⟨_,rfl⟩;have hb1:Below w.heap.size w W1:=by rw[<-hW1];exact qB.alloc qN _
 have hs1:W1.heap.size=g0+1:=by rw[<-hW1,World.size_alloc,hg]
 have hR1:Arr W1 g0 28 (bytesV (List.replicate 32 0)):=by rw[<-hW1,hZ,<-hg];exact Arr.made _ _ _
 obtain⟨W2,hW2⟩:∃W2,W1.alloc (.cells #[] 5)=W2:=⟨_,rfl⟩;have HO2:Hid (W2.ownsRow W1.heap.size 5 1 (.slice (some ⟨W1.heap.size,0,none⟩) 0 0) 0 (bytesV [])):=Lh (by rw[<-hW2];exact World.ownsRow_lit W1 #[] 0 qN (Nat.zero_le _) rfl);have hb2:Below W1.heap.size W1 W2:=by rw[<-hW2];exact qB.alloc qN _
 have HP2:Hid (RowIs W2 o (bytesV z) c):=Lh ((hR.later hb1).later hb2);have HB1:=Lh hb1;have HB2:=Lh hb2;have HV1:=Lh (hV.later hb1);have HR1:=Lh hR1;have HW1:=Lh hW1;have HW2:=Lh hW2;have HS1:=Lh hs1;have HG:=Lh hg;have HN:=Lh hn;rw[hn]at hl⊢;have h1:=hR.le;have h2:=hR.cap;simp only[bytesV_length]at h1;rw[hn]at h1;unfold maxLen at h2;have hZL:=Da.TX n;have HZ:=Lh hZ;have HZ8:=Lh hZ8;have HZ64:=Lh hZ64;have HBU64:=Lh hb64;have HBU32:=Lh hb32;clear hR hV hb1 hb2 hR1 hW1 hW2 hs1 hg hn hZ hZ8 hZ64 hb64 hb32;go_enter Tryz.func25,Tryz.ntmps25
 go_upto_region 1 with fail
 rw[HW1.out];go_wp2_with (first|rw[HW2.out]|(at_builtin;refine aL rfl (.tmp 27) (.tmp 28) rfl W1.heap.size _ 0 [] rfl HO2.out o n c z rfl HN.out.symm HP2.out qO HB2.out.size ?_))
 intro v3 W3 hv3 hg3;have HO3:Hid (W3.ownsRow W1.heap.size 5 1 v3 n (bytesV z)):=Lh (by simpa using hv3);have HB3:=Lh (own_below (n:=0) HB2.out HO2.out hg3);obtain⟨W4,hW4⟩:∃W4,W3.alloc (.cells #[.int .u8 128] 5)=W4:=⟨_,rfl⟩;have HO4:Hid (W4.ownsRow W1.heap.size 5 1 v3 n (bytesV z)):=Lh (by rw[<-hW4];exact World.ownsRow.alloc HO3.out _);have HZ4:Hid (RowIs W4 (some ⟨W3.heap.size,0,none⟩) (bytesV [128]) 1):=Lh (by rw[<-hW4];exact kR W3 128);have HB4:Hid (Below W1.heap.size W1 W4):=Lh (by rw[<-hW4];exact HB3.out.alloc HB3.out.size _);have HW4:=Lh hW4;clear hv3 hg3 hW4;go_wp2_with (first|rw[HW4.out]|(at_builtin;refine aL rfl (.tmp 29) (.tmp 30) rfl W1.heap.size _ n z rfl HO4.out _ 1 1 [128] rfl rfl HZ4.out qO HB4.out.size ?_))
 intro v5 W5 hv5 hg5;have HO5:Hid (W5.ownsRow W1.heap.size 5 1 v5 (n+1) (bytesV (z++128::List.replicate 0 0))):=Lh hv5;have HB5:=Lh (own_below (n:=0) HB4.out HO4.out hg5);clear hv5 hg5;go_wp2_with fail;go_loopw [3] (fun v wr=>Rp1 z W1 v wr) (fun v _=>n+1+Da.zn n-GM v)
 case atStart=>exact⟨0,n+1,by rw[HN.out],Nat.zero_le _,HO5.out,HB5.out⟩
 case round=>
  rename World=>X1
  obtain⟨d,L,hL,hd,hv,hb⟩:=hrel;rw[HN.out]at hL hd;have HV2:=Lh hv;have HB:=Lh hb;have HL:=Lh hL;obtain⟨ov,cv,rfl,_⟩:=cV hv (by rw[bytesV_length,List.length_append,List.length_cons,List.length_replicate,HN.out];omega);have hL2:n+1<=L:=qO;have hL3:L<=n+1+Da.zn n:=qO;clear hv hb hL;by_cases hlt:L<n+1+Da.zn n
  ·have hc:=Uk n L hL2 hlt;have hm:Int.tmod (L:Int) 64=((L % 64:Nat):Int):=rfl;have hd3:(((L % 64:Nat):Int)==56)=false:=beq_false_of_ne qO;have hd4:(((L % 64:Nat):Int) !=56)=true:=by rw[bne_iff_ne];omega
   obtain⟨W6,hW6⟩:∃W6,X1.alloc (.cells #[.int .u8 0] 5)=W6:=⟨_,rfl⟩;have HO6:Hid (W6.ownsRow W1.heap.size 5 1 _ L (bytesV (z++128::List.replicate d 0))):=Lh (by rw[<-hW6];exact World.ownsRow.alloc HV2.out _);have HZ6:Hid (RowIs W6 (some ⟨X1.heap.size,0,none⟩) (bytesV [0]) 1):=Lh (by rw[<-hW6];exact kR X1 0);have HB6:Hid (Below W1.heap.size W1 W6):=Lh (by rw[<-hW6];exact HB.out.alloc HB.out.size _);have HW6:=Lh hW6;clear hW6;go_wp2_with (first|rw[HW6.out]|(at_builtin;refine aL rfl (.tmp 36) (.tmp 37) rfl W1.heap.size _ L (z++128::List.replicate d 0) rfl HO6.out _ 1 1 [0] rfl rfl HZ6.out qO HB6.out.size ?_))
   intro v7 W7 hv7 hg7;have HO7:Hid (W7.ownsRow W1.heap.size 5 1 v7 (L+1) (bytesV (z++128::List.replicate (d+1) 0))):=Lh (by
    rw[List.replicate_succ'];simpa using hv7)
   have HB7:=Lh (own_below (n:=0) HB6.out HO6.out hg7);obtain⟨ov',cv',rfl,_⟩:=cV HO7.out (by rw[bytesV_length,List.length_append,List.length_cons,List.length_replicate,HN.out];have:=HL.out;omega);clear hv7 hg7;go_wp2_with fail;exact⟨⟨d+1,L+1,by rw[HN.out];have:=HL.out;omega,by rw[HN.out];have:=HL.out;omega,HO7.out,HB7.out⟩,by simp only[GM];omega⟩
  ·have hLe:L=n+1+Da.zn n:=qO;obtain rfl:d=Da.zn n:=by have:=HL.out;omega
   have hz:=Ul n;have hm:Int.tmod (L:Int) 64=56:=by rw[show Int.tmod (L:Int) 64=((L % 64:Nat):Int) from rfl,hLe,hz];rfl
   obtain⟨zs,hzse⟩:∃zs,z++128::List.replicate (Da.zn n) 0=zs:=⟨_,rfl⟩;have HZS:=Lh hzse;have hN8:IntKind.u64.wrap (n:Int)=(n:Int):=by rw[IntKind.wrap_u64];omega
   have HLE:=Lh hLe;clear hz hzse hLe hlt hL3;go_wp2_with fail;go_loopw [3,5] (fun v i wr=>Rp2 z W1 v i wr) (fun _ i _=>(intOf i+1).toNat)
   case atStart=>exact⟨0,L,Nat.zero_le _,by go_num,by rw[HN.out];have:=HLE.out;omega,by rw[HN.out];simpa using HV2.out,HB.out⟩
   case round=>
    rename World=>X2
    obtain⟨k,M,hk,rfl,hM,hv,hb⟩:=hrel;rw[HN.out]at hM hv;have HV3:=Lh hv;have HB3:=Lh hb;have HM:=Lh hM;obtain⟨ov,cv,rfl,_⟩:=cV hv (by rw[bytesV_length,List.length_append,List.length_append,List.length_cons,List.length_replicate,List.length_take,Da.fx,HN.out];omega);clear hv hb hM;by_cases hlt:k<8
    ·obtain⟨e,he⟩:∃e,7-k=e:=⟨_,rfl⟩;obtain⟨s,hs⟩:∃s,8*e=s:=⟨_,rfl⟩;have hke:(7:Int)-(k:Int)=(e:Int):=qO;have hes:(8:Int)*(e:Int)=(s:Int):=qO;have hs56:s<=56:=qO;have HV:Hid ((n:Int)*8 / 2^s % 256=((UInt8.ofNat (8*n / 256^(7-k))).toNat:Int)):=Lh (by
      rw[UInt8.toNat_ofNat',he,<-hs,Nat.mul_comm 8 n,show(256:Nat)=2^8 from rfl,<-Nat.pow_mul];rw[Int.natCast_emod,Int.natCast_ediv,Int.natCast_pow,Int.natCast_mul];rfl)
     have HBS:=Lh (ME (8*n) k hlt);obtain⟨y,hy⟩:∃y,UInt8.ofNat (8*n / 256^(7-k))=y:=⟨_,rfl⟩;rw[hy]at HV HBS;obtain⟨W6,hW6⟩:∃W6,X2.alloc (.cells #[.int .u8 (y.toNat:Int)] 5)=W6:=⟨_,rfl⟩;have HO6:Hid (W6.ownsRow W1.heap.size 5 1 _ M (bytesV ((z++128::List.replicate (Da.zn n) 0)++(Da.be8 (8*n)).take k))):=Lh (by rw[<-hW6];exact World.ownsRow.alloc HV3.out _);have HZ6:Hid (RowIs W6 (some ⟨X2.heap.size,0,none⟩) (bytesV [y]) 1):=Lh (by rw[<-hW6];exact kR X2 y);have HB6:Hid (Below W1.heap.size W1 W6):=Lh (by rw[<-hW6];exact HB3.out.alloc HB3.out.size _);have HW6:=Lh hW6;clear hW6 he hs hy;have hvv:=HV.out;go_wp2_with (first|rw[HW6.out]|(at_builtin;refine aL rfl (.tmp 47) (.tmp 54) rfl W1.heap.size _ M ((z++128::List.replicate (Da.zn n) 0)++(Da.be8 (8*n)).take k) rfl HO6.out _ 1 1 [y] rfl rfl HZ6.out (by have:=HM.out;omega) HB6.out.size ?_))
     intro v7 W7 hv7 hg7;have HO7:Hid (W7.ownsRow W1.heap.size 5 1 v7 (M+1) (bytesV ((z++128::List.replicate (Da.zn n) 0)++(Da.be8 (8*n)).take (k+1)))):=Lh (by
      rw[HBS.out];simpa using hv7)
     have HB7:=Lh (own_below (n:=0) HB6.out HO6.out hg7);obtain⟨ov',cv',rfl,_⟩:=cV HO7.out (by rw[bytesV_length,List.length_append,List.length_append,List.length_cons,List.length_replicate,List.length_take,Da.fx,HN.out];have:=HM.out;omega);clear hv7 hg7;go_wp2_with fail;exact⟨⟨k+1,M+1,qO,by rw[show((e:Int)-1)=7-((k+1:Nat):Int) by omega],by rw[HN.out];have:=HM.out;omega,by rw[HN.out];exact HO7.out,HB7.out⟩,by simp only[intOf];omega⟩
    ·obtain rfl:k=8:=qO;have hF:(z++128::List.replicate (Da.zn n) 0)++(Da.be8 (8*n)).take 8=Da.full z:=by
      rw[List.take_of_length_le (by rw[Da.fx];exact Nat.le_refl _),<-HN.out];simp[Da.full,Da.pad]
     have hfl:(Da.full z).length=M:=by rw[<-hF,List.length_append,List.length_append,List.length_cons,List.length_replicate,List.length_take,Da.fx,HN.out];have:=HM.out;omega
     have hov:=HV3.out;rw[hF]at hov;obtain⟨q,hq⟩:∃q,Da.full z=q:=⟨_,rfl⟩;have hqm:=Da.LJ z;rw[hq]at hov hfl hqm;obtain⟨o3,c3,hoe,hrow⟩:=cV hov (by rw[bytesV_length,hfl]);cases hoe
     have hblk:∀ad,ov=some ad->W1.heap.size<=ad.block:=fun ad e=>(World.ownsRow.lt hov ad.block (by rw[e];rfl)).1
     have hm64:M % 64=0:=by rw[<-hfl];exact hqm
     have hm200:M<=200000:=by have:=HM.out;omega
     have HROW:=Lh hrow;have HBLK:=Lh hblk;have HQ:=Lh hq;have HFL:=Lh hfl;rw[show(7:Int)-((8:Nat):Int)= -1 from rfl];clear hov hF hfl hq hqm hrow hblk hlt HV3 HM HLE HV2 HB HL HZS;have HB20:Hid (Below w.heap.size w X2):=Lh (Ks HB1.out HB3.out);have HV2:Hid (Rds X2):=Lh (HV1.out.later HB3.out);have HR2:Hid (Arr X2 g0 28 (bytesV (List.replicate 32 0))):=Lh (HR1.out.later HB3.out HR1.out.lt);obtain⟨gs,hgs⟩:∃gs,X2.heap.size=gs:=⟨_,rfl⟩;obtain⟨X3,hX3⟩:∃X3,X2.alloc (.cells Z8 120)=X3:=⟨_,rfl⟩;have hA3:Arr X3 gs 120 (ar (List.replicate 8 0)):=by rw[<-hX3,HZ8.out,<-hgs];exact Arr.made _ _ _
     obtain⟨F,hF⟩:∃F,(ar Da.begins).toArray=F:=⟨_,rfl⟩;obtain⟨X4,hX4⟩:∃X4,X3.setRow gs F=X4:=⟨_,rfl⟩;have HA4:Hid (Arr X4 gs 120 (ar (Da.hx q 0))):=Lh (by rw[<-hX4,<-hF];exact setRow_heap _ _ _ _ _ _ hA3);have HB4:Hid (Below X2.heap.size X2 X4):=Lh (by rw[<-hX4,<-hX3];exact(qB.alloc qN _).trans (aA (Nat.le_of_eq hgs)));have HF1:Hid (X2.rangeAt 20 0 (ar Da.begins)):=Lh HV2.out.begins.at_;have HF2:Hid ((Tryz.prog.info? 120).map (·.size)=some (ar Da.begins).length):=Lh (by rw[iA];rfl);have HF3:Hid (X3.heap[gs]? =some (.cells Z8 120 (0,0))):=Lh (by rw[HZ8.out];exact hA3);have HF4:Hid ((Tryz.prog.info? 120).map (·.size)=some F.size):=Lh (by rw[iA,<-hF];rfl);have HF5:Hid (Z8.size=F.size):=Lh (by rw[HZ8.out,<-hF];rfl);have HF6:Hid (F.all (·.oneCell')=true):=Lh (by rw[<-hF];exact all_oneCell_toArray (jB _));have HFE:=Lh hF;have HX3:=Lh hX3;have HX4:=Lh hX4;have HGS:=Lh hgs;clear hgs hX3 hA3 hF hX4 HB1 HV1 HR1 HB3 HO2 HP2 HB2 HW1 HW2 HO3 HO4 HZ4 HW4 HO5 HB5;go_upto_region 9 with fail
     apply wp_region_lit;refine wpList_load_mid rfl 120 (.global 20) rfl 20 0 rfl (ar Da.begins) _ HF1.out fK rfl HF2.out ?_;rw[HFE.out];refine qP ?_;rw[HX3.out,HGS.out];refine wpList_store_rowTo rfl 120 (.tmp 6) (.tmp 56) rfl rfl gs F rfl rfl 120 Z8 HF3.out HF4.out HF5.out HF6.out ?_;rw[HX4.out];go_upto_region 11 with fail
     clear hzs8 HF1 HF2 HF3 HF4 HF5 HF6 HFE HX3 HX4;go_wp2_with fail;go_loopw [7] (fun i wr=>Ch3 q gs M X2 i wr) (fun i _=>M-(intOf i).toNat)
     case atStart=>exact⟨0,Nat.zero_le _,rfl,HA4.out,HB4.out⟩
     case round=>
      rename World=>Y0
      obtain⟨kc,hkc,rfl,hS0,hB0⟩:=hrel;by_cases hlt:64*kc<M
      ·skip
       obtain⟨gw,hgw⟩:∃gw,Y0.heap.size=gw:=⟨_,rfl⟩;obtain⟨aa,ha⟩:∃a,64*kc=a:=⟨_,rfl⟩;obtain⟨bs,hbs⟩:∃bs,(q.drop (64*kc)).take 64=bs:=⟨_,rfl⟩;have hbl:bs.length=64:=by rw[<-hbs,List.length_take,List.length_drop,HFL.out];omega
       have hbg:∀j,j<64->bs.getD j 0=q.getD (aa+j) 0:=fun j hj=>by
        rw[<-hbs,<-ha];simp[List.getD_eq_getElem?_getD,List.getElem?_take,hj,List.getElem?_drop]
       obtain⟨st,hst⟩:∃st,Da.hx q kc=st:=⟨_,rfl⟩;rw[hst]at hS0;have hsl:st.length=8:=by rw[<-hst,Da.rl]
       have HNX:Hid (Da.hx q (kc+1)=Da.mB st bs):=Lh (by rw[Da.hx,hst,hbs]);obtain⟨Y1,hY1⟩:∃Y1,Y0.alloc (.cells Z64 121)=Y1:=⟨_,rfl⟩;have hA1:Arr Y1 gw 121 (ar (List.replicate 64 0)):=by rw[<-hY1,HZ64.out,<-hgw];exact Arr.made _ _ _
       obtain⟨Y2,hY2⟩:∃Y2,Y1.setRow gw Z64=Y2:=⟨_,rfl⟩;have hb2:Below Y0.heap.size Y0 Y2:=by rw[<-hY2,<-hY1];exact(qB.alloc qN _).trans (aA (Nat.le_of_eq hgw))
       have HA2:Hid (Arr Y2 gw 121 (ar (Da.gw bs 0))):=Lh (by rw[Da.Px,<-hY2,HZ64.out];exact setRow_heap _ _ _ _ _ _ hA1);have HS2:Hid (Arr Y2 gs 120 (ar st)):=Lh (hS0.later hb2 hS0.lt);have HB2:Hid (Below X2.heap.size X2 Y2):=Lh (Ks hB0 hb2);have hne:gs<gw:=by rw[<-hgw];exact hS0.lt
       have HF3:Hid (Y1.heap[gw]? =some (.cells Z64 121 (0,0))):=Lh (by rw[HZ64.out];exact hA1);have HF4:Hid ((Tryz.prog.info? 121).map (·.size)=some Z64.size):=Lh (by rw[AM,HZ64.out];rfl);have HF6:Hid (Z64.all (·.oneCell')=true):=Lh (by rw[HZ64.out];exact all_oneCell_toArray (jB _));have HA:=Lh ha;have HBL:=Lh hbl;have HBG:=Lh hbg;have HSL:=Lh hsl;have HY1:=Lh hY1;have HY2:=Lh hY2;have HGW:=Lh hgw;have hlt2:aa<M:=qO;have hd1:decide (((aa:Nat):Int)<(M:Int))=true:=by simpa using hlt2
       rw[ha];clear hbs hbg hst hsl hY1 hA1 hY2 hb2 hgw hS0 hB0 ha hbl;go_upto_region 13 with fail
       apply wp_region_lit;refine bN rfl 121 _ rfl [] qS Z64 HBU64.out ?_;refine qP ?_;rw[HY1.out,HGW.out];refine wpList_store_rowTo rfl 121 (.tmp 8) (.tmp 63) rfl rfl gw Z64 rfl rfl 121 Z64 HF3.out HF4.out rfl HF6.out ?_;rw[HY2.out];clear HY1 HY2 HF3 HF4 HF6 HGW;obtain⟨b1,off1,rfl,hb1,hcell⟩:=HROW.out.cells (by rw[bytesV_length,HFL.out];omega);have HCL:Hid (∀p,p<M->X2.cell? ⟨b1,off1+p,none⟩=some (.int .u8 ((q.getD p 0).toNat:Int))):=Lh fun p hp=>hcell p _ (aB q p (by rw[HFL.out];exact hp))
       have HBB:=Lh hb1;clear hcell hb1;have ham:aa+64<=M:=by have:=HA.out;omega
       go_wp2_with fail;go_loopw [9] (fun i wr=>Ch4 bs st gs gw X2 i wr) (fun i _=>16-(intOf i).toNat)
       case atStart=>exact⟨0,Nat.zero_le _,rfl,HA2.out,HS2.out,HB2.out⟩
       case round=>
        rename World=>V0
        obtain⟨t,ht,rfl,hA0,hS0,hB0⟩:=hrel;by_cases hlt4:t<16
        ·as_aux_lemma=>
         have hd1:decide ((t:Int)<16)=true:=by simpa using (by omega:(t:Int)<16)
         obtain⟨p0,hp0⟩:∃p,aa+4*t=p:=⟨_,rfl⟩;obtain⟨f,hf⟩:∃f,4*t=f:=⟨_,rfl⟩;obtain⟨p1,hp1⟩:∃p,p0+1=p:=⟨_,rfl⟩;obtain⟨p2,hp2⟩:∃p,p0+2=p:=⟨_,rfl⟩;obtain⟨p3,hp3⟩:∃p,p0+3=p:=⟨_,rfl⟩;have hpm:p3<M:=qO;have e0:IntKind.i64.wrap ((4:Int)*(t:Int))=(f:Int):=by rw[IntKind.wrap_i64];omega
         have e1:IntKind.i64.wrap ((aa:Int)+(f:Int))=(p0:Int):=by rw[IntKind.wrap_i64];omega
         have e2:IntKind.i64.wrap ((p0:Int)+1)=(p1:Int):=by rw[IntKind.wrap_i64];omega
         have e3:IntKind.i64.wrap ((p0:Int)+2)=(p2:Int):=by rw[IntKind.wrap_i64];omega
         have e4:IntKind.i64.wrap ((p0:Int)+3)=(p3:Int):=by rw[IntKind.wrap_i64];omega
         have l1:(p0:Int)<(M:Int):=qO;have l2:(p1:Int)<(M:Int):=qO;have l3:(p2:Int)<(M:Int):=qO;have l4:(p3:Int)<(M:Int):=qO;have l5:(t:Int)<64:=qO;have hW:Da.part bs t 4=UInt32.ofNat ((q.getD p0 0).toNat*2^24)|||UInt32.ofNat ((q.getD p1 0).toNat*2^16)|||UInt32.ofNat ((q.getD p2 0).toNat*2^8)|||UInt32.ofNat (q.getD p3 0).toNat:=by
          rw[<-Da.Hw,HBG.out (4*t) qO,HBG.out (4*t+1) qO,HBG.out (4*t+2) qO,HBG.out (4*t+3) qO,<-hp1,<-hp2,<-hp3,<-hp0];rfl
         have hc:∀p,p<M->V0.cell? ⟨b1,off1+p,none⟩=some (.int .u8 ((q.getD p 0).toNat:Int)):=fun p hp=>by rw[hB0.cell (p:=⟨b1,off1+p,none⟩) HBB.out];exact HCL.out p hp
         have c0:=hc p0 qO;have c1:=hc p1 qO;have c2:=hc p2 qO;have c3:=hc p3 qO;generalize q.getD p0 0=x0 at c0 hW;generalize q.getD p1 0=x1 at c1 hW;generalize q.getD p2 0=x2 at c2 hW;generalize q.getD p3 0=x3 at c3 hW;obtain⟨y,hy⟩:∃y,Da.wi (Da.gw bs t) t=y:=⟨_,rfl⟩;have hcw:V0.cell? ⟨gw,t,none⟩=some (.int .u32 (y.toNat:Int)):=by rw[hA0.cell,<-hy];exact dS _ _ (by rw[Da.Hs];omega)
         have hfw:=hA0.frozen t;have HST:=Lh (Da.Py bs t);have HW:=Lh hW;have HA0:=Lh hA0;have HS0:=Lh hS0;have HB0:=Lh hB0;have k0:=UInt8.toNat_lt x0;have k1:=UInt8.toNat_lt x1;have k2:=UInt8.toNat_lt x2;have k3:=UInt8.toNat_lt x3;clear hA0 hS0 hB0 hc hW hy hp0 hf hp1 hp2 hp3;go_wp2_with fail;refine Qt.di 43 qK qK ?_;simp only[List.take_succ_cons,List.take_zero,List.drop_succ_cons,List.drop_zero];repeat (quiet_step (fail))
         refine wpQuiet_nil ?_;intro _ hw';obtain⟨nq,hw''⟩:=hw';subst hw'';go_wp2_with fail;have hv:bits .or .u32 (bits .or .u32 (bits .or .u32 ((x0.toNat:Int)*16777216) ((x1.toNat:Int)*65536)) ((x2.toNat:Int)*256)) (x3.toNat:Int)=((Da.part bs t 4).toNat:Int):=by
          have z0:((UInt32.ofNat (x0.toNat*2^24)).toNat:Int)=(x0.toNat:Int)*16777216:=by rw[UInt32.toNat_ofNat',Nat.mod_eq_of_lt qO];rfl
          have z1:((UInt32.ofNat (x1.toNat*2^16)).toNat:Int)=(x1.toNat:Int)*65536:=by rw[UInt32.toNat_ofNat',Nat.mod_eq_of_lt qO];rfl
          have z2:((UInt32.ofNat (x2.toNat*2^8)).toNat:Int)=(x2.toNat:Int)*256:=by rw[UInt32.toNat_ofNat',Nat.mod_eq_of_lt qO];rfl
          have z3:((UInt32.ofNat x3.toNat).toNat:Int)=(x3.toNat:Int):=by rw[UInt32.toNat_ofNat',Nat.mod_eq_of_lt qO]
          rw[HW.out,<-u32_or,<-u32_or,<-u32_or,z0,z1,z2,z3]
         refine⟨⟨t+1,qO,by go_num,?_,?_,?_⟩,by simp[intOf];omega⟩
         ·rw[hv,<-HST.out,<-lJ];exact(HA0.out.drewN nq).set t _
         ·exact(HS0.out.drewN nq).ne (HA0.out.drewN nq) qO _ _
         ·exact(HA0.out.drewN nq).below (Kit.dn HB0.out nq) (by rw[HGS.out];omega) _ _
        ·obtain rfl:t=16:=qO;rw[show(((16:Nat):Int))=16 from rfl];rw[Da.UX]at hA0;have HA0:=Lh hA0;have HS0:=Lh hS0;have HB0:=Lh hB0;clear hA0 hS0 hB0 HA2 HS2 HB2 HBG;go_wp2_with fail;go_loopw [10] (fun i wr=>Ch5 bs st gs gw X2 i wr) (fun i _=>64-(intOf i).toNat)
         case atStart=>exact⟨16,Nat.le_refl _,qO,rfl,HA0.out,HS0.out,HB0.out⟩
         case round=>
          rename World=>V1
          obtain⟨t,ht1,ht2,rfl,hA1,hS1,hB1⟩:=hrel;by_cases hlt5:t<64
          ·as_aux_lemma=>
           have hd1:decide ((t:Int)<64)=true:=by simpa using (by omega:(t:Int)<64)
           have hce:∀j,j<64->V1.cell? ⟨gw,j,none⟩=some (.int .u32 ((Da.wi (Da.sx bs (t-16)) j).toNat:Int)):=fun j hj=>by
            rw[hA1.cell];exact dS _ _ (by rw[Da.iW];omega)
           have HST:Hid ((Da.sx bs (t-16)).set t (Da.nw (Da.sx bs (t-16)) t)=Da.sx bs (t+1-16)):=Lh (by
            have:=Da.Fa bs (t-16);rw[show t-16+16=t by omega]at this;rw[this];congr 1;omega)
           have hfr:=hA1.frozen t;have c1:=hce (t-2) qO;have c2:=hce (t-7) qO;have c3:=hce (t-15) qO;have c4:=hce (t-16) qO;have c5:=hce t qO;have HNW:Hid (Da.nw (Da.sx bs (t-16)) t=Da.add (Da.add (Da.add (Da.small (Da.wi (Da.sx bs (t-16)) (t-2)) 17 19 10) (Da.wi (Da.sx bs (t-16)) (t-7))) (Da.small (Da.wi (Da.sx bs (t-16)) (t-15)) 7 18 3)) (Da.wi (Da.sx bs (t-16)) (t-16))):=Lh rfl;generalize Da.wi (Da.sx bs (t-16)) (t-2)=x1 at c1 HNW;generalize Da.wi (Da.sx bs (t-16)) (t-7)=x2 at c2 HNW;generalize Da.wi (Da.sx bs (t-16)) (t-15)=x3 at c3 HNW;generalize Da.wi (Da.sx bs (t-16)) (t-16)=x4 at c4 HNW;have HSM1:Hid (Da.small x1 17 19 10=Da.eH x1 17^^^Da.eH x1 19^^^Da.shr x1 10):=Lh rfl;have HSM3:Hid (Da.small x3 7 18 3=Da.eH x3 7^^^Da.eH x3 18^^^Da.shr x3 3):=Lh rfl;have T1:Hid (∀v,Calls Tryz.prog 52 #[.int .u32 (x1.toNat:Int),.int .u64 17] v fun e w'=>e=.returned (.int .u32 ((Da.eH x1 17).toNat:Int))/\w'=v):=Lh fun v=>eo x1 17 qO qO _
           have T2:Hid (∀v,Calls Tryz.prog 52 #[.int .u32 (x1.toNat:Int),.int .u64 19] v fun e w'=>e=.returned (.int .u32 ((Da.eH x1 19).toNat:Int))/\w'=v):=Lh fun v=>eo x1 19 qO qO _
           have T3:Hid (∀v,Calls Tryz.prog 52 #[.int .u32 (x3.toNat:Int),.int .u64 7] v fun e w'=>e=.returned (.int .u32 ((Da.eH x3 7).toNat:Int))/\w'=v):=Lh fun v=>eo x3 7 qO qO _
           have T4:Hid (∀v,Calls Tryz.prog 52 #[.int .u32 (x3.toNat:Int),.int .u64 18] v fun e w'=>e=.returned (.int .u32 ((Da.eH x3 18).toNat:Int))/\w'=v):=Lh fun v=>eo x3 18 qO qO _
           generalize Da.eH x1 17=y1 at T1 HSM1;generalize Da.eH x1 19=y2 at T2 HSM1;generalize Da.eH x3 7=y3 at T3 HSM3;generalize Da.eH x3 18=y4 at T4 HSM3;have e1:IntKind.i64.wrap ((t:Int)-2)=((t-2:Nat):Int):=by rw[IntKind.wrap_i64];omega
           have e2:IntKind.i64.wrap ((t:Int)-7)=((t-7:Nat):Int):=by rw[IntKind.wrap_i64];omega
           have e3:IntKind.i64.wrap ((t:Int)-15)=((t-15:Nat):Int):=by rw[IntKind.wrap_i64];omega
           have e4:IntKind.i64.wrap ((t:Int)-16)=((t-16:Nat):Int):=by rw[IntKind.wrap_i64];omega
           have l1:((t-2:Nat):Int)<64:=qO;have l2:((t-7:Nat):Int)<64:=qO;have l3:((t-15:Nat):Int)<64:=qO;have l4:((t-16:Nat):Int)<64:=qO;have l5:(t:Int)<64:=qO;have HA1:=Lh hA1;have HS1:=Lh hS1;have HB1:=Lh hB1;clear hce hA1 hS1 hB1;go_wp2_with fail;go_quiet (fail)
           go_wp2_with fail;obtain⟨V2,hV2⟩:∃V2,V1.drewN nq=V2:=⟨_,rfl⟩;have c2:V2.cell? ⟨gw,t-7,none⟩=some (.int .u32 (x2.toNat:Int)):=by rw[<-hV2];exact c2
           have c4:V2.cell? ⟨gw,t-16,none⟩=some (.int .u32 (x4.toNat:Int)):=by rw[<-hV2];exact c4
           have c5:V2.cell? ⟨gw,t,none⟩=some (.int .u32 ((Da.wi (Da.sx bs (t-16)) t).toNat:Int)):=by rw[<-hV2];exact c5
           have hfr:V2.frozen? ⟨gw,t,none⟩=false:=by rw[<-hV2];exact hfr
           have HA2:Hid (Arr V2 gw 121 (ar (Da.sx bs (t-16)))):=Lh (by rw[<-hV2];exact HA1.out);have HS2:Hid (Arr V2 gs 120 (ar st)):=Lh (by rw[<-hV2];exact HS1.out);have HB2:Hid (Below X2.heap.size X2 V2):=Lh (by rw[<-hV2];exact Kit.dn HB1.out nq);rw[hV2];clear c1 c3 hV2 HA1 HS1 HB1;refine Qt.di 29 qK qK ?_;simp only[List.take_succ_cons,List.take_zero,List.drop_succ_cons,List.drop_zero];repeat (quiet_step ((first|with_reducible exact Calls.quiet_of_same (T1.out _)|with_reducible exact Calls.quiet_of_same (T2.out _)|with_reducible exact Calls.quiet_of_same (T3.out _)|with_reducible exact Calls.quiet_of_same (T4.out _))))
           refine wpQuiet_nil ?_;intro _ hw';obtain⟨nq,hw''⟩:=hw';subst hw'';go_wp2_with fail;have hv:((bits .xor .u32 (bits .xor .u32 (y1.toNat:Int) (y2.toNat:Int)) ((x1.toNat:Int) / 1024)+(x2.toNat:Int)+bits .xor .u32 (bits .xor .u32 (y3.toNat:Int) (y4.toNat:Int)) ((x3.toNat:Int) / 8)+(x4.toNat:Int)) % 4294967296)=((Da.nw (Da.sx bs (t-16)) t).toNat:Int):=by
            have z1:(x1.toNat:Int) / 1024=((Da.shr x1 10).toNat:Int):=by rw[<-qb];rfl
            have z3:(x3.toNat:Int) / 8=((Da.shr x3 3).toNat:Int):=by rw[<-qb];rfl
            rw[z1,z3,u32_xor,u32_xor,u32_xor,u32_xor,<-HSM1.out,<-HSM3.out,HNW.out];simp only[Da.add,UInt32.toNat_add];omega
           refine⟨⟨t+1,qO,qO,by go_num,?_,?_,?_⟩,by simp[intOf];omega⟩
           ·rw[hv,<-HST.out,<-lJ];exact(HA2.out.drewN nq).set t _
           ·exact(HS2.out.drewN nq).ne (HA2.out.drewN nq) qO _ _
           ·exact(HA2.out.drewN nq).below (Kit.dn HB2.out nq) (by rw[HGS.out];omega) _ _
          ·obtain rfl:t=64:=qO;rw[show(((64:Nat):Int))=64 from rfl];rw[show 64-16=48 from rfl]at hA1;obtain⟨ws,hws⟩:∃ws,Da.sx bs 48=ws:=⟨_,rfl⟩;rw[hws]at hA1;have HEN:Hid (Da.ax st (Da.rs (Da.St.of st) ws 64) 8=Da.mB st bs):=Lh (by rw[<-hws];exact Da.LK st bs);have HWL:Hid (ws.length=64):=Lh (by rw[<-hws,Da.iW]);have c:∀j,j<8->V1.cell? ⟨gs,j,none⟩=some (.int .u32 ((Da.wi st j).toNat:Int)):=fun j hj=>by
            rw[hS1.cell];exact dS _ _ (by rw[HSL.out];exact hj)
           have c0:=c 0 qD;have c1:=c 1 qD;have c2:=c 2 qD;have c3:=c 3 qD;have c4:=c 4 qD;have c5:=c 5 qD;have c6:=c 6 qD;have c7:=c 7 qD;have HA1:=Lh hA1;have HS1:=Lh hS1;have HB1:=Lh hB1;clear hA1 hS1 hB1 hws c HA0 HS0 HB0 HCL;go_wp2_with fail;go_quiet (fail)
           obtain⟨V2,hV2⟩:∃V2,V1.drewN nq=V2:=⟨_,rfl⟩;have HA2:Hid (Arr V2 gw 121 (ar ws)):=Lh (by rw[<-hV2];exact HA1.out);have HS2:Hid (Arr V2 gs 120 (ar st)):=Lh (by rw[<-hV2];exact HS1.out);have HB2:Hid (Below X2.heap.size X2 V2):=Lh (by rw[<-hV2];exact Kit.dn HB1.out nq);rw[hV2];clear hV2 HA1 HS1 HB1 c0 c1 c2 c3 c4 c5 c6 c7;go_wp2_with fail;go_loopw [13,14,15,16,17,18,19,20,21] (fun a b c d e f gg h i wr=>Ch6 ws st gs gw X2 a b c d e f gg h i wr) (fun _ _ _ _ _ _ _ _ i _=>64-(intOf i).toNat)
           case atStart=>exact⟨0,_,Nat.zero_le _,rfl,rfl,rfl,rfl,rfl,rfl,rfl,rfl,rfl,rfl,HA2.out,HS2.out,HB2.out⟩
           case round=>
            rename World=>V3
            obtain⟨kk,s,hkk,rfl,hs,rfl,rfl,rfl,rfl,rfl,rfl,rfl,rfl,hA3,hS3,hB3⟩:=hrel;by_cases hlt6:kk<64
            ·as_aux_lemma=>
             have hd1:decide ((kk:Int)<64)=true:=by simpa using (by omega:(kk:Int)<64)
             obtain⟨x,hx⟩:∃x,Da.wi ws kk=x:=⟨_,rfl⟩;obtain⟨y,hy⟩:∃y,Da.wi Da.cubes kk=y:=⟨_,rfl⟩;have hcw:V3.cell? ⟨gw,kk,none⟩=some (.int .u32 (x.toNat:Int)):=by rw[hA3.cell,<-hx];exact dS _ _ (by rw[HWL.out];exact hlt6)
             have hcu:V3.cell? ⟨21,kk,none⟩=some (.int .u32 (y.toNat:Int)):=by rw[<-hy];exact(HV2.out.later hB3).cubes.cell kk hlt6
             have HST:Hid (Da.rs (Da.St.of st) ws (kk+1)=Da.rd s y x):=Lh (by rw[Da.rs,hs,hx,hy]);obtain⟨a,b,c,d,e,f,q',h⟩:=s;dsimp only;have l1:(kk:Int)<64:=qO;have HT:Hid (Da.rd ⟨a,b,c,d,e,f,q',h⟩ y x=⟨Da.add (Da.add (Da.add (Da.add (Da.add h (Da.eH e 6^^^Da.eH e 11^^^Da.eH e 25)) ((e&&&f)^^^(~~~e&&&q'))) y) x) (Da.add (Da.eH a 2^^^Da.eH a 13^^^Da.eH a 22) ((a&&&b)^^^(a&&&c)^^^(b&&&c))),a,b,c,Da.add d (Da.add (Da.add (Da.add (Da.add h (Da.eH e 6^^^Da.eH e 11^^^Da.eH e 25)) ((e&&&f)^^^(~~~e&&&q'))) y) x),e,f,q'⟩):=Lh rfl;have T1:Hid (∀v,Calls Tryz.prog 52 #[.int .u32 (e.toNat:Int),.int .u64 6] v fun r w'=>r=.returned (.int .u32 ((Da.eH e 6).toNat:Int))/\w'=v):=Lh fun v=>eo e 6 qO qO _
             have T2:Hid (∀v,Calls Tryz.prog 52 #[.int .u32 (e.toNat:Int),.int .u64 11] v fun r w'=>r=.returned (.int .u32 ((Da.eH e 11).toNat:Int))/\w'=v):=Lh fun v=>eo e 11 qO qO _
             have T3:Hid (∀v,Calls Tryz.prog 52 #[.int .u32 (e.toNat:Int),.int .u64 25] v fun r w'=>r=.returned (.int .u32 ((Da.eH e 25).toNat:Int))/\w'=v):=Lh fun v=>eo e 25 qO qO _
             have T4:Hid (∀v,Calls Tryz.prog 52 #[.int .u32 (a.toNat:Int),.int .u64 2] v fun r w'=>r=.returned (.int .u32 ((Da.eH a 2).toNat:Int))/\w'=v):=Lh fun v=>eo a 2 qO qO _
             have T5:Hid (∀v,Calls Tryz.prog 52 #[.int .u32 (a.toNat:Int),.int .u64 13] v fun r w'=>r=.returned (.int .u32 ((Da.eH a 13).toNat:Int))/\w'=v):=Lh fun v=>eo a 13 qO qO _
             have T6:Hid (∀v,Calls Tryz.prog 52 #[.int .u32 (a.toNat:Int),.int .u64 22] v fun r w'=>r=.returned (.int .u32 ((Da.eH a 22).toNat:Int))/\w'=v):=Lh fun v=>eo a 22 qO qO _
             generalize Da.eH e 6=y1 at T1 HT;generalize Da.eH e 11=y2 at T2 HT;generalize Da.eH e 25=y3 at T3 HT;generalize Da.eH a 2=y4 at T4 HT;generalize Da.eH a 13=y5 at T5 HT;generalize Da.eH a 22=y6 at T6 HT;have HA3:=Lh hA3;have HS3:=Lh hS3;have HB3:=Lh hB3;clear hA3 hS3 hB3 hx hy hs;have hsg:IntKind.u32.signed=false:=rfl;go_wp2_with fail;go_quiet ((first|with_reducible exact Calls.quiet_of_same (T1.out _)|with_reducible exact Calls.quiet_of_same (T2.out _)|with_reducible exact Calls.quiet_of_same (T3.out _)))
             go_wp2_with (first|(with_reducible refine(T4.out _).mono ?_;rintro e' w' ⟨rfl,rfl⟩)|(with_reducible refine(T5.out _).mono ?_;rintro e' w' ⟨rfl,rfl⟩)|(with_reducible refine(T6.out _).mono ?_;rintro e' w' ⟨rfl,rfl⟩))
             refine⟨⟨kk+1,_,qO,by go_num,HST.out.trans HT.out,?_,rfl,rfl,rfl,?_,rfl,rfl,rfl,HA3.out.drewN nq,HS3.out.drewN nq,Kit.dn HB3.out nq⟩,by simp[intOf];omega⟩
             ·refine congrArg (Value.int .u32) ?_;simp only[ya,u32_and,u32_xor];simp only[Da.add,UInt32.toNat_add];omega
             ·refine congrArg (Value.int .u32) ?_;simp only[ya,u32_and,u32_xor];simp only[Da.add,UInt32.toNat_add];omega
            ·obtain rfl:kk=64:=qO;rw[show(((64:Nat):Int))=64 from rfl];have HAX:Hid (Da.ax st s 8=Da.mB st bs):=Lh (by rw[<-hs];exact HEN.out);have HS8:∀j,j<8->(Da.ax st s j).set j (Da.add (Da.wi st j) (Da.wi s.list j))=Da.ax st s (j+1):=fun j hj=>by
              have:=Da.Fc st s j hj;rw[show Da.wi (Da.ax st s j) j=Da.wi st j from by unfold Da.ax;rw[Da.LI _ _ _ hj];simp]at this;exact this
             have HS8:=Lh HS8;obtain⟨a,b,c,d,e,f,q',h⟩:=s;dsimp only;have hc:∀j,j<8->V3.cell? ⟨gs,j,none⟩=some (.int .u32 ((Da.wi st j).toNat:Int)):=fun j hj=>by
              rw[hS3.cell];exact dS _ _ (by rw[HSL.out];exact hj)
             have c0:=hc 0 qD;have c1:=hc 1 qD;have c2:=hc 2 qD;have c3:=hc 3 qD;have c4:=hc 4 qD;have c5:=hc 5 qD;have c6:=hc 6 qD;have c7:=hc 7 qD;have f0:=hS3.frozen 0;have f1:=hS3.frozen 1;have f2:=hS3.frozen 2;have f3:=hS3.frozen 3;have f4:=hS3.frozen 4;have f5:=hS3.frozen 5;have f6:=hS3.frozen 6;have f7:=hS3.frozen 7;have HS3:=Lh hS3;have HB3:=Lh hB3;clear hA3 hS3 hB3 hs hc HEN HA2 HS2 HB2;go_wp2_with fail;have hg0:X2.heap.size<=gs:=Nat.le_of_eq HGS.out;have P0:Arr V3 gs 120 (ar (Da.ax st ⟨a,b,c,d,e,f,q',h⟩ 0))/\Below X2.heap.size X2 V3:=⟨by rw[Da.Fb _ _ HSL.out];exact HS3.out,HB3.out⟩;have P1:=jH P0 hg0 (Da.add (Da.wi st 0) a) (HS8.out 0 qD);have P2:=jH P1 hg0 (Da.add (Da.wi st 1) b) (HS8.out 1 qD);have P3:=jH P2 hg0 (Da.add (Da.wi st 2) c) (HS8.out 2 qD);have P4:=jH P3 hg0 (Da.add (Da.wi st 3) d) (HS8.out 3 qD);have P5:=jH P4 hg0 (Da.add (Da.wi st 4) e) (HS8.out 4 qD);have P6:=jH P5 hg0 (Da.add (Da.wi st 5) f) (HS8.out 5 qD);have P7:=jH P6 hg0 (Da.add (Da.wi st 6) q') (HS8.out 6 qD);have P8:=jH P7 hg0 (Da.add (Da.wi st 7) h) (HS8.out 7 qD);rw[HAX.out,<-HNX.out]at P8;rw[gy,gy,gy,gy,gy,gy,gy,gy];exact⟨⟨kc+1,by have:=HA.out;omega,by rw[show((aa:Int)+64)=((64*(kc+1):Nat):Int) by have:=HA.out;omega],P8.1,P8.2⟩,by simp only[intOf];omega⟩
      ·as_aux_lemma=>
       obtain⟨st,hst⟩:∃st,Da.hx q kc=st:=⟨_,rfl⟩;have hsl:st.length=8:=by rw[<-hst,Da.rl]
       have HDG:Hid (Da.Cv st=Da.sha z):=Lh (by rw[<-hst,Da.sha,HQ.out,HFL.out,show M / 64=kc by omega]);rw[hst]at hS0;obtain⟨D,hD⟩:∃D,(ar st).toArray=D:=⟨_,rfl⟩;have hlt2:¬64*kc<M:=hlt;obtain⟨aa,ha⟩:∃a,64*kc=a:=⟨_,rfl⟩;rw[ha]at hlt2⊢;have hd1:decide (((aa:Nat):Int)<(M:Int))=false:=by simpa using hlt2
       obtain⟨go,hgo⟩:∃go,Y0.heap.size=go:=⟨_,rfl⟩;obtain⟨Y1,hY1⟩:∃Y1,Y0.alloc (.cells Z 28)=Y1:=⟨_,rfl⟩;have hA1:Arr Y1 go 28 (bytesV (List.replicate 32 0)):=by rw[<-hY1,HZ.out,<-hgo];exact Arr.made _ _ _
       obtain⟨Y2,hY2⟩:∃Y2,Y1.setRow go Z=Y2:=⟨_,rfl⟩;have hb2:Below Y0.heap.size Y0 Y2:=by rw[<-hY2,<-hY1];exact(qB.alloc qN _).trans (aA (Nat.le_of_eq hgo))
       have HA2:Hid (Arr Y2 go 28 (bytesV (dgp st (4*0)))):=Lh (by rw[Nat.mul_zero,Ag,<-hY2,HZ.out];exact setRow_heap _ _ _ _ _ _ hA1);have hr0:=HR2.out.later hB0 HR2.out.lt;have HR3:Hid (Arr Y2 g0 28 (bytesV (List.replicate 32 0))):=Lh (hr0.later hb2 hr0.lt);have HB3:Hid (Below w.heap.size w Y2):=Lh (Ks (Ks HB20.out hB0) hb2);have HS3:Hid (Y2.heap[gs]? =some (.cells D 120 (0,0))):=Lh (by rw[<-hD];exact hS0.later hb2 hS0.lt);have HS4:Hid ((Tryz.prog.info? 120).map (·.size)=some D.size):=Lh (by rw[iA,<-hD];simp[hsl]);have HF3:Hid (Y1.heap[go]? =some (.cells Z 28 (0,0))):=Lh (by rw[HZ.out];exact hA1);have HF4:Hid ((Tryz.prog.info? 28).map (·.size)=some Z.size):=Lh (by rw[dA,HZ.out];rfl);have HF6:Hid (Z.all (·.oneCell')=true):=Lh (by rw[HZ.out];exact all_oneCell_toArray (aG _));have hgg:g0<go:=by have:=hr0.lt;omega
       have hgg2:w.heap.size<=go:=by have:=HG.out;omega
       have HY1:=Lh hY1;have HY2:=Lh hY2;have HGO:=Lh hgo;have HDE:=Lh hD;have HSL:=Lh hsl;clear hst hsl hY1 hA1 hY2 hb2 hr0 hgo hD ha hS0 hB0 HROW HBLK HA4 HB4 hzs64 HBU64 hlt;go_upto_region 32 with fail
       apply wp_region_lit;refine bN rfl 28 _ rfl [] qS Z HBU32.out ?_;refine qP ?_;rw[HY1.out,HGO.out];refine wpList_store_rowTo rfl 28 (.tmp 24) (.tmp 271) rfl rfl go Z rfl rfl 28 Z HF3.out HF4.out rfl HF6.out ?_;rw[HY2.out];clear HY1 HY2 HF3 HF4 HF6;go_wp2_with (first|refine wpList_load_row rfl 120 (.tmp 6) rfl gs rfl 120 D (0,0) _ HS3.out fK rfl HS4.out ?_)
       go_loopw [273] (fun i wr=>Ro7 st g0 go w i wr) (fun i _=>8-(intOf i).toNat)
       case atStart=>exact⟨0,Nat.zero_le _,rfl,HA2.out,HR3.out,HB3.out⟩
       case round=>
        rename World=>V0
        obtain⟨k,hk,rfl,hA0,hR0,hB0⟩:=hrel;by_cases hlt7:k<8
        ·have hd1:decide ((k:Int)<8)=true:=by simpa using (by omega:(k:Int)<8)
         obtain⟨x,hx⟩:∃x,Da.wi st k=x:=⟨_,rfl⟩;have hIX:∀W,(Instr.index 120 (.agg D) (.int .i64 (k:Int))).run Tryz.prog W=.ok (.int .u32 (x.toNat:Int)) W:=et _ _ 8 D k _ fK qK (fun W=>qK) hlt7 (by rw[<-HDE.out,List.getElem?_toArray,<-hx];exact dS _ _ (by rw[HSL.out];exact hlt7));obtain⟨p0,hp0⟩:∃p,4*k=p:=⟨_,rfl⟩;have e0:(4:Int)*(k:Int)=(p0:Int):=qO;have hpl:p0+3<32:=qO;rw[hp0]at hA0;have hc:∀j,j<32->V0.cell? ⟨go,j,none⟩=some (.int .u8 (((dgp st p0).getD j 0).toNat:Int)):=fun j hj=>by
          rw[hA0.cell];exact aB _ _ (by rw[um];exact hj)
         have c0:=hc p0 qO;have c1:=hc (p0+1) qO;have c2:=hc (p0+2) qO;have c3:=hc (p0+3) qO;have f0:=hA0.frozen p0;have f1:=hA0.frozen (p0+1);have f2:=hA0.frozen (p0+2);have f3:=hA0.frozen (p0+3);have hST:∀j,j<4->(dgp st (p0+j)).set (p0+j) (UInt8.ofNat (x.toNat / 2^(24-8*j)))=dgp st (p0+j+1):=fun j hj=>by
          have:=Ah st (p0+j);rw[show(p0+j) / 4=k by omega,show(p0+j) % 4=j by omega,hx]at this;exact this
         have HST:=Lh hST;have HP0:=Lh hp0;have HA0:=Lh hA0;have HR0:=Lh hR0;have HB0:=Lh hB0;clear hA0 hR0 hB0 hc hST hx hp0;go_wp2_with fail;have b0:((x.toNat:Int) / 16777216 % 256)=((UInt8.ofNat (x.toNat / 2^(24-8*0))).toNat:Int):=by rw[UInt8.toNat_ofNat'];omega
         have b1:((x.toNat:Int) / 65536 % 256)=((UInt8.ofNat (x.toNat / 2^(24-8*1))).toNat:Int):=by rw[UInt8.toNat_ofNat'];omega
         have b2:((x.toNat:Int) / 256 % 256)=((UInt8.ofNat (x.toNat / 2^(24-8*2))).toNat:Int):=by rw[UInt8.toNat_ofNat'];omega
         have b3:((x.toNat:Int) % 256)=((UInt8.ofNat (x.toNat / 2^(24-8*3))).toNat:Int):=by rw[UInt8.toNat_ofNat'];omega
         have P0:=qx ⟨HA0.out,HB0.out⟩ hgg2 _ (HST.out 0 qD);have P1:=qx P0 hgg2 _ (HST.out 1 qD);have P2:=qx P1 hgg2 _ (HST.out 2 qD);have P3:=qx P2 hgg2 _ (HST.out 3 qD);have R1:=HR0.out.ne HA0.out qO (p0+0) (.int .u8 ((UInt8.ofNat (x.toNat / 2^(24-8*0))).toNat:Int));have R2:=R1.ne P0.1 qO (p0+1) (.int .u8 ((UInt8.ofNat (x.toNat / 2^(24-8*1))).toNat:Int));have R3:=R2.ne P1.1 qO (p0+2) (.int .u8 ((UInt8.ofNat (x.toNat / 2^(24-8*2))).toNat:Int));have R4:=R3.ne P2.1 qO (p0+3) (.int .u8 ((UInt8.ofNat (x.toNat / 2^(24-8*3))).toNat:Int));rw[b0,b1,b2,b3];exact⟨⟨k+1,qO,by go_num,by rw[show 4*(k+1)=p0+3+1 by have:=HP0.out;omega];exact P3.1,R4,P3.2⟩,by simp[intOf];omega⟩
        ·obtain rfl:k=8:=qO;rw[show(((8:Nat):Int))=8 from rfl];rw[show 4*8=32 from rfl,GL,HDG.out]at hA0;obtain⟨F,hF⟩:∃F,(bytesV (Da.sha z)).toArray=F:=⟨_,rfl⟩;have HRS:Hid ((Tryz.prog.info? 28).map (·.size)=some F.size):=Lh (by rw[dA,<-hF];simp[Da.ai]);have HRO:Hid (F.all (·.oneCell')=true):=Lh (by rw[<-hF];exact all_oneCell_toArray (aG _));have HRZ:Hid ((bytesV (List.replicate 32 0)).toArray.size=F.size):=Lh (by rw[<-hF];simp[Da.ai]);have HL1:Hid (V0.heap[go]? =some (.cells F 28 (0,0))):=Lh (by rw[<-hF];exact hA0);have HL2:Hid (V0.heap[g0]? =some (.cells (bytesV (List.replicate 32 0)).toArray 28 (0,0))):=Lh hR0;have HGW:Hid ((V0.setRow g0 F).heap[g0]? =some (.cells F 28 (0,0))):=Lh (setRow_heap _ _ _ _ _ _ hR0);have HBW:Hid (Below w.heap.size w (V0.setRow g0 F)):=Lh (hB0.trans (aA (Nat.le_of_eq HG.out)));have HFE:=Lh hF;rw[HG.out];clear hF hA0 hR0 hB0 hzs;go_wp2_with (first|refine wpList_load_row rfl 28 (.tmp 24) rfl go rfl 28 F (0,0) _ HL1.out cQ rfl HRS.out ?_|refine wpList_store_row rfl 28 (.tmp 2) (.tmp 304) rfl g0 F rfl rfl 28 (bytesV (List.replicate 32 0)).toArray HL2.out HRS.out HRZ.out HRO.out ?_)
         refine bodyPost_ret (results_cell_row rfl _ _ g0 28 F (0,0) _ rfl HGW.out cQ rfl HRS.out) rfl ?_;exact⟨by rw[HFE.out],HBW.out⟩
theorem mO(z:List UInt8)(o:Option Addr)(c:Nat)(w:World)(hR:RowIs w o (bytesV z) c)(hV:Rds w)(hl:z.length<=100000):
  Calls Tryz.prog 25 #[.slice o z.length c] w fun e w'=>e=.returned (.agg (bytesV (Da.sha z)).toArray)/\Below w.heap.size w w':=
 Um _ _ _ rfl d32_zero rfl Ff rfl AN I5 I4 z o c w hR hV hl
def Da.CJ(K F:List UInt8)(p:Pm15):Bool:=decide (100<K.length)||(decide (400<F.length)||(decide (400<p.sz)&&decide (p.sz<=2000)))
theorem Ee(K F:List UInt8)(ok oF:Option Addr)(ck cF:Nat)(N:Int)(p:Pm15)(w:World):
  Calls Tryz.prog 8 #[.agg (mdA (.slice ok K.length ck) N (.slice oF F.length cF) p)] w fun e w'=>e=.returned (.bool (Da.CJ K F p))/\Below w.heap.size w w':=by
 unfold Da.CJ mdA;have hb:∀o,Below w.heap.size w (w.alloc o):=fun o=>aH w o
 have HB:=Lh hb;obtain⟨lk,hlk⟩:∃lk,K.length=lk:=⟨_,rfl⟩;obtain⟨lf,hlf⟩:∃lf,F.length=lf:=⟨_,rfl⟩;obtain⟨sz,se,sp,pe,pa,re⟩:=p;dsimp only;rw[hlk,hlf];clear hb hlk hlf;by_cases c1:100<lk
 ·have d1:decide ((lk:Int)>100)=true:=decide_eq_true qO;have d1':decide (100<lk)=true:=decide_eq_true c1;go_enter Tryz.func8,Tryz.ntmps8
  go_wp2_with fail;go_ret;exact⟨by first|rfl|(rw[d1'];rfl)|(rw[d1',d2'];rfl)|(rw[d1',d2',d3',d4];rfl),HB.out _⟩
 have d1:decide ((lk:Int)>100)=false:=decide_eq_false qO;have d1':decide (100<lk)=false:=decide_eq_false c1;by_cases c2:400<lf
 ·have d2:decide ((lf:Int)>400)=true:=decide_eq_true qO;have d2':decide (400<lf)=true:=decide_eq_true c2;go_enter Tryz.func8,Tryz.ntmps8
  go_wp2_with fail;go_ret;exact⟨by first|rfl|(rw[d1'];rfl)|(rw[d1',d2'];rfl)|(rw[d1',d2',d3',d4];rfl),HB.out _⟩
 have d2:decide ((lf:Int)>400)=false:=decide_eq_false qO;have d2':decide (400<lf)=false:=decide_eq_false c2;by_cases c3:400<sz
 ·have d3:decide (sz>400)=true:=decide_eq_true qO;have d3':decide (400<sz)=true:=decide_eq_true c3;by_cases c4:sz<=2000
  ·have d4:decide (sz<=2000)=true:=decide_eq_true c4;go_enter Tryz.func8,Tryz.ntmps8
   go_wp2_with fail;go_ret;exact⟨by first|rfl|(rw[d1'];rfl)|(rw[d1',d2'];rfl)|(rw[d1',d2',d3',d4];rfl),HB.out _⟩
  ·have d4:decide (sz<=2000)=false:=decide_eq_false c4;go_enter Tryz.func8,Tryz.ntmps8
   go_wp2_with fail;go_ret;exact⟨by first|rfl|(rw[d1'];rfl)|(rw[d1',d2'];rfl)|(rw[d1',d2',d3',d4];rfl),HB.out _⟩
 ·have d3:decide (sz>400)=false:=decide_eq_false qO;have d3':decide (400<sz)=false:=decide_eq_false c3;go_enter Tryz.func8,Tryz.ntmps8
  go_wp2_with fail;go_ret;exact⟨by first|rfl|(rw[d1'];rfl)|(rw[d1',d2'];rfl)|(rw[d1',d2',d3',d4];rfl),HB.out _⟩
def Da.Rs17(K:List UInt8)(N:Int)(p:Pm15)(S:List (List UInt8))(D:List UInt8)(Q:Nat)(G:List UInt8):Prop:=
 ∃R F g E C,Da.Op17 K N p S R F g E C/\((Da.a6 p R≠0/\Q=R/\G=[])∨(Da.a6 p R=0/\Da.sha F≠D/\Q=5/\G=[])∨(Da.a6 p R=0/\Da.sha F=D/\Q=0/\G=F))
theorem Pb(xs ys:List UInt8)(hx:xs.length=32)(hy:ys.length=32)(w:World):(Op.equalIn 10000 44 (.agg (bytesV xs).toArray) (.agg (bytesV ys).toArray)).run Tryz.prog w=.ok (xs==ys) w:=
 run_equalIn_bytes (P:= Tryz.prog) w 9998 44 5 32 au Tryz.underlying5 (fun w=>by
  obtain⟨i0,hi,_,hz1,_⟩:=info_parts ao;simp[sizeOf,typeInfo,hi,hz1]) xs ys hx hy
theorem zz(ZR:Array Value)(hZR:#[.int .i64 0,.slice none 0 0,.slice none 0 0]=ZR)(hzr:∀w,Sem.run Tryz.prog (zeroValue 39) w=.ok (.agg ZR) w)
  (A:Nat->Addr) (W:World) (oK:Option Addr) (cK:Nat) (K9:List UInt8) (N:Int) (p:Pm15) (oS:Option Addr) (cS:Nat) (S:List (List UInt8)) (D:List UInt8) (hD:D.length=32)
  (hK9:RowIs W oK (bytesV K9) cK) (hS:RbIs W oS S cS) (hKl:K9.length<=100) (hF:kg S) (hN:bG N) (hok:p.ok) (hV:Cds W) (hE:E17 W A) (hc4:W.cell? ⟨1,0,none⟩=some (.iface 302 (.pointer (some (A 4))))):
  Calls Tryz.prog 12 #[.slice oK K9.length cK,.int .i64 N,.agg (pmA p),.slice oS S.length cS,.agg (bytesV D).toArray] W fun e w'=>∃Q G x v,Da.Rs17 K9 N p S D Q G/\e=.returned (.tuple #[x,v])/\RowV G x w'/\SeV A p Q w' v/\Below W.heap.size W w':=by
 obtain⟨g,hg⟩:∃g,W.heap.size=g:=⟨_,rfl⟩;obtain⟨PA,hPA⟩:∃PA,pmA p=PA:=⟨_,rfl⟩;obtain⟨DA,hDA⟩:∃DA,(bytesV D).toArray=DA:=⟨_,rfl⟩;obtain⟨W2,hW2⟩:∃W2,(W.alloc (.cells PA 24)).alloc (.cells DA 44)=W2:=⟨_,rfl⟩;have hb2:Below W.heap.size W W2:=by rw[<-hW2];exact Ks (aH _ _) (aH _ _)
 have hA2:Arr W2 g 24 (pmL p):=by
  have h1:Arr (W.alloc (.cells PA 24)) g 24 (pmL p):=by rw[<-hPA,<-hg];exact World.alloc_heap_new W _
  rw[<-hW2];exact h1.alloc _
 have hL2:W2.heap[g+1]? =some (.cells DA 44 (0,0)):=by rw[<-hW2,<-hg];exact ff _ _ _ _
 have hop:=wZ A W2 oK cK K9 N p oS cS S (hK9.later hb2) (hS.later hb2) hKl hF hN hok (hV.later hb2) (hE.later hb2);have HPP:Hid (W2.heap[g]? =some (.cells PA 24 (0,0))):=Lh (by
  have:=hA2;unfold Arr at this;rw[show(pmL p).toArray=PA from hPA]at this;exact this)
 have HPS:Hid ((Tryz.prog.info? 24).map (·.size)=some PA.size):=Lh (by rw[<-hPA];exact aM);have HDS:Hid ((Tryz.prog.info? 44).map (·.size)=some DA.size):=Lh (by rw[bJ,<-hDA];simp[hD]);have HLZ:Hid (∀w',Below W2.heap.size W2 w'->w'.heap[g+1]? =some (.cells DA 44 (0,0))):=Lh fun w' hb=>(hb.block (g+1) (aE.1 hL2).1).trans hL2
 rw[hPA]at hop⊢;rw[hDA];obtain⟨lk,hlk⟩:∃lk,K9.length=lk:=⟨_,rfl⟩;obtain⟨m,hm⟩:∃m,S.length=m:=⟨_,rfl⟩;rw[hlk,hm]at hop⊢;have HOP:=Lh hop;have HG:=Lh hg;have HW2:=Lh hW2;have HB2:=Lh hb2;have HV:=Lh hV;have HZR:=Lh hZR;have HDA:=Lh hDA;have HD:=Lh hD;have HC4:Hid (∀w',Below W.heap.size W w'->w'.cell? ⟨1,0,none⟩=some (.iface 302 (.pointer (some (A 4))))):=Lh fun w' hb=>(hb.cell (de hc4)).trans hc4
 have hnn:=dO;clear hop hg hW2 hb2 hA2 hL2 hV hE hZR hK9 hS hKl hlk hPA hDA hD hok hN hF hm hc4;go_enter Tryz.func12,Tryz.ntmps12
 go_upto_region 1 with fail
 rw[HW2.out,HG.out];apply wp_region_lit;iterate 2 (refine qP ?_)
 refine wpList_load_row rfl 24 (.tmp 7) rfl g rfl 24 PA (0,0) _ HPP.out Tryz.underlying24 rfl HPS.out ?_;refine qP ?_;refine wpList_plain rfl (fun K hK=>?_);go_simp;refine HOP.out.mono ?_;rintro e W3 ⟨R,F,gq,E,C,x,y,z,v,hOp,rfl,hx,hy,hz,hv,hb3⟩;refine hK _ _ ?_;clear hK K HOP;obtain⟨oy,cy,rfl,_⟩:=hy;obtain⟨oz,cz,rfl,_⟩:=hz;obtain⟨ox,cx,rfl,hrx⟩:=hx;obtain⟨ly,hly⟩:∃ly,E.length=ly:=⟨_,rfl⟩;obtain⟨lz,hlz⟩:∃lz,C.length=lz:=⟨_,rfl⟩;obtain⟨lx,hlx⟩:∃lx,F.length=lx:=⟨_,rfl⟩;rw[hly,hlz,hlx];obtain⟨gk,hgk⟩:∃gk,W3.heap.size=gk:=⟨_,rfl⟩;obtain⟨FA,hFA⟩:∃FA:Array Value,(#[.int .i64 ((gq:Nat):Int),.slice oy ly cy,.slice oz lz cz]:Array Value)=FA:=⟨_,rfl⟩;have HFS:Hid ((Tryz.prog.info? 39).map (·.size)=some FA.size):=Lh (by rw[kE,<-hFA];rfl);have HFZ:Hid (ZR.size=FA.size):=Lh (by rw[<-HZR.out,<-hFA];rfl);have HFO:Hid (FA.all (·.oneCell')=true):=Lh (by rw[<-hFA];exact Cf rfl rfl rfl);obtain⟨V3,hV3⟩:∃V3,W3.alloc (.cells ZR 39)=V3:=⟨_,rfl⟩;have hz3:V3.heap[gk]? =some (.cells ZR 39 (0,0)):=by rw[<-hV3,<-hgk];exact World.alloc_heap_new W3 _
 obtain⟨V4,hV4⟩:∃V4,V3.setRow gk FA=V4:=⟨_,rfl⟩;have hb5:Below W3.heap.size W3 V4:=by rw[<-hV4,<-hV3];exact(aH _ _).trans (aA (Nat.le_of_eq hgk))
 have HZ3:=Lh hz3;have HV3:=Lh hV3;have HV4:=Lh hV4;have HGK:=Lh hgk;have HB4:=Lh (Ks hb3 hb5);have HOQ:=Lh hOp;have HSV:=Lh (hv.later hb5);have HRX:=Lh (hrx.later hb5);have HLX:=Lh hlx;rw[hFA];clear hb3 hgk hFA hV3 hz3 hV4 hb5 hOp hv hrx hlx hly hlz;iterate 6 (refine qP ?_)
 rw[HV3.out,HGK.out];refine wpList_store_rowTo rfl 39 (.tmp 13) (.tmp 22) rfl rfl gk FA rfl rfl 39 ZR HZ3.out HFS.out HFZ.out HFO.out ?_;rw[HV4.out];clear HV3 HV4 HZ3 HFS HFZ HFO;refine qP ?_;by_cases hse:Da.a6 p R=0
 rotate_left
 ·obtain⟨hn1,hn2⟩:=wY HSV.out hse;have HSE:=Lh hse;clear hse;go_wp2_with fail;refine bodyPost_ret (results_tmp2 rfl _ _ _) rfl ?_;exact⟨R,[],_,_,⟨R,F,gq,E,C,HOQ.out,.inl ⟨HSE.out,rfl,rfl⟩⟩,rfl,RowV.nil _,HSV.out,Ks HB2.out HB4.out⟩
 obtain⟨h0,hr0⟩:=Da.iq hse;obtain rfl:v=.nilIface:=by
  rcases HSV.out with ⟨h,_⟩|⟨_,h⟩
  ·exact absurd h0 h
  ·rw[h,hr0];rfl
 have HSE:=Lh hse;have H0:=Lh h0;have hfl:=Da.Op17.len HOQ.out;obtain⟨CC,hC⟩:∃CC:World->Prop,(fun v=>Below V4.heap.size V4 v)=CC:=⟨_,rfl⟩;have HCm:Hid (∀v,CC v->Below V4.heap.size V4 v):=Lh fun v hv=>by rw[<-hC]at hv;exact hv
 have HCi:Hid (∀v,Below V4.heap.size V4 v->CC v):=Lh fun v hv=>by rw[<-hC];exact hv
 have hCC:CC {V4 with drawn:=V4.drawn+1}:=HCi.out _ (Kit.dn' V4 1);have HDD:Hid (∀v,CC v->v.heap[g+1]? =some (.cells DA 44 (0,0))):=Lh fun v hv=>HLZ.out v (Ks HB4.out (HCm.out v hv))
 obtain⟨GA,hGA⟩:∃GA,(bytesV (Da.sha F)).toArray=GA:=⟨_,rfl⟩;have HSO:Hid (∀v,CC v->Calls Tryz.prog 33 #[.slice (some ⟨v.heap.size,0,none⟩) 1 1] (v.alloc (.cells #[.slice ox lx cx] 22)) fun e w'=>e=.returned (.agg GA)/\Below v.heap.size v w'):=Lh fun v hv=>by
  have hrb:RbIs (v.alloc (.cells #[.slice ox lx cx] 22)) (some ⟨v.heap.size,0,none⟩) [F] 1:=by
   have:=jo (HRX.out.later (HCm.out v hv));rw[HLX.out]at this;exact this
  have:=mN [F] (some ⟨v.heap.size,0,none⟩) 1 _ hrb (HV.out.later (Ks HB2.out (Ks HB4.out (Ks (HCm.out v hv) (aH _ _))))) (by simp;omega) qS;rw[show[F].flatten=F by simp,show([F]:List (List UInt8)).length=1 from rfl,hGA]at this;exact this.mono fun e w' ⟨h1,h2⟩=>⟨h1,Ks (aH _ _) h2⟩
 have HNQ:Hid (∀w,(Op.equalIn 10000 44 (.agg GA) (.agg DA)).run Tryz.prog w=.ok (Da.sha F==D) w):=Lh fun w=>by rw[<-hGA,<-HDA.out];exact Pb _ _ (Da.ai F) HD.out w
 clear hse h0 hr0 hfl hC hGA;go_upto_region 4 with fail
 refine wp_region_held (S:=CC) qK ?_;refine aI (i:=0) (x:=.slice ox lx cx) rfl rfl qK qK qK qI (Or.inl ⟨qK,fun w hw=>qG⟩) hCC ?_;simp only[qA,qZ,qC];refine aI (i:=3) (x:=.agg DA) rfl rfl qK qK qK qI (Or.inl ⟨qK,fun w hw=>mz (t:= 44) (fr:=(0,0)) rfl rfl (HDD.out w hw) au rfl HDS.out⟩) hCC ?_;simp only[qA,qZ,qC];obtain⟨V0,hV0⟩:∃V0,({V4 with drawn:=V4.drawn+1}:World)=V0:=⟨_,rfl⟩;rw[hV0]at hCC;first|rw[hV0]|rw[show World.drew V4=V0 from hV0]
 clear hV0;refine dF (i:=1) qK rfl qK (fun K hK=>?_);have hso:=HSO.out V0 hCC;obtain⟨gf,hgf⟩:∃gf,V0.heap.size=gf:=⟨_,rfl⟩;obtain⟨V1,hV1⟩:∃V1,V0.alloc (.cells #[.slice ox lx cx] 22)=V1:=⟨_,rfl⟩;have hb1:Below V0.heap.size V0 V1:=by rw[<-hV1];exact aH _ _
 rw[hV1]at hso;have HSO2:=Lh hso;have HV1:=Lh hV1;have HGF:=Lh hgf;have hC1:=HCi.out _ (Ks (HCm.out _ hCC) hb1);have HC0:=Lh hCC;clear hso hV1 hgf hb1 hCC HSO;go_simp;rw[HV1.out];refine hK _ _ hC1 ?_;clear hK K;refine dF (i:=2) qK rfl qK (fun K hK=>?_);go_simp;refine HSO2.out.mono ?_;rintro e Y1 ⟨rfl,hbz⟩;have hC2:=HCi.out _ (Ks (HCm.out _ HC0.out) hbz);refine hK _ _ hC2 ?_;clear hK K HSO2 hC1 hbz;refine aI (i:=4) (x:=.bool (!(Da.sha F==D))) rfl rfl qK qK qK qI (Or.inl ⟨qK,fun w hw=>by have hc:=HNQ.out w;(go_simp<;>with_reducible rfl)⟩) hC2 ?_;simp only[qA,qZ,qC];refine wpAnyH_done qK ?_ _;have HB6:=Lh (Ks HB2.out (Ks HB4.out (HCm.out _ hC2)));have HRY:=Lh (HRX.out.later (HCm.out _ hC2));clear hC2 HC0;by_cases he:Da.sha F=D
 ·have hb:(Da.sha F==D)=true:=by rw[beq_iff_eq];exact he
  rw[hb];have HEQ:=Lh he;clear he hb;go_wp2_with fail;refine bodyPost_ret (results_tmp2 rfl _ _ _) rfl ?_;exact⟨0,F,_,_,⟨R,F,gq,E,C,HOQ.out,.inr (.inr ⟨HSE.out,HEQ.out,rfl,rfl⟩)⟩,rfl,⟨ox,cx,by rw[HLX.out];rfl,HRY.out⟩,.inr ⟨H0.out,rfl⟩,HB6.out⟩
 ·have hb:(Da.sha F==D)=false:=beq_false_of_ne he;rw[hb];have HEQ:=Lh he;have hc4:=HC4.out Y1 HB6.out;clear he hb;go_wp2_with fail;go_region
  all_goals go_wp2_with fail
  all_goals refine bodyPost_ret (results_tmp2 rfl _ _ _) rfl ?_
  all_goals exact⟨5,[],_,_,⟨R,F,gq,E,C,HOQ.out,.inr (.inl ⟨HSE.out,HEQ.out,rfl,rfl⟩)⟩,rfl,RowV.nil _,.inr ⟨H0.out,rfl⟩,Ks HB6.out (Kit.dn' _ _)⟩
theorem xF(A:Nat->Addr)(W:World)(oK:Option Addr)(cK:Nat)(K9:List UInt8)(N:Int)(p:Pm15)(oS:Option Addr)(cS:Nat)(S:List (List UInt8))(D:List UInt8)(hD:D.length=32)
  (hK9:RowIs W oK (bytesV K9) cK) (hS:RbIs W oS S cS) (hKl:K9.length<=100) (hF:kg S) (hN:bG N) (hok:p.ok) (hV:Cds W) (hE:E17 W A) (hc4:W.cell? ⟨1,0,none⟩=some (.iface 302 (.pointer (some (A 4))))):
  Calls Tryz.prog 12 #[.slice oK K9.length cK,.int .i64 N,.agg (pmA p),.slice oS S.length cS,.agg (bytesV D).toArray] W fun e w'=>∃Q G x v,Da.Rs17 K9 N p S D Q G/\e=.returned (.tuple #[x,v])/\RowV G x w'/\SeV A p Q w' v/\Below W.heap.size W w':=zz _ rfl q9 A W oK cK K9 N p oS cS S D hD hK9 hS hKl hF hN hok hV hE hc4
end Go.Proofs.YteldgablpehcpaaGreatDoor
