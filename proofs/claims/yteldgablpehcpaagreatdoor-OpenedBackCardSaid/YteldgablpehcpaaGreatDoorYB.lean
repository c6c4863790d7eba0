/- YB -/
import Derived.Test.YteldgablpehcpaaGreatDoorAn17
import Derived.Test.YteldgablpehcpaaGreatDoorErr
import Derived.Test.YteldgablpehcpaaGreatDoorAl17
import Derived.Test.YteldgablpehcpaaGreatDoorCm17
import Derived.Test.YteldgablpehcpaaGreatDoorOrb
import Derived.Test.YteldgablpehcpaaGreatDoorVr2
import Derived.Test.YteldgablpehcpaaGreatDoorOp15
import Derived.Test.YteldgablpehcpaaGreatDoorIns
set_option linter.unusedVariables false
set_option linter.unusedSimpArgs false
set_option maxRecDepth 100000
set_option maxHeartbeats 8000000
namespace Go.Proofs.YteldgablpehcpaaGreatDoor
open Go.RowKit
namespace Gf
def cl(a b:Nat):Nat->Nat
 |0=>0
 |n+1=>cl a b n^^^part b n (a*2^n)
end Gf
theorem XO(n:Nat):(n0 n).length=if 223<n then 2 else 1:=by unfold n0;split<;>rfl
theorem aBD(a:L8)(i:Nat)(h:a.length<=i):bi a i=[]:=by
 simp[bi,List.getD_eq_getElem?_getD,List.getElem?_eq_none h]
namespace St
theorem WS{P:Program}{o:Oper}{a:Act}{w:World}{s d:TypeId}{x:Operand}{y:Value}(ho:o.op=.convert s d x)(h:(convert s d (a.eval x)).run P w=.ok y w):(execOp a.eval o).run P w=.ok (.value y) w:=by
 simp[execOp,ho,h,Result.andThen]
end St
theorem Iz(g p:Nat)(k:BL)(n:Nat)(hn:n<=1048576)(i:Int)(A:Nat->Addr)(w:World)(hO:OrdAt w g p k n)(hV:Cds w)(hE:Er.E11 w A):
  Calls Tryz.prog 88 #[.pointer (some ⟨g,0,none⟩),.func (.func 89) #[.agg #[.pointer (some ⟨p,0,none⟩),.int .i64 (Da.bw n:Nat)]] #[],.int .i64 i] w fun e w'=>e=.returned (.tuple #[.int .i64 ((Da.jI (Da.son k (Da.bw n)) n (4^Da.bw n) i:Nat):Int),eD A (Da.iQ n i)])/\Below w.heap.size w w':=by
 have hE0:=hE.c0;have hc:=hO.size;by_cases h0:i<0
 ·have hd1:decide (i<0)=true:=by simp;omega
  have hin:Da.inO n i=false:=by simp[Da.inO];omega
  have HT:Hid (Da.jI (Da.son k (Da.bw n)) n (4^Da.bw n) i=0):=Lh (by unfold Da.jI;rw[hin];rfl);have hb:Da.iQ n i=1:=by unfold Da.iQ;rw[hin];rfl
  rw[HT.out,hb];obtain⟨m,hm⟩:∃m:Int,((Da.bw n:Nat):Int)=m:=⟨_,rfl⟩;rw[hm];clear hO hV hE hin hb HT hm;go_enter Tryz.func88,Tryz.ntmps88
  go_wp2_with fail;go_region
  go_wp2_with fail;refine bodyPost_ret (results_tmp2 rfl _ _ _) rfl ?_;exact⟨rfl,Kit.dn' _ 1⟩
 ·have hd1:decide (i<0)=false:=by simp;omega
  by_cases h1:i<n
  ·have hd2:decide (i>=(n:Int))=false:=by simp;omega
   have hin:Da.inO n i=true:=Da.td.2 ⟨qO,h1⟩;obtain⟨x,rfl⟩:∃x:Nat,i=(x:Int):=⟨i.toNat,qO⟩;have hd3:decide (n<=x)=false:=by simp;omega
   have CO:=xt g p k n hn x qO w hO hV;have ht:Da.pl (Da.son k (Da.bw n)) n (4^Da.bw n) x=Da.jI (Da.son k (Da.bw n)) n (4^Da.bw n) (x:Int):=by unfold Da.jI;rw[hin];rfl
   have hb:Da.iQ n (x:Int)=0:=by unfold Da.iQ;rw[hin];rfl
   rw[ht]at CO;rw[hb];obtain⟨T,hT⟩:=qM (Da.jI (Da.son k (Da.bw n)) n (4^Da.bw n) (x:Int));obtain⟨m,hm⟩:∃m:Int,((Da.bw n:Nat):Int)=m:=⟨_,rfl⟩;rw[hT,hm]at CO;rw[hT,hm];have HCO:=Lh CO;clear CO hO hV hE hin ht hb hT hm hE0 h0 h1;go_enter Tryz.func88,Tryz.ntmps88
   go_wp2_with fail;refine HCO.out.mono ?_;rintro e W1 ⟨rfl,hb1⟩;have HB1:=Lh hb1;clear hb1 HCO;go_wp2_with fail;refine bodyPost_ret (results_tmp2 rfl _ _ _) rfl ?_;exact⟨rfl,HB1.out⟩
  ·have hd2:decide (i>=(n:Int))=true:=by simp;omega
   have hin:Da.inO n i=false:=by simp[Da.inO];omega
   have HT:Hid (Da.jI (Da.son k (Da.bw n)) n (4^Da.bw n) i=0):=Lh (by unfold Da.jI;rw[hin];rfl);have hb:Da.iQ n i=1:=by unfold Da.iQ;rw[hin];rfl
   rw[HT.out,hb];obtain⟨m,hm⟩:∃m:Int,((Da.bw n:Nat):Int)=m:=⟨_,rfl⟩;rw[hm];clear hO hV hE hin hb HT hm;go_enter Tryz.func88,Tryz.ntmps88
   go_wp2_with fail;go_region
   go_wp2_with fail;refine bodyPost_ret (results_tmp2 rfl _ _ _) rfl ?_;exact⟨rfl,Kit.dn' _ 1⟩
theorem G6(g p:Nat)(k:BL)(n:Nat)(hn:n<=1048576)(i:Int)(A:Nat->Addr)(w:World)(hO:OrdAt w g p k n)(hV:Cds w)(hE:Er.E11 w A):
  Calls Tryz.prog 47 #[.pointer (some ⟨g,0,none⟩),.int .i64 i] w fun e w'=>e=.returned (.tuple #[.int .i64 ((Da.jI (Da.son k (Da.bw n)) n (4^Da.bw n) i:Nat):Int),eD A (Da.iQ n i)])/\Below w.heap.size w w':=by
 have hmf:= @makes Tryz.prog;have WA:=Iz g p k n hn i A w hO hV hE;have hst:=hO.steps;obtain⟨m,hm⟩:∃m:Int,((Da.bw n:Nat):Int)=m:=⟨_,rfl⟩;obtain⟨T,hT⟩:∃T:Int,((Da.jI (Da.son k (Da.bw n)) n (4^Da.bw n) i:Nat):Int)=T:=⟨_,rfl⟩;rw[hT]at WA⊢;rw[hm]at WA hst;have HST:=Lh hst;have HWA:=Lh WA;clear WA hO hV hE hst hm hT;go_enter Tryz.func47,Tryz.ntmps47
 go_wp2_with (first|refine wpList_load_mid rfl 173 (.tmp 9) rfl g 1 rfl [.pointer (some ⟨p,0,none⟩),.int .i64 m] _ HST.out Tryz.underlying173 rfl eP ?_)
 refine HWA.out.mono ?_;rintro e W1 ⟨rfl,hb1⟩;have HB1:=Lh hb1;clear hb1 HWA;go_wp2_with fail;refine bodyPost_ret (results_tmp2 rfl _ _ _) rfl ?_;exact⟨rfl,HB1.out⟩
theorem JD(v:World):(binOp .eql 34 .nilIface .nilIface).run Tryz.prog v=.ok (.bool true) v:=qK
theorem ey(n:Nat)(h:n<256):(UInt8.ofNat n).toNat=n:=by rw[UInt8.toNat_ofNat',Nat.mod_eq_of_lt h]
def BRow(W:World)(g n:Nat)(f:Nat->Bool):Prop:=W.heap[g]? =some (.cells ((List.range n).map fun i=>Value.bool (f i)).toArray 4 (0,0))
theorem BRow.cell{W:World}{g n:Nat}{f:Nat->Bool}(h:BRow W g n f)(i:Nat)(hi:i<n):W.cell? ⟨g,i,none⟩=some (.bool (f i)):=by
 rw[cell_of_row _ _ i _ _ _ h];simp[hi]
theorem BRow.frozen{W:World}{g n:Nat}{f:Nat->Bool}(h:BRow W g n f)(i:Nat):W.frozen? ⟨g,i,none⟩=false:=by
 unfold World.frozen?;rw[show W.heap[g]? =_ from h];rfl
theorem BRow.lt{W:World}{g n:Nat}{f:Nat->Bool}(h:BRow W g n f):g<W.heap.size:=(aE.1 h).1
theorem BRow.later{W W':World}{g n:Nat}{f:Nat->Bool}(h:BRow W g n f)(hb:Below W.heap.size W W'):BRow W' g n f:=by
 unfold BRow at*;rw[hb.block g (aE.1 h).1];exact h
theorem BRow.only{W W':World}{g n k:Nat}{f:Nat->Bool}(h:BRow W g n f)(hb:Only k W W')(hne:g≠k):BRow W' g n f:=by
 unfold BRow at*;rw[World.grownBy.block hb g (aE.1 h).1 (fun e=>hne (by cases e;rfl))];exact h
theorem BRow.store{W:World}{g n:Nat}{f:Nat->Bool}(h:BRow W g n f)(i:Nat)(b:Bool):BRow (W.setCell ⟨g,i,none⟩ (.bool b)) g n (fun j=>if j=i then b else f j)/\Only g W (W.setCell ⟨g,i,none⟩ (.bool b)):=by
 have e1:=setCell_eq_setRow W g i _ _ _ (.bool b) h;have h1:=setRow_heap W g _ (((List.range n).map fun i=>Value.bool (f i)).toArray.setIfInBounds i (.bool b)) _ _ h;rw[<-e1]at h1;refine⟨?_,?_⟩
 ·unfold BRow;rw[h1];congr 2
  apply Array.ext_getElem?;intro k;rw[Array.getElem?_setIfInBounds];by_cases hk:i=k
  ·subst hk;by_cases hn:i<n
   ·simp[hn]
   ·simp[hn]
  ·rw[if_neg hk];by_cases hn:k<n
   ·simp[hn];exact fun h=>absurd h.symm hk
   ·simp[hn]
 ·rw[e1];exact⟨rfl,rfl,rfl,by simp[World.setRow],fun k hk hn=>setRow_other W g k _ (fun e=>hn (by rw[e]))⟩
theorem vd(w:World)(n:Nat):BRow (w.alloc (.cells (Array.replicate n (.bool false)) 4)) w.heap.size n (fun _=>false):=by
 have h:=World.alloc_heap_new w (.cells (Array.replicate n (.bool false)) 4);unfold BRow;rw[h];congr 2
 apply Array.ext
 ·simp
 ·intro k h1 h2;simp
theorem tf(a b:BL):((⟨a.toArray⟩:ByteArray).toList==(⟨b.toArray⟩:ByteArray).toList)=(a==b):=by
 rw[ByteArray.toList_eq,ByteArray.toList_eq]
theorem EV:(Tryz.prog.info? 4).map (fun i=>(i.zero,i.size,i.bytes))=some (some (.bool false),1,1):=qK
theorem nr(N:Nat)(h:N<=1000)(W:World):(Instr.makeSlice 64 (.int .i64 (N:Int)) (.int .i64 (N:Int))).run Tryz.prog W=.ok (.slice (some ⟨W.heap.size,0,none⟩) N N) (W.alloc (.cells (Array.replicate N (.bool false)) 4)):=by
 have hi:=EV;cases hh: Tryz.prog.info? 4 with
 |none=>rw[hh]at hi;cases hi
 |some i=>
  rw[hh]at hi;simp only[Option.map_some,Option.some.injEq,Prod.mk.injEq]at hi;have:=run_make (P:= Tryz.prog) W 64 4 i (.bool false) Tryz.underlying64 hh hi.1 .i64 .i64 (N:Int) (N:Int) qO qO (by rw[hi.2.2];omega) qO;rw[this,hi.2.1];simp only[Int.toNat_natCast,Nat.mul_one];congr 3
  apply Array.ext
  ·simp[madeCells]
  ·intro k h1 h2;simp[madeCells,Value.cells];rw[Nat.mod_one];rfl
theorem sT(q:Int):IntKind.u64.wrap q=((q % 18446744073709551616).toNat:Int):=by
 have h:0<=q % 18446744073709551616:=Int.emod_nonneg _ qD;rw[Int.toNat_of_nonneg h];simp[IntKind.wrap,IntKind.bits,IntKind.signed]
theorem BRow.cong{W:World}{g n:Nat}{f f':Nat->Bool}(h:BRow W g n f)(he:∀i,i<n->f i=f' i):BRow W g n f':=by
 unfold BRow at*;rw[h];congr 2
 exact congrArg List.toArray (List.map_congr_left fun i hi=>by rw[he i (List.mem_range.1 hi)])
theorem sU{W:World}{n:Nat}{v:Value}{m:Nat}{xs:List Value}{k:Nat}(h:W.ownsRow n 3 1 v m xs)(hk:some k=v.ownBlock):∃cur,W.heap[k]? =some (.cells cur 3 (0,0)):=by
 rcases h.2 with ⟨rfl,_⟩|⟨g,cap,cur,rfl,_,hh,_⟩
 ·cases hk
 ·cases hk
  exact⟨cur,hh⟩
theorem BRow.grown{W W':World}{g n m b:Nat}{f:Nat->Bool}{v:Value}{xs:List Value}(h:BRow W g n f)(ho:W.ownsRow b 3 1 v m xs)(hg:W.grownBy W' v.ownBlock):BRow W' g n f:=by
 have hne:some g≠v.ownBlock:=fun e=>by
  obtain⟨cur,hc⟩:=sU ho e;have h2:W.heap[g]? =_:=h;rw[hc]at h2;injection h2 with h2
  injection h2 with _ h2 _
  exact absurd h2 qD
 unfold BRow at*;rw[World.grownBy.block hg g (aE.1 h).1 hne];exact h
def Da.kD(K:BL)(N:Int)(n:Int)(l:Nat):Nat:=
 if Da.dN (Da.aj K.length) (Da.inR N)=0 then(if 0<=n/\n<512 then(if l=8 then 0 else 8)else 1)else Da.dN (Da.aj K.length) (Da.inR N)
theorem ra(k B:BL)(b:Nat)(n:Int)(o:Option Addr)(c:Nat)(w:World)(hA:Arr w b 179 (bytesV (Da.fil k)))(hB:RowIs w o (bytesV B) c)(hV:Cds w)(hl:B.length<=1000):
  Calls Tryz.prog 49 #[.pointer (some ⟨b,0,none⟩),.int .i64 n,.slice o B.length c] w fun e w'=>∃x,e=.returned x/\RowV (Da.dZ k n B) x w'/\Below w.heap.size w w':=
 (rZ k B b n o c w hA hB hV hl).mono fun e w' ⟨g,cap,h1,_,h2,h3⟩=>⟨_,h1,h2,h3⟩
theorem KX(ZK:Array Value)(hZK:eY.toArray=ZK)(hzk:∀w,Sem.run Tryz.prog (zeroValue 82) w=.ok (.agg ZK) w)(A:Nat->Addr)(W:World)(oK:Option Addr)(cK:Nat)(K9:BL)(N n:Int)(oB:Option Addr)(cB:Nat)(B:BL)(hK9:RowIs W oK (bytesV K9) cK)(hB:RowIs W oB (bytesV B) cB)(hKl:K9.length<=100)(hBl:B.length<=60)(hN:bG N)(hn:bG n)(hV:Cds W)(hE:E16 W A):
  Calls Tryz.prog 23 #[.slice oK K9.length cK,.int .i64 N,.int .i64 n,.slice oB B.length cB] W fun e w'=>∃x,e=.returned (.tuple #[x,eD A (Da.kD K9 N n B.length)])/\RowV (if Da.kD K9 N n B.length=0 then Da.dZ (Da.aQ K9 N 3) n B else[]) x w'/\Below W.heap.size W w':=by
 have hla:=lS K9 oK cK N A W hK9 hV hE.e9 qO;obtain⟨k,hk⟩:=qM (Da.dN (Da.aj K9.length) (Da.inR N));obtain⟨lk,hlk⟩:=qM K9.length;obtain⟨L,hL⟩:=qM B.length;rw[hk]at hla;rw[hlk]at hla⊢;rw[hL]at⊢;have HLA:=Lh hla;have HK:=Lh hk;have HL:=Lh hL;have HBR:=Lh hB;have HV:=Lh hV;have HE:=Lh hE;have HZK:=Lh hZK;have HBL:=Lh hBl;have hnn:=dO;clear hla hk hL hB hV hE hZK hK9 hBl hlk hKl hN;obtain⟨tb,htb⟩:=qM (Da.kD K9 N n L);rw[htb];obtain⟨RS,hRS⟩:=qM ((if tb=0 then Da.dZ (Da.aQ K9 N 3) n B else[]));rw[hRS];have HTB:=Lh htb;have HRS:=Lh hRS;clear htb hRS;go_enter Tryz.func23,Tryz.ntmps23
 go_upto_region 1 with fail
 apply wp_region_lit;iterate 2 (refine qP ?_)
 refine wpList_plain rfl (fun K hK=>?_);go_simp;refine HLA.out.mono ?_;rintro e V2 ⟨xs,rfl,hx,hb2⟩;refine hK _ _ ?_;clear hK K HLA;obtain⟨gk,hgk⟩:=qM V2.heap.size;obtain⟨FA,hFA⟩:∃FA:Array Value,xs.toArray=FA:=⟨_,rfl⟩;have h5:xs.length=5:=hx.len.trans (Da.ll _ _ _);have HFS:Hid ((Tryz.prog.info? 82).map (·.size)=some FA.size):=Lh (by rw[kT,<-hFA];simp[h5]);have HFZ:Hid (ZK.size=FA.size):=Lh (by rw[<-HZK.out,<-hFA];simp[h5,eY]);have HFO:Hid (FA.all (·.oneCell')=true):=Lh (by rw[<-hFA];exact km hx);obtain⟨V3,hV3⟩:=qM (V2.alloc (.cells ZK 82));have hz3:V3.heap[gk]? =some (.cells ZK 82 (0,0)):=by rw[<-hV3,<-hgk];exact World.alloc_heap_new V2 _
 obtain⟨V4,hV4⟩:=qM (V3.setRow gk FA);have hA4:Arr V4 gk 82 xs:=by rw[<-hV4];unfold Arr;rw[hFA];exact setRow_heap _ _ _ _ _ _ hz3
 have hb4:Below V2.heap.size V2 V4:=by rw[<-hV4,<-hV3];exact(aH _ _).trans (aA (Nat.le_of_eq hgk))
 have HX4:=Lh (hx.later hb4);have HA4:=Lh hA4;have HZ3:=Lh hz3;have HV3:=Lh hV3;have HV4:=Lh hV4;have HGK:=Lh hgk;have HFA:=Lh hFA;rw[hFA];have HB4:=Lh (Ks hb2 hb4);clear hx hb2 hgk hFA h5 hV3 hz3 hV4 hA4 hb4;iterate 4 (refine qP ?_)
 rw[HV3.out,HGK.out];refine wpList_store_rowTo rfl 82 (.tmp 10) (.tmp 16) rfl rfl gk FA rfl rfl 82 ZK HZ3.out HFS.out HFZ.out HFO.out ?_;rw[HV4.out];clear HV3 HV4 HZ3 HGK;refine qP ?_;by_cases h0:k=0
 rotate_left
 ·have htb:tb=k:=by rw[<-HTB.out];unfold Da.kD;rw[HK.out,if_neg h0]
  have HTK:=Lh htb;clear htb;obtain⟨a1,ha1⟩:=ii A k h0;rw[ha1];have HA1:=Lh ha1;have H0:=Lh h0;clear ha1 h0;go_wp2_with fail;refine bodyPost_ret (results_tmp2 rfl _ _ _) rfl ?_;refine⟨.slice none 0 0,by rw[HTK.out,HA1.out];rfl,?_,HB4.out⟩;rw[<-HRS.out,if_neg (by rw[HTK.out];exact H0.out)];exact RowV.nil _
 subst h0;rw[fN];go_upto_region 4 with fail
 apply wp_region_lit;refine qP ?_;refine wpList_plain rfl (fun K hK=>?_);go_simp;refine(yU n _).mono ?_;rintro e w1 ⟨rfl,rfl⟩;refine hK _ _ ?_;clear hK K;rename World=>V4
 by_cases hp:0<=n/\n<512
 rotate_left
 ·have hpb:(decide (0<=n)&&decide (n<512))=false:=by
   rw[Bool.eq_false_iff];intro h;rw[Bool.and_eq_true,decide_eq_true_eq,decide_eq_true_eq]at h;exact hp h
  rw[hpb];have htb:tb=1:=by rw[<-HTB.out];unfold Da.kD;rw[HK.out,if_pos rfl,if_neg hp]
  have HTK:=Lh htb;have hc0:=(HE.out.later HB4.out).c0;clear htb hp hpb;refine qP ?_;go_upto_region 5 with fail
  go_quiet (fail)
  go_wp2_with fail;refine bodyPost_ret (results_tmp2 rfl _ _ _) rfl ?_;refine⟨.slice none 0 0,by rw[HTK.out];rfl,?_,Ks HB4.out (Kit.dn' _ _)⟩;rw[<-HRS.out,if_neg (by rw[HTK.out];omega)];exact RowV.nil _
 have hpb:(decide (0<=n)&&decide (n<512))=true:=by rw[decide_eq_true hp.1,decide_eq_true hp.2];rfl
 rw[hpb];have HP:=Lh hp;clear hpb hp;refine qP ?_;by_cases h8:L=8
 rotate_left
 ·have hq1:((L:Int) !=8)=true:=by rw[bne_iff_ne];omega
  have hq2:((L:Int)==8)=false:=beq_false_of_ne qO;have htb:tb=8:=by rw[<-HTB.out];unfold Da.kD;rw[HK.out,if_pos rfl,if_pos HP.out,if_neg h8]
  have HTK:=Lh htb;have hc7:=(HE.out.later HB4.out).c7;clear htb h8;go_upto_region 7 with fail
  go_quiet (fail)
  go_wp2_with fail;refine bodyPost_ret (results_tmp2 rfl _ _ _) rfl ?_;refine⟨.slice none 0 0,by rw[HTK.out];rfl,?_,Ks HB4.out (Kit.dn' _ _)⟩;rw[<-HRS.out,if_neg (by rw[HTK.out];omega)];exact RowV.nil _
 subst h8;have htb:tb=0:=by rw[<-HTB.out];unfold Da.kD;rw[HK.out,if_pos rfl,if_pos HP.out,if_pos rfl]
 have HTK:=Lh htb;clear htb;have hx4:Els V4 (Da.dp K9 N) xs:=HX4.out;obtain⟨x3,hx3,hr3⟩:=hx4.key16 3 qO;have hk3l:=Da.bP K9 N 3 qO;obtain⟨o3,c3,rfl,hr3⟩:=hr3;have hmk:=gV (Da.aQ K9 N 3) o3 c3 V4 hr3 (HV.out.later HB4.out) (by rw[hk3l];omega);rw[hk3l]at hmk hx3;have hc3:V4.cell? ⟨gk,3,none⟩=some (.slice o3 32 c3):=by rw[HA4.out.cell];exact hx3
 have HMK:=Lh hmk;have HK3L:=Lh hk3l;clear hx4 hx3 hr3 hmk hk3l;obtain⟨gm,hgm⟩:=qM V4.heap.size;rw[hgm]at HMK;have HGM:=Lh hgm;clear hgm;go_upto_region 8 with fail
 apply wp_region_lit;iterate 2 (refine qP ?_)
 refine wpList_plain rfl (fun K hK=>?_);go_simp;refine HMK.out.mono ?_;rintro e V5 ⟨rfl,hA5,hb5⟩;rw[<-HGM.out]at hb5;refine hK _ _ ?_;clear hK K hc3 HMK;have htg:=ra (Da.aQ K9 N 3) B gm n oB cB V5 hA5 (HBR.out.later (Ks HB4.out hb5)) (HV.out.later (Ks HB4.out hb5)) (by have:=HBL.out;omega);rw[HL.out]at htg;have HTG:=Lh htg;have HB5:=Lh (Ks HB4.out hb5);clear htg hA5 hb5;iterate 2 (refine qP ?_)
 refine wpList_plain rfl (fun K hK=>?_);go_simp;refine HTG.out.mono ?_;rintro e V6 ⟨x,rfl,hx6,hb6⟩;refine hK _ _ ?_;clear hK K HTG;have HX6:=Lh hx6;have HB6:=Lh (Ks HB5.out hb6);clear hx6 hb6;go_wp2_with fail;refine bodyPost_ret (results_tmp2 rfl _ _ _) rfl ?_;refine⟨x,by rw[HTK.out];rfl,?_,HB6.out⟩;rw[<-HRS.out,if_pos HTK.out];exact HX6.out
theorem FC(A:Nat->Addr)(W:World)(oK:Option Addr)(cK:Nat)(K9:BL)(N n:Int)(oB:Option Addr)(cB:Nat)(B:BL)(hK9:RowIs W oK (bytesV K9) cK)(hB:RowIs W oB (bytesV B) cB)(hKl:K9.length<=100)(hBl:B.length<=60)(hN:bG N)(hn:bG n)(hV:Cds W)(hE:E16 W A):
  Calls Tryz.prog 23 #[.slice oK K9.length cK,.int .i64 N,.int .i64 n,.slice oB B.length cB] W fun e w'=>∃x,e=.returned (.tuple #[x,eD A (Da.kD K9 N n B.length)])/\RowV (if Da.kD K9 N n B.length=0 then Da.dZ (Da.aQ K9 N 3) n B else[]) x w'/\Below W.heap.size W w':=KX _ rfl rH A W oK cK K9 N n oB cB B hK9 hB hKl hBl hN hn hV hE
theorem Da.C9{K:BL}{N:Int}{p:Pm15}(i:Int)(h:Da.fH K N p=0):(if Da.a6 p (Da.dE K N p i)=0 then Da.ez K N p i.toNat else 0)=Da.jI (Da.son (Da.aQ K N 1) (Da.bw (Da.n16 p))) (Da.n16 p) (4^Da.bw (Da.n16 p)) i:=by
 obtain⟨h0,h1⟩:=Da.gK h;unfold Da.a6 Da.dE;rw[if_pos h0,if_pos h1];unfold Da.iQ Da.jI;by_cases hi:Da.inO (Da.n16 p) i=true
 ·rw[if_pos hi,if_pos rfl,if_pos hi];rfl
 ·rw[if_neg hi,if_neg qO,if_neg hi]
theorem Ca(ZL:Array Value)(hZL:oP.toArray=ZL)(hzl:∀w,Sem.run Tryz.prog (zeroValue 106) w=.ok (.agg ZL) w)(A:Nat->Addr)(W:World)(oK:Option Addr)(cK:Nat)(K9:BL)(N:Int)(p:Pm15)(i:Int)(hK9:RowIs W oK (bytesV K9) cK)(hKl:K9.length<=100)(hN:bG N)(hi:bG i)(hok:p.ok)(hV:Cds W)(hE:E16 W A):
  Calls Tryz.prog 22 #[.slice oK K9.length cK,.int .i64 N,.agg (pmA p),.int .i64 i] W fun e w'=>∃v,e=.returned (.tuple #[.int .i64 ((if Da.a6 p (Da.dE K9 N p i)=0 then Da.ez K9 N p i.toNat else 0:Nat):Int),v])/\SeV A p (Da.dE K9 N p i) w' v/\Below W.heap.size W w':=by
 obtain⟨PV,hPV⟩:∃PV:Nat,(if Da.a6 p (Da.dE K9 N p i)=0 then Da.ez K9 N p i.toNat else 0)=PV:=⟨_,rfl⟩;rw[hPV];have HPV:=Lh hPV;clear hPV;obtain⟨g,hg⟩:=qM W.heap.size;obtain⟨PA,hPA⟩:=qM (pmA p);obtain⟨W1,hW1⟩:=qM (W.alloc (.cells PA 24));have hb1:Below W.heap.size W W1:=by rw[<-hW1];exact aH _ _
 have hP1:W1.heap[g]? =some (.cells PA 24 (0,0)):=by rw[<-hW1,<-hg];exact World.alloc_heap_new W _
 have hly:=j5 A W1 oK cK K9 N p (hK9.later hb1) hKl hN hok (hV.later hb1) (hE.later hb1);have HPS:Hid ((Tryz.prog.info? 24).map (·.size)=some PA.size):=Lh (by rw[<-hPA];exact aM);rw[hPA]at hly⊢;obtain⟨lk,hlk⟩:=qM K9.length;rw[hlk]at hly⊢;have HLY:=Lh hly;have HP1:=Lh hP1;have HB1:=Lh hb1;have HW1:=Lh hW1;have HG:=Lh hg;have HV:=Lh hV;have HE:=Lh hE;have HZL:=Lh hZL;have hnn:=dO;clear hly hP1 hb1 hW1 hg hV hE hZL hK9 hKl hN hi hok hPA hlk;go_enter Tryz.func22,Tryz.ntmps22
 go_upto_region 1 with fail
 rw[HW1.out,HG.out];apply wp_region_lit;iterate 2 (refine qP ?_)
 refine wpList_load_row rfl 24 (.tmp 6) rfl g rfl 24 PA (0,0) _ HP1.out Tryz.underlying24 rfl HPS.out ?_;refine wpList_plain rfl (fun K hK=>?_);go_simp;refine HLY.out.mono ?_;rintro e V2 ⟨L,v,rfl,hly,hb2⟩;refine hK _ _ ?_;clear hK K HLY;obtain⟨gl,hgl⟩:=qM V2.heap.size;obtain⟨FL,hFL⟩:=qM L.toArray;obtain⟨V3,hV3⟩:=qM (V2.alloc (.cells ZL 106));have hz3:V3.heap[gl]? =some (.cells ZL 106 (0,0)):=by rw[<-hV3,<-hgl];exact World.alloc_heap_new V2 _
 obtain⟨V4,hV4⟩:=qM (V3.setRow gl FL);have hA4:Arr V4 gl 106 L:=by rw[<-hV4];unfold Arr;rw[hFL];exact setRow_heap _ _ _ _ _ _ hz3
 have hb4:Below V2.heap.size V2 V4:=by rw[<-hV4,<-hV3];exact(aH _ _).trans (aA (Nat.le_of_eq hgl))
 have HLS:Hid ((Tryz.prog.info? 106).map (·.size)=some FL.size):=Lh (by rw[mt,<-hFL,hly.1]);have HLQ:Hid (ZL.size=FL.size):=Lh (by rw[<-hFL,hly.1,<-HZL.out];rfl);have HLO:Hid (FL.all (·.oneCell')=true):=Lh (by rw[<-hFL];exact hly.2.1);have hcs:=(hly.later hb4).2.2;have HA4:=Lh hA4;have HZ3:=Lh hz3;have HV3:=Lh hV3;have HV4:=Lh hV4;have HGL:=Lh hgl;have HFL:=Lh hFL;have HB4:=Lh (Ks (Ks HB1.out hb2) hb4);have HCS:=Lh hcs;rw[hFL];clear hly hb2 hgl hFL hV3 hz3 hV4 hA4 hb4 hcs;iterate 4 (refine qP ?_)
 rw[HV3.out,HGL.out];refine wpList_store_rowTo rfl 106 (.tmp 10) (.tmp 17) rfl rfl gl FL rfl rfl 106 ZL HZ3.out HLS.out HLQ.out HLO.out ?_;rw[HV4.out];clear HV3 HV4 HZ3;refine qP ?_;rcases HCS.out with ⟨hr,rfl,xs,go,q,rfl,h5,hx,hO⟩|⟨hr,hsv,hn1,hn2⟩
 rotate_left
 ·have HF1:Hid (PV=0):=Lh (by rw[<-HPV.out];exact if_neg (Da.qW hr (fun _=>Da.iQ (Da.n16 p) i)));have HF2:Hid (SeV A p (Da.dE K9 N p i) V4 v):=Lh (qX hsv hr _);clear hr hsv HCS;go_wp2_with fail;refine bodyPost_ret (results_tmp2 rfl _ _ _) rfl ?_;exact⟨v,by rw[HF1.out];rfl,HF2.out,HB4.out⟩
 have h0:=Da.gK hr;have hn4:=Da.iy (Da.cN h0.1);have hto:=G6 go q (Da.aQ K9 N 1) (Da.n16 p) qO i A V4 hO (HV.out.later HB4.out) (HE.out.later HB4.out).e11;have hpv:=Da.C9 (K:=K9) (N:=N) (p:=p) i hr;rw[HPV.out]at hpv;rw[<-hpv]at hto;obtain⟨ob,hob⟩:=qM (Da.iQ (Da.n16 p) i);rw[hob]at hto;have HF2:Hid (∀w',SeV A p (Da.dE K9 N p i) w' (eD A ob)):=Lh fun w'=>.inr ⟨h0.1,by unfold Da.dE;rw[if_pos h0.2,hob]⟩
 have hc5:V4.cell? ⟨gl,5,none⟩=some (.pointer (some ⟨go,0,none⟩)):=by rw[HA4.out.cell,wS h5]
 have HTO:=Lh hto;clear hr h5 hx hO h0 hn4 hto hpv hob HCS;go_upto_region 4 with fail
 apply wp_region_lit;iterate 3 (refine qP ?_)
 refine wpList_plain rfl (fun K hK=>?_);go_simp;refine HTO.out.mono ?_;rintro e V5 ⟨rfl,hb5⟩;refine hK _ _ ?_;clear hK K HTO hc5;have HB5:=Lh (Ks HB4.out hb5);clear hb5;go_wp2_with fail;refine bodyPost_ret (results_tmp2 rfl _ _ _) rfl ?_;exact⟨eD A ob,rfl,HF2.out _,HB5.out⟩
theorem zu(A:Nat->Addr)(W:World)(oK:Option Addr)(cK:Nat)(K9:BL)(N:Int)(p:Pm15)(i:Int)(hK9:RowIs W oK (bytesV K9) cK)(hKl:K9.length<=100)(hN:bG N)(hi:bG i)(hok:p.ok)(hV:Cds W)(hE:E16 W A):
  Calls Tryz.prog 22 #[.slice oK K9.length cK,.int .i64 N,.agg (pmA p),.int .i64 i] W fun e w'=>∃v,e=.returned (.tuple #[.int .i64 ((if Da.a6 p (Da.dE K9 N p i)=0 then Da.ez K9 N p i.toNat else 0:Nat):Int),v])/\SeV A p (Da.dE K9 N p i) w' v/\Below W.heap.size W w':=Ca _ rfl rc A W oK cK K9 N p i hK9 hKl hN hi hok hV hE
def Da.aBS(K:BL)(N:Int)(p:Pm15)(S:L8)(D:BL)(Q:Nat)(G:BL):Prop:=
 ∃R F g E C,Da.Op17 K N p S R F g E C/\((Da.a6 p R≠0/\Q=R/\G=[])∨(Da.a6 p R=0/\Da.sha F≠D/\Q=5/\G=[])∨(Da.a6 p R=0/\Da.sha F=D/\Q=0/\G=F))
theorem Pb(xs ys:BL)(hx:xs.length=32)(hy:ys.length=32)(w:World):(Op.equalIn 10000 44 (.agg (bytesV xs).toArray) (.agg (bytesV ys).toArray)).run Tryz.prog w=.ok (xs==ys) w:=
 run_equalIn_bytes (P:= Tryz.prog) w 9998 44 5 32 au Tryz.underlying5 (fun w=>by
  obtain⟨i0,hi,_,hz1,_⟩:=info_parts ao;simp[sizeOf,typeInfo,hi,hz1]) xs ys hx hy
theorem zz(ZR:Array Value)(hZR:#[.int .i64 0,.slice none 0 0,.slice none 0 0]=ZR)(hzr:∀w,Sem.run Tryz.prog (zeroValue 39) w=.ok (.agg ZR) w)
  (A:Nat->Addr) (W:World) (oK:Option Addr) (cK:Nat) (K9:BL) (N:Int) (p:Pm15) (oS:Option Addr) (cS:Nat) (S:L8) (D:BL) (hD:D.length=32)
  (hK9:RowIs W oK (bytesV K9) cK) (hS:RbIs W oS S cS) (hKl:K9.length<=100) (hF:kg S) (hN:bG N) (hok:p.ok) (hV:Cds W) (hE:E17 W A) (hc4:W.cell? ⟨1,0,none⟩=some (.iface 302 (.pointer (some (A 4))))):
  Calls Tryz.prog 12 #[.slice oK K9.length cK,.int .i64 N,.agg (pmA p),.slice oS S.length cS,.agg (bytesV D).toArray] W fun e w'=>∃Q G x v,Da.aBS K9 N p S D Q G/\e=.returned (.tuple #[x,v])/\RowV G x w'/\SeV A p Q w' v/\Below W.heap.size W w':=by
 obtain⟨g,hg⟩:=qM W.heap.size;obtain⟨PA,hPA⟩:=qM (pmA p);obtain⟨DA,hDA⟩:=qM ((bytesV D).toArray);obtain⟨W2,hW2⟩:=qM ((W.alloc (.cells PA 24)).alloc (.cells DA 44));have hb2:Below W.heap.size W W2:=by rw[<-hW2];exact Ks (aH _ _) (aH _ _)
 have hA2:Arr W2 g 24 (pmL p):=by
  have h1:Arr (W.alloc (.cells PA 24)) g 24 (pmL p):=by rw[<-hPA,<-hg];exact World.alloc_heap_new W _
  rw[<-hW2];exact h1.alloc _
 have hL2:W2.heap[g+1]? =some (.cells DA 44 (0,0)):=by rw[<-hW2,<-hg];exact ff _ _ _ _
 have hop:=wZ A W2 oK cK K9 N p oS cS S (hK9.later hb2) (hS.later hb2) hKl hF hN hok (hV.later hb2) (hE.later hb2);have HPP:Hid (W2.heap[g]? =some (.cells PA 24 (0,0))):=Lh (by
  have:=hA2;unfold Arr at this;rw[show(pmL p).toArray=PA from hPA]at this;exact this)
 have HPS:Hid ((Tryz.prog.info? 24).map (·.size)=some PA.size):=Lh (by rw[<-hPA];exact aM);have HDS:Hid ((Tryz.prog.info? 44).map (·.size)=some DA.size):=Lh (by rw[bJ,<-hDA];simp[hD]);have HLZ:Hid (∀w',Below W2.heap.size W2 w'->w'.heap[g+1]? =some (.cells DA 44 (0,0))):=Lh fun w' hb=>(hb.block (g+1) (aE.1 hL2).1).trans hL2
 rw[hPA]at hop⊢;rw[hDA];obtain⟨lk,hlk⟩:=qM K9.length;obtain⟨m,hm⟩:=qM S.length;rw[hlk,hm]at hop⊢;have HOP:=Lh hop;have HG:=Lh hg;have HW2:=Lh hW2;have HB2:=Lh hb2;have HV:=Lh hV;have HZR:=Lh hZR;have HDA:=Lh hDA;have HD:=Lh hD;have HC4:Hid (∀w',Below W.heap.size W w'->w'.cell? ⟨1,0,none⟩=some (.iface 302 (.pointer (some (A 4))))):=Lh fun w' hb=>(hb.cell (de hc4)).trans hc4
 have hnn:=dO;clear hop hg hW2 hb2 hA2 hL2 hV hE hZR hK9 hS hKl hlk hPA hDA hD hok hN hF hm hc4;go_enter Tryz.func12,Tryz.ntmps12
 go_upto_region 1 with fail
 rw[HW2.out,HG.out];apply wp_region_lit;iterate 2 (refine qP ?_)
 refine wpList_load_row rfl 24 (.tmp 7) rfl g rfl 24 PA (0,0) _ HPP.out Tryz.underlying24 rfl HPS.out ?_;refine qP ?_;refine wpList_plain rfl (fun K hK=>?_);go_simp;refine HOP.out.mono ?_;rintro e W3 ⟨R,F,gq,E,C,x,y,z,v,hOp,rfl,hx,hy,hz,hv,hb3⟩;refine hK _ _ ?_;clear hK K HOP;obtain⟨oy,cy,rfl,_⟩:=hy;obtain⟨oz,cz,rfl,_⟩:=hz;obtain⟨ox,cx,rfl,hrx⟩:=hx;obtain⟨ly,hly⟩:=qM E.length;obtain⟨lz,hlz⟩:=qM C.length;obtain⟨lx,hlx⟩:=qM F.length;rw[hly,hlz,hlx];obtain⟨gk,hgk⟩:=qM W3.heap.size;obtain⟨FA,hFA⟩:∃FA:Array Value,(#[.int .i64 ((gq:Nat):Int),.slice oy ly cy,.slice oz lz cz]:Array Value)=FA:=⟨_,rfl⟩;have HFS:Hid ((Tryz.prog.info? 39).map (·.size)=some FA.size):=Lh (by rw[kE,<-hFA];rfl);have HFZ:Hid (ZR.size=FA.size):=Lh (by rw[<-HZR.out,<-hFA];rfl);have HFO:Hid (FA.all (·.oneCell')=true):=Lh (by rw[<-hFA];exact Cf rfl rfl rfl);obtain⟨V3,hV3⟩:=qM (W3.alloc (.cells ZR 39));have hz3:V3.heap[gk]? =some (.cells ZR 39 (0,0)):=by rw[<-hV3,<-hgk];exact World.alloc_heap_new W3 _
 obtain⟨V4,hV4⟩:=qM (V3.setRow gk FA);have hb5:Below W3.heap.size W3 V4:=by rw[<-hV4,<-hV3];exact(aH _ _).trans (aA (Nat.le_of_eq hgk))
 have HZ3:=Lh hz3;have HV3:=Lh hV3;have HV4:=Lh hV4;have HGK:=Lh hgk;have HB4:=Lh (Ks hb3 hb5);have HOQ:=Lh hOp;have HSV:=Lh (hv.later hb5);have HRX:=Lh (hrx.later hb5);have HLX:=Lh hlx;rw[hFA];clear hb3 hgk hFA hV3 hz3 hV4 hb5 hOp hv hrx hlx hly hlz;iterate 6 (refine qP ?_)
 rw[HV3.out,HGK.out];refine wpList_store_rowTo rfl 39 (.tmp 13) (.tmp 22) rfl rfl gk FA rfl rfl 39 ZR HZ3.out HFS.out HFZ.out HFO.out ?_;rw[HV4.out];clear HV3 HV4 HZ3 HFS HFZ HFO;refine qP ?_;by_cases hse:Da.a6 p R=0
 rotate_left
 ·obtain⟨hn1,hn2⟩:=wY HSV.out hse;have HSE:=Lh hse;clear hse;go_wp2_with fail;refine bodyPost_ret (results_tmp2 rfl _ _ _) rfl ?_;exact⟨R,[],_,_,⟨R,F,gq,E,C,HOQ.out,.inl ⟨HSE.out,rfl,rfl⟩⟩,rfl,RowV.nil _,HSV.out,Ks HB2.out HB4.out⟩
 obtain⟨h0,hr0⟩:=Da.iq hse;obtain rfl:v=.nilIface:=by
  rcases HSV.out with ⟨h,_⟩|⟨_,h⟩
  ·exact absurd h0 h
  ·rw[h,hr0];rfl
 have HSE:=Lh hse;have H0:=Lh h0;have hfl:=Da.Op17.len HOQ.out;obtain⟨CC,hC⟩:∃CC:World->Prop,(fun v=>Below V4.heap.size V4 v)=CC:=⟨_,rfl⟩;have HCm:Hid (∀v,CC v->Below V4.heap.size V4 v):=Lh fun v hv=>by rw[<-hC]at hv;exact hv
 have HCi:Hid (∀v,Below V4.heap.size V4 v->CC v):=Lh fun v hv=>by rw[<-hC];exact hv
 have hCC:CC {V4 with drawn:=V4.drawn+1}:=HCi.out _ (Kit.dn' V4 1);have HDD:Hid (∀v,CC v->v.heap[g+1]? =some (.cells DA 44 (0,0))):=Lh fun v hv=>HLZ.out v (Ks HB4.out (HCm.out v hv))
 obtain⟨GA,hGA⟩:=qM ((bytesV (Da.sha F)).toArray);have HSO:Hid (∀v,CC v->Calls Tryz.prog 33 #[.slice (some ⟨v.heap.size,0,none⟩) 1 1] (v.alloc (.cells #[.slice ox lx cx] 22)) fun e w'=>e=.returned (.agg GA)/\Below v.heap.size v w'):=Lh fun v hv=>by
  have hrb:RbIs (v.alloc (.cells #[.slice ox lx cx] 22)) (some ⟨v.heap.size,0,none⟩) [F] 1:=by
   have:=jo (HRX.out.later (HCm.out v hv));rw[HLX.out]at this;exact this
  have:=mN [F] (some ⟨v.heap.size,0,none⟩) 1 _ hrb (HV.out.later (Ks HB2.out (Ks HB4.out (Ks (HCm.out v hv) (aH _ _))))) (by simp;omega) qS;rw[show[F].flatten=F by simp,show([F]:L8).length=1 from rfl,hGA]at this;exact this.mono fun e w' ⟨h1,h2⟩=>⟨h1,Ks (aH _ _) h2⟩
 have HNQ:Hid (∀w,(Op.equalIn 10000 44 (.agg GA) (.agg DA)).run Tryz.prog w=.ok (Da.sha F==D) w):=Lh fun w=>by rw[<-hGA,<-HDA.out];exact Pb _ _ (Da.ai F) HD.out w
 clear hse h0 hr0 hfl hC hGA;go_upto_region 4 with fail
 refine wp_region_held (S:=CC) qK ?_;refine aI (i:=0) (x:=.slice ox lx cx) rfl rfl qK qK qK qI (Or.inl ⟨qK,fun w hw=>qG⟩) hCC ?_;simp only[qA,qZ,qC];refine aI (i:=3) (x:=.agg DA) rfl rfl qK qK qK qI (Or.inl ⟨qK,fun w hw=>mz (t:= 44) (fr:=(0,0)) rfl rfl (HDD.out w hw) au rfl HDS.out⟩) hCC ?_;simp only[qA,qZ,qC];obtain⟨V0,hV0⟩:∃V0,({V4 with drawn:=V4.drawn+1}:World)=V0:=⟨_,rfl⟩;rw[hV0]at hCC;first|rw[hV0]|rw[show World.drew V4=V0 from hV0]
 clear hV0;refine dF (i:=1) qK rfl qK (fun K hK=>?_);have hso:=HSO.out V0 hCC;obtain⟨gf,hgf⟩:=qM V0.heap.size;obtain⟨V1,hV1⟩:=qM (V0.alloc (.cells #[.slice ox lx cx] 22));have hb1:Below V0.heap.size V0 V1:=by rw[<-hV1];exact aH _ _
 rw[hV1]at hso;have HSO2:=Lh hso;have HV1:=Lh hV1;have HGF:=Lh hgf;have hC1:=HCi.out _ (Ks (HCm.out _ hCC) hb1);have HC0:=Lh hCC;clear hso hV1 hgf hb1 hCC HSO;go_simp;rw[HV1.out];refine hK _ _ hC1 ?_;clear hK K;refine dF (i:=2) qK rfl qK (fun K hK=>?_);go_simp;refine HSO2.out.mono ?_;rintro e Y1 ⟨rfl,hbz⟩;have hC2:=HCi.out _ (Ks (HCm.out _ HC0.out) hbz);refine hK _ _ hC2 ?_;clear hK K HSO2 hC1 hbz;refine aI (i:=4) (x:=.bool (!(Da.sha F==D))) rfl rfl qK qK qK qI (Or.inl ⟨qK,fun w hw=>by have hc:=HNQ.out w;(go_simp<;>with_reducible rfl)⟩) hC2 ?_;simp only[qA,qZ,qC];refine wpAnyH_done qK ?_ _;have HB6:=Lh (Ks HB2.out (Ks HB4.out (HCm.out _ hC2)));have HRY:=Lh (HRX.out.later (HCm.out _ hC2));clear hC2 HC0;by_cases he:Da.sha F=D
 ·have hb:(Da.sha F==D)=true:=by rw[beq_iff_eq];exact he
  rw[hb];have HEQ:=Lh he;clear he hb;go_wp2_with fail;refine bodyPost_ret (results_tmp2 rfl _ _ _) rfl ?_;exact⟨0,F,_,_,⟨R,F,gq,E,C,HOQ.out,.inr (.inr ⟨HSE.out,HEQ.out,rfl,rfl⟩)⟩,rfl,⟨ox,cx,by rw[HLX.out];rfl,HRY.out⟩,.inr ⟨H0.out,rfl⟩,HB6.out⟩
 ·have hb:(Da.sha F==D)=false:=beq_false_of_ne he;rw[hb];have HEQ:=Lh he;have hc4:=HC4.out Y1 HB6.out;clear he hb;go_wp2_with fail;go_region
  all_goals go_wp2_with fail
  all_goals refine bodyPost_ret (results_tmp2 rfl _ _ _) rfl ?_
  all_goals exact⟨5,[],_,_,⟨R,F,gq,E,C,HOQ.out,.inr (.inl ⟨HSE.out,HEQ.out,rfl,rfl⟩)⟩,rfl,RowV.nil _,.inr ⟨H0.out,rfl⟩,Ks HB6.out (Kit.dn' _ _)⟩
theorem xF(A:Nat->Addr)(W:World)(oK:Option Addr)(cK:Nat)(K9:BL)(N:Int)(p:Pm15)(oS:Option Addr)(cS:Nat)(S:L8)(D:BL)(hD:D.length=32)
  (hK9:RowIs W oK (bytesV K9) cK) (hS:RbIs W oS S cS) (hKl:K9.length<=100) (hF:kg S) (hN:bG N) (hok:p.ok) (hV:Cds W) (hE:E17 W A) (hc4:W.cell? ⟨1,0,none⟩=some (.iface 302 (.pointer (some (A 4))))):
  Calls Tryz.prog 12 #[.slice oK K9.length cK,.int .i64 N,.agg (pmA p),.slice oS S.length cS,.agg (bytesV D).toArray] W fun e w'=>∃Q G x v,Da.aBS K9 N p S D Q G/\e=.returned (.tuple #[x,v])/\RowV G x w'/\SeV A p Q w' v/\Below W.heap.size W w':=zz _ rfl q9 A W oK cK K9 N p oS cS S D hD hK9 hS hKl hF hN hok hV hE hc4
section
open Go.ChangeShapes Go.WideShapes Go.ChangeAt
structure HitAt(W:World)(b off:Nat)(z:HitT):Prop where
 lo: -9223372036854775808<=z.p
 hi:z.p<=9223372036854775807
 len:z.y.length=8
 c0:W.cell? ⟨b,off,none⟩=some (.int .i64 z.p)
 c1:W.cell? ⟨b,off+1,none⟩=some (.bool z.g)
 c2:∀j,j<8->W.cell? ⟨b,off+2+j,none⟩=some (.int .u8 ((co z.y j).toNat:Int))
theorem HitAt.later{W W':World}{b off:Nat}{z:HitT}(h:HitAt W b off z)(hlt:b<W.heap.size)(hb:Below W.heap.size W W'):HitAt W' b off z:=
 ⟨h.lo,h.hi,h.len,by rw[hb.cell (p:=⟨b,off,none⟩) hlt];exact h.c0,by rw[hb.cell (p:=⟨b,off+1,none⟩) hlt];exact h.c1,fun j hj=>by rw[hb.cell (p:=⟨b,off+2+j,none⟩) hlt];exact h.c2 j hj⟩
structure HitsIs(W:World)(o:Option Addr)(zs:List HitT)(c:Nat):Prop where
 le:zs.length<=c
 cap:c<=maxLen
 nil:o=none->c=0
 cells:0<zs.length->∃b off,o=some ⟨b,off,none⟩/\b<W.heap.size/\∀i,i<zs.length->HitAt W b (off+i*10) (zs.getD i default)
theorem HitsIs.later{W W':World}{o:Option Addr}{zs:List HitT}{c:Nat}(h:HitsIs W o zs c)(hb:Below W.heap.size W W'):HitsIs W' o zs c:=
 ⟨h.le,h.cap,h.nil,fun h0=>by
  obtain⟨b,off,e,hlt,hc⟩:=h.cells h0;exact⟨b,off,e,Nat.lt_of_lt_of_le hlt hb.size,fun i hi=>(hc i hi).later hlt hb⟩⟩
theorem open_hits{H:Type}{enc:TypeId×Value->H}{P:Program}{W:World}{r:Reach}{base:Nat}{t e e8:TypeId}{f0 f1 f2:Field}{v:Value}{d:DataW H}{p:List MemPlace}
  (ht:P.underlying t=some (.slice e)) (he:P.underlying e=some (.struct #[f0,f1,f2])) (ce:P.cellsOf e=10) (o0:f0.offset=0) (o1:f1.offset=1) (o2:f2.offset=2) (c0:P.cellsOf f0.type=1) (c1:P.cellsOf f1.type=1) (c2:P.cellsOf f2.type=8)
  (u0:P.underlying f0.type=some (.int .i64)) (u1:P.underlying f1.type=some .bool) (u2:P.underlying f2.type=some (.array 8 e8)) (u8:P.underlying e8=some (.int .u8)) (c8:P.cellsOf e8=1) (hval:Value.okWide P W r base t v)
  (h:DataW.Trod enc P W 0 (fun _=>true) true t v d p) (hlt:∀x∈p,x.block<W.heap.size):
  ∃(o:Option Addr)(c:Nat)(zs:List HitT),v=.slice o zs.length c/\HitsIs W o zs c:=by
 obtain⟨a0,len,cap,rfl⟩:=okWide_slice ht hval;obtain⟨fuel,hf⟩:=h;rcases Go.Deep.open_slice ht hf with ⟨hcs,hx⟩|⟨a,len',cap',m,n,D,Pl,hcs,_,hl,hm,hmm,hx,hi⟩
 ·simp[Value.cells]at hcs;obtain⟨rfl,rfl,rfl⟩:=hcs;exact⟨none,0,[],rfl,⟨Nat.le_refl _,Nat.zero_le _,fun _=>rfl,fun h=>absurd h qS⟩⟩
 ·simp[Value.cells]at hcs;obtain⟨rfl,rfl,rfl⟩:=hcs;simp only[if_true]at hmm;subst hmm;simp only[Prod.mk.injEq]at hx;obtain⟨rfl,rfl⟩:=hx;obtain⟨b,off,spot⟩:=a;have each:∀i,i<m->∃z:HitT,spot=none/\HitAt W b (off+i*10) z:=by
   intro i hic;obtain⟨cs',h1,h2⟩:=hi i hic;rw[ce]at h1;obtain⟨_,hlen,hcell⟩:=World.cells?_some h1;obtain⟨xs,k,hk,hxy,_,hxl,hfs⟩:=DataW.trod_struct he h2;have g0:=hfs 0 f0 rfl;have g1:=hfs 1 f1 rfl;have g2:=hfs 2 f2 rfl;have hx3:xs.length=3:=hxl;rw[o0,c0,List.getElem?_eq_getElem qO]at g0;rw[o1,c1,List.getElem?_eq_getElem qO]at g1;rw[o2,c2,List.getElem?_eq_getElem qO]at g2;obtain⟨k0,hk0,_,hw0⟩:=DataW.trod_int u0 g0;obtain⟨k1,hk1,_⟩:=DataW.trod_bool u1 g1;obtain⟨ys,m2,_,_,_,hyl,hys⟩:=DataW.trod_array u2 g2;have hsp:spot=none:=by
    obtain⟨cs0,h10,_⟩:=hi 0 qO;rw[ce]at h10;obtain⟨_,hlen0,hcell0⟩:=World.cells?_some h10;have:=hcell0 0 qO;rw[List.getElem?_eq_getElem qO]at this;simpa[Addr.add]using World.cell?_spot this
   subst hsp;have hat:∀j,j<10->W.cell? ⟨b,off+i*10+j,none⟩=cs'[j]? :=fun j hj=>by
    have:=hcell j qO;rw[add_plain,add_plain]at this;exact this
   have q0:cs'[0]? =some (.int .i64 k0):=by
    have:=congrArg (fun l=>l[0]?) hk0;simpa using this
   have q1:cs'[1]? =some (.bool k1):=by
    have:=congrArg (fun l=>l[0]?) hk1;simpa using this
   have q2:∀j,j<8->cs'[2+j]? =some (.int .u8 ((tL cs'[2+j]?).toNat:Int)):=fun j hj=>by
    have g:=hys j hj;rw[c8,Nat.mul_one,List.getElem?_eq_getElem qO]at g;obtain⟨kk,hkk,_,hww⟩:=DataW.trod_int u8 g;have h3:=congrArg (fun l=>l[0]?) hkk;have h4:cs'[2+j]? =some (.int .u8 kk):=by
     simp[List.getElem?_drop,List.getElem?_take]at h3;exact h3.2
    rw[h4,uK hww]
   have hw:=i64_wf hw0;refine⟨⟨k0,k1,(List.range 8).map fun j=>tL cs'[2+j]?⟩,rfl,⟨hw.1,hw.2,qS,by rw[<-q0];exact hat 0 qO,by rw[<-q1];exact hat 1 qO,fun j hj=>?_⟩⟩;have e:co ((List.range 8).map fun j=>tL cs'[2+j]?) j=tL cs'[2+j]? :=by simp[co,List.getD_eq_getElem?_getD,hj]
   rw[e,<-q2 j hj,<-hat (2+j) qO,Nat.add_assoc]
  obtain⟨q,hq⟩:=Go.Deep.choose_lt each;have hget:∀i,i<len->((List.range len).map q).getD i default=q i:=fun i hil=>by simp[List.getD_eq_getElem?_getD,hil]
  refine⟨some ⟨b,off,spot⟩,m,(List.range len).map q,qS,⟨by simpa using hl,hm,(fun h=>by cases h),fun h0=>?_⟩⟩;have h1:0<len:=by simpa using h0
  have hs:=(hq 0 qO).1;subst hs;refine⟨b,off,rfl,hlt (.cell b off) (List.mem_append_left _ (MemPlace.mem_row.2 ⟨0,by rw[ce];omega,qS⟩)),fun i hil=>?_⟩;have hil:i<len:=by simpa using hil
  rw[hget i hil];exact(hq i qO).2
end
def HRow(W:World)(g n:Nat)(T:TypeId)(f:Nat->Value):Prop:=W.heap[g]? =some (.cells ((List.range n).map f).toArray T (0,0))
theorem HRow.cell{W:World}{g n:Nat}{T:TypeId}{f:Nat->Value}(h:HRow W g n T f)(i:Nat)(hi:i<n):W.cell? ⟨g,i,none⟩=some (f i):=by
 rw[cell_of_row _ _ i _ _ _ h];simp[hi]
theorem HRow.frozen{W:World}{g n:Nat}{T:TypeId}{f:Nat->Value}(h:HRow W g n T f)(i:Nat):W.frozen? ⟨g,i,none⟩=false:=by
 unfold World.frozen?;rw[show W.heap[g]? =_ from h];rfl
theorem HRow.lt{W:World}{g n:Nat}{T:TypeId}{f:Nat->Value}(h:HRow W g n T f):g<W.heap.size:=(aE.1 h).1
theorem HRow.later{W W':World}{g n:Nat}{T:TypeId}{f:Nat->Value}(h:HRow W g n T f)(hb:Below W.heap.size W W'):HRow W' g n T f:=by
 unfold HRow at*;rw[hb.block g (aE.1 h).1];exact h
theorem HRow.cong{W:World}{g n:Nat}{T:TypeId}{f f':Nat->Value}(h:HRow W g n T f)(e:∀i,i<n->f i=f' i):HRow W g n T f':=by
 unfold HRow at*;rw[h];congr 3
 exact List.map_congr_left fun i hi=>e i (List.mem_range.1 hi)
theorem HRow.store{W:World}{g n:Nat}{T:TypeId}{f:Nat->Value}(h:HRow W g n T f)(i:Nat)(b:Value):HRow (W.setCell ⟨g,i,none⟩ b) g n T (fun j=>if j=i then b else f j)/\Only g W (W.setCell ⟨g,i,none⟩ b):=by
 have e1:=setCell_eq_setRow W g i _ _ _ b h;have h1:=setRow_heap W g _ (((List.range n).map f).toArray.setIfInBounds i b) _ _ h;rw[<-e1]at h1;refine⟨?_,?_⟩
 ·unfold HRow;rw[h1];congr 2
  apply Array.ext_getElem?;intro k;rw[Array.getElem?_setIfInBounds];by_cases hk:i=k
  ·subst hk;by_cases hn:i<n
   ·simp[hn]
   ·simp[hn]
  ·rw[if_neg hk];by_cases hn:k<n
   ·simp[hn];exact fun h=>absurd h.symm hk
   ·simp[hn]
 ·rw[e1];exact⟨rfl,rfl,rfl,by simp[World.setRow],fun k hk hn=>setRow_other W g k _ (fun e=>hn (by rw[e]))⟩
theorem HRow.only{W W':World}{g n k:Nat}{T:TypeId}{f:Nat->Value}(h:HRow W g n T f)(hb:Only k W W')(hne:g≠k):HRow W' g n T f:=by
 unfold HRow at*;rw[World.grownBy.block hb g (aE.1 h).1 (fun e=>hne (by cases e;rfl))];exact h
section
variable {W W':World} {base gO capO N:Nat} {Gb Gc:Nat->Nat} {m:Nat->BL} {e:Nat->Bool}
theorem FX(N:Nat)(h:N<=1000)(W:World):(Instr.makeSlice 37 (.int .i64 (N:Int)) (.int .i64 (N:Int))).run Tryz.prog W=.ok (.slice (some ⟨W.heap.size,0,none⟩) N N) (W.alloc (.cells (Array.replicate N (.int .i64 0)) 3)):=by
 have hi:=nh;cases hh: Tryz.prog.info? 3 with
 |none=>rw[hh]at hi;cases hi
 |some i=>
  rw[hh]at hi;simp only[Option.map_some,Option.some.injEq,Prod.mk.injEq]at hi;have:=run_make (P:= Tryz.prog) W 37 3 i (.int .i64 0) Tryz.underlying37 hh hi.1 .i64 .i64 (N:Int) (N:Int) qO qO (by rw[hi.2.2];omega) qO;rw[this,hi.2.1];simp only[Int.toNat_natCast,Nat.mul_one];congr 3
  apply Array.ext
  ·simp[madeCells]
  ·intro k h1 h2;simp[madeCells,Value.cells];rw[Nat.mod_one];rfl
end
theorem Pj{W:World}{hq j:Nat}{q:Int}{gn:Bool}{y0 y1 y2 y3 y4 y5 y6 y7:UInt8}(h:W.heap[hq]? =some (.cells #[.int .i64 q,.bool gn,.int .u8 (y0.toNat:Int),.int .u8 (y1.toNat:Int),.int .u8 (y2.toNat:Int),.int .u8 (y3.toNat:Int),.int .u8 (y4.toNat:Int),.int .u8 (y5.toNat:Int),.int .u8 (y6.toNat:Int),.int .u8 (y7.toNat:Int)] 67 (0,0)))(hj:j<8):∃x:UInt8,W.cell? ⟨hq,2+j,none⟩=some (.int .u8 (x.toNat:Int)):=by
 rw[cell_of_row _ _ _ _ _ _ h]
 match j,hj with
 |0,_=>exact⟨y0,rfl⟩
 |1,_=>exact⟨y1,rfl⟩
 |2,_=>exact⟨y2,rfl⟩
 |3,_=>exact⟨y3,rfl⟩
 |4,_=>exact⟨y4,rfl⟩
 |5,_=>exact⟨y5,rfl⟩
 |6,_=>exact⟨y6,rfl⟩
 |7,_=>exact⟨y7,rfl⟩
theorem TN{l:List Nat}{W:World}{b off c:Nat}(h:RowIs W (some ⟨b,off,none⟩) (aF (sM l)) c)(k:Nat)(hk:k<l.length):W.cell? ⟨b,off+k,none⟩=some (.int .i64 ((szG l k:Nat):Int)):=by
 obtain⟨b',off',e,_,hc⟩:=dR h k hk;cases e
 exact hc
theorem cM{W W':World}{k g:Nat}{C D:Array Value}{T T':TypeId}{f f':Nat×Nat}(ho:Only k W W')(hk:W.heap[k]? =some (.cells C T f))(hg:W.heap[g]? =some (.cells D T' f'))(hT:T≠T'):W'.heap[g]? =some (.cells D T' f'):=by
 rw[World.grownBy.block ho g (aE.1 hg).1 (fun q=>by
  cases q
  rw[hk]at hg;cases hg
  exact hT rfl)]
 exact hg
theorem aBJ(n:Nat)(h:n<=400):shp n=[nbk n]:=by
 unfold shp n0;rw[if_neg];unfold nbk;split<;>omega
theorem aBM(x y:BL):cost x y<=2:=by
 unfold cost;split
 ·split<;>omega
 ·omega
theorem aBQ(G:L8)(vs:Nat->BL)(n:Nat):(gnL G n).length+2*chN G vs n<=wtN (fun i=>cost (bi G i) (mbk vs i)) n:=by
 induction n with
 |zero=>exact Nat.le_refl _
 |succ n ih=>
  unfold gnL chN wtN;unfold cost at ih⊢;unfold rQ;by_cases h8:(bi G n).length=8
  ·rw[if_pos h8,if_pos h8];by_cases hq:bi G n=mbk vs n
   ·rw[if_pos hq];simp[h8,hq];omega
   ·rw[if_neg hq];simp[h8,hq];omega
  ·rw[if_neg h8,if_neg h8];simp[h8];omega
theorem aBN(B:L8)(i:Nat)(hi:i<B.length)(h8:(bi B i).length=8):mbk (fun j=>bu B j) i=bi B i:=aN (by simp[h8]) fun j hj=>by
 have hj:j<8:=by simpa using hj
 unfold mbk;rw[aT _ _ _ hj,mJ _ _ _ hi];unfold po;rw[if_pos h8]
theorem Da.aBI{a:L8}(F:BL)(n:Nat)(hl:shp F.length=[n])(hw:wtG a (fl F) [n] 0<=32):Da.fV (erG a [n] 1) (chG a [n] (Pd (jN F) [n]) 1)=true/\(∀x∈erG a [n] 1,bG x)/\∀x∈chG a [n] (Pd (jN F) [n]) 1,bG x:=by
 have e:fl F=eW (jN F) 0 [n]:=by rw[<-hl];rfl
 have hle:(fl F).length=n+32:=by
  rw[e,jG];simp
 have key:(gnL (dD a [n] 0) (n+32)).length+2*chN (dD a [n] 0) (Pd (jN F) [n] 0) (n+32)<=32:=by
  refine Nat.le_trans (aBQ _ _ _) (Nat.le_trans (Nat.le_of_eq ?_) hw);unfold wtG;refine sf _ fun i hi=>?_
  rw[Re a [n] 0 i hi];congr 1
  have h8:=dy F (atG [n] 0+i) (by rw[iF,hle];omega);rw[e,TK (jN F) [n] 0 i qS hi]at h8⊢;exact aBN _ i (by rw[sq];exact hi) h8
 have e1:erG a [n] 1=[((gnL (dD a [n] 0) (n+32)).length:Int)]:=rfl;have e2:chG a [n] (Pd (jN F) [n]) 1=[(chN (dD a [n] 0) (Pd (jN F) [n] 0) (n+32):Int)]:=rfl;rw[e1,e2];refine⟨?_,fun x hx=>?_,fun x hx=>?_⟩;rotate_left
 ·obtain rfl:=List.mem_singleton.1 hx;unfold bG;omega
 ·obtain rfl:=List.mem_singleton.1 hx;unfold bG;omega
 simp only[Da.fV,Da.oX,Da.kG,List.length_singleton,List.getD_cons_zero,Bool.true_and,Bool.and_eq_true,decide_eq_true_eq,true_and];omega
theorem aBH(S:L8)(q:Nat)(b:BL)(j:Nat):bi (S.set q b) j=if j=q/\q<S.length then b else bi S j:=by
 unfold bi;rw[List.getD_eq_getElem?_getD,List.getD_eq_getElem?_getD,List.getElem?_set];by_cases e:q=j
 ·subst e;by_cases h:q<S.length
  ·simp[h]
  ·simp[h]
 ·rw[if_neg e,if_neg (fun x=>e x.1.symm)]
theorem Da.aBF{K:BL}{N:Int}{F:BL}{p:Pm15}(h:Da.bj K N F p=0):Da.aU p=0/\(F.length:Int)=p.sz/\Da.dN (Da.aj K.length) (Da.inR N)=0:=by
 unfold Da.bj at h;by_cases a0:Da.aU p=0
 ·rw[if_pos a0]at h;by_cases a1:(F.length:Int)=p.sz
  ·rw[if_pos a1]at h;exact⟨a0,a1,h⟩
  ·rw[if_neg a1]at h;omega
 ·rw[if_neg a0]at h;exact absurd ((Da.dW (Da.fO p)).1 h) a0
structure Po17(K:BL)(N:Int)(F:BL)(p:Pm15)(S:L8)(s:Nat->Bool)(L k:Nat):Prop where
 slen:S.length=Da.n16 p
 rows:∀q,(bi S q).length<=16
 same:∀i,i<Da.ae p.sz->s i=false->bi S (Da.ez K N p i)=bi (Da.dx K N F p) (Da.ez K N p i)
 wt:wtN (fun i=>cost (bi (Da.jK K N p S) i) (bi (fl F) i)) (Da.ae p.sz)<=L
 bd:L<=2*k
theorem aBL(F:BL)(p:Pm15)(hF:(F.length:Int)=p.sz):(fl F).length=Da.ae p.sz:=by
 rw[kQ];unfold Da.ae;rw[show p.sz.toNat=F.length by omega]
theorem Po17.start(K:BL)(N:Int)(F:BL)(p:Pm15)(hR:Da.Right15 p)(hF:(F.length:Int)=p.sz):Po17 K N F p (Da.dx K N F p) (fun _=>false) 0 0:=by
 have hn:=Da.iy hR;refine⟨Da.fe K N F p,fun q=>?_,fun i _ _=>rfl,?_,Nat.zero_le _⟩
 ·by_cases h:q<Da.n16 p
  ·exact Nat.le_of_eq (Da.lA K N F p qO q h)
  ·rw[aBD _ _ (by rw[Da.fe];omega)];exact Nat.zero_le _
 ·rw[Cg _ fun i hi=>?_]
  ·exact Nat.zero_le _
  ·rw[Da.Kg K N F p _ hR hF i hi rfl];unfold cost;rw[if_pos (dy F i (by rw[aBL F p hF];exact hi)),if_pos rfl]
theorem Po17.later{K:BL}{N:Int}{F:BL}{p:Pm15}{S:L8}{s:Nat->Bool}{L k:Nat}(h:Po17 K N F p S s L k):Po17 K N F p S s L (k+1):=⟨h.slen,h.rows,h.same,h.wt,by have:=h.bd;omega⟩
theorem Po17.hit{K:BL}{N:Int}{F:BL}{p:Pm15}{S:L8}{s:Nat->Bool}{L k:Nat}(h:Po17 K N F p S s L k)(hR:Da.Right15 p){i:Nat}(hi:i<Da.ae p.sz)(b:BL)(hb:b.length<=16)(c:Nat)(hc2:c<=2)
  (hc:cost (bi (Da.jK K N p (S.set (Da.ez K N p i) b)) i) (bi (fl F) i)<=c):Po17 K N F p (S.set (Da.ez K N p i) b) (fun j=>if j=i then true else s j) (L+c) (k+1):=by
 have hn:=Da.iy hR;have hin:∀j,j<Da.ae p.sz->j<Da.n16 p:=fun j hj=>by unfold Da.n16;omega
 have hne:∀j,j<Da.ae p.sz->j≠i->Da.ez K N p j≠Da.ez K N p i:=fun j hj hji e=>hji (by
  have h1:=Da.uA (K:=K) (N:=N) (p:=p) qO (hin j hj);rw[e,Da.uA qO (hin i hi)]at h1;exact h1.symm)
 have hoth:∀j,j<Da.ae p.sz->j≠i->bi (S.set (Da.ez K N p i) b) (Da.ez K N p j)=bi S (Da.ez K N p j):=fun j hj hji=>by
  rw[aBH,if_neg (fun x=>hne j hj hji x.1)]
 refine⟨by rw[List.length_set];exact h.slen,fun q=>?_,fun j hj hsj=>?_,?_,by have:=h.bd;omega⟩
 ·rw[aBH];split
  ·exact hb
  ·exact h.rows q
 ·by_cases e:j=i
  ·rw[if_pos e]at hsj;cases hsj
  ·rw[if_neg e]at hsj;rw[hoth j hj e];exact h.same j hj hsj
 ·refine Nat.le_trans (TJ (f:=fun i=>cost (bi (Da.jK K N p S) i) (bi (fl F) i)) _ i c hi (fun j hj hji=>?_) (Nat.le_trans hc (Nat.le_add_left _ _))) (by have:=h.wt;omega)
  (try dsimp only)
  congr 1
  rw[Da.S7 K N p _ qO j hj,Da.S7 K N p _ qO j hj];unfold Da.lB;rw[hoth j hj hji]
theorem Po17.kill{K:BL}{N:Int}{F:BL}{p:Pm15}{S:L8}{s:Nat->Bool}{L k:Nat}(h:Po17 K N F p S s L k)(hR:Da.Right15 p){i:Nat}(hi:i<Da.ae p.sz)(b:BL)(hb:b.length<16):Po17 K N F p (S.set (Da.ez K N p i) b) (fun j=>if j=i then true else s j) (L+1) (k+1):=by
 have hn:=Da.iy hR;refine h.hit hR hi b qO 1 qO ?_;have hlt:=Da.pK (K:=K) (N:=N) (p:=p) qO (show i<Da.n16 p by unfold Da.n16;omega);rw[Da.S7 K N p _ qO i hi,if_neg (fun x=>by
  have:=Da.wK x;rw[aBH,if_pos ⟨rfl,by rw[h.slen];exact hlt⟩]at this;omega)]
 unfold cost;simp
theorem Po17.chg{K:BL}{N:Int}{F:BL}{p:Pm15}{S:L8}{s:Nat->Bool}{L k:Nat}(h:Po17 K N F p S s L k)(hR:Da.Right15 p){i:Nat}(hi:i<Da.ae p.sz)(b:BL)(hb:b.length<=16):Po17 K N F p (S.set (Da.ez K N p i) b) (fun j=>if j=i then true else s j) (L+2) (k+1):=
 h.hit hR hi b hb 2 qO (aBM _ _)
theorem Po17.few{K:BL}{N:Int}{F:BL}{p:Pm15}{S:L8}{s:Nat->Bool}{L k:Nat}(h:Po17 K N F p S s L k)(hR:Da.Right15 p)(hs:p.sz<=400):kg S:=by
 refine⟨by have:=Da.Ed hR hs;have:=h.slen;omega,fun b hb=>?_⟩;obtain⟨i,hi,e⟩:=List.getElem_of_mem hb;have:=h.rows i;rw[Da.Xq _ _ hi,e]at this;omega
theorem Po17.back{K:BL}{N:Int}{F:BL}{p:Pm15}{S:L8}{s:Nat->Bool}{L k:Nat}(h:Po17 K N F p S s L k)(hR:Da.Right15 p)(hF:(F.length:Int)=p.sz)(hl:F.length<=400)(hL:L<=32)(h0:Da.a6 p (Da.fS K N p (Da.n16 p))=0)
  {R:Nat} {F':BL} {g:Nat} {E C:List Int} (ho:Da.Op17 K N p S R F' g E C):R=0/\F'=F/\Da.fV E C=true/\(∀x∈E,bG x)/\∀x∈C,bG x:=by
 have hsh:=aBJ F.length hl;have ht:Da.ae p.sz=nbk F.length+32:=by
  unfold Da.ae gi;rw[show p.sz.toNat=F.length by omega,XO,if_neg];unfold nbk;split<;>omega
 have hw:wtG (Da.jK K N p S) (fl F) [nbk F.length] 0<=32:=by
  refine Nat.le_trans (Nat.le_of_eq ?_) (Nat.le_trans h.wt hL);unfold wtG;rw[ht];refine sf _ fun i hi=>?_
  rw[iF,Nat.zero_add]
 have:=ho.back F hF (by rw[h.slen];exact h0) (by
  rw[hsh];intro i hi;obtain rfl:i=0:=by simpa using hi
  exact hw)
 obtain⟨h1,h2,_,h3,h4⟩:=this;refine⟨h1,h2,?_⟩;rw[h3,h4,hsh];exact Da.aBI F _ hsh hw
theorem aBO{W:World}{o:Option Addr}{z:BL}{c k:Nat}{C:Array Value}{T:TypeId}{f:Nat×Nat}(hr:RowIs W o (bytesV z) c)(h0:0<z.length)(hk:W.heap[k]? =some (.cells C T f))(hC:∀(i:Nat)(x:Int),C[i]? ≠some (.int .u8 x)):∀ad,o=some ad->ad.block≠k:=fun ad e e2=>by
 obtain⟨b,off,e3,_,hc⟩:=hr.cells (by simpa using h0);rw[e]at e3;cases e3
 have h1:=hc 0 _ (aB z 0 h0);have e2:b=k:=e2;subst e2;rw[cell_of_row _ _ _ _ _ _ hk]at h1;exact hC _ _ h1
theorem aBK{W W':World}{bs:L8}{ys:List Value}{k:Nat}{C:Array Value}{T:TypeId}{f:Nat×Nat}(h:Els W bs ys)(hk:W.heap[k]? =some (.cells C T f))(hC:∀(i:Nat)(x:Int),C[i]? ≠some (.int .u8 x))(ho:Only k W W'):Els W' bs ys:=
 ⟨h.len,fun i x hi=>by
  obtain⟨o,c,e,hr⟩:=h.at_ i x hi;exact⟨o,c,e,hr.kept ho fun h0 ad e2 q=>aBO hr (by simpa using h0) hk hC ad e2 (Option.some.inj q)⟩⟩
theorem only_set17(w:World)(b i:Nat)(v:Value):Only b w (w.setCell ⟨b,i,none⟩ v):=⟨rfl,rfl,rfl,by simp[World.setCell],fun k _ hk=>Below.heap_setCell _ _ _ _ (fun e=>hk (by simp[e]))⟩
structure Bm17(W wB wr:World)(gO gS gL N:Nat)(S:L8)(s:Nat->Bool)(L:Nat):Prop where
 below:Below W.heap.size W wr
 old:∀k,k<wB.heap.size->k≠gO->wr.heap[k]? =wB.heap[k]?
 grown:wB.heap.size<=wr.heap.size
 lo:W.heap.size<=gO
 mid:gO<wB.heap.size
 loS:wB.heap.size<=gS
 loL:wB.heap.size<=gL
 ww:W.heap.size<=wB.heap.size
 arr:∃ys,Arr wr gO 22 ys/\Els wr S ys
 seen:BRow wr gS N s
 load:Arr wr gL 3 [.int .i64 (L:Int)]
theorem Bm17.later{W wB wr w':World}{gO gS gL N:Nat}{S:L8}{s:Nat->Bool}{L:Nat}(h:Bm17 W wB wr gO gS gL N S s L)(hb:Below wr.heap.size wr w'):Bm17 W wB w' gO gS gL N S s L:=by
 obtain⟨ys,hA,hE⟩:=h.arr;exact⟨Ks h.below hb,fun k hk hn=>(hb.block k (Nat.lt_of_lt_of_le hk h.grown)).trans (h.old k hk hn),Nat.le_trans h.grown hb.size,h.lo,h.mid,h.loS,h.loL,h.ww,⟨ys,hA.later hb hA.lt,hE.later hb⟩,h.seen.later hb,h.load.later hb h.load.lt⟩
theorem Bm17.keep{W wB wr w':World}{gO gS gL N k:Nat}{S:L8}{s:Nat->Bool}{L:Nat}(h:Bm17 W wB wr gO gS gL N S s L)(ho:Only k wr w')(hk:wB.heap.size<=k∨k=gO):Below W.heap.size W w'/\(∀k,k<wB.heap.size->k≠gO->w'.heap[k]? =wB.heap[k]?)/\wB.heap.size<=w'.heap.size:=by
 have h1:=h.grown;have h2:=h.ww;have h3:=h.lo;refine⟨h.below.trans (ho.below qO h.below.size),fun j hj hn=>(World.grownBy.block ho j qO (fun e=>?_)).trans (h.old j hj hn),Nat.le_trans h.grown ho.size⟩;cases e
 omega
theorem Bm17.see{W wB wr:World}{gO gS gL N:Nat}{S:L8}{s:Nat->Bool}{L:Nat}(h:Bm17 W wB wr gO gS gL N S s L)(i:Nat):Bm17 W wB (wr.setCell ⟨gS,i,none⟩ (.bool true)) gO gS gL N S (fun j=>if j=i then true else s j) L:=by
 have hst:=h.seen.store i true;obtain⟨ys,hA,hE⟩:=h.arr;obtain⟨k1,k2,k3⟩:=h.keep hst.2 (.inl h.loS);have hn1:gO≠gS:=by have:=h.mid;have:=h.loS;omega
 have hn2:gL≠gS:=ag h.load (show Arr wr gS 4 _ from h.seen) qD;exact⟨k1,k2,k3,h.lo,h.mid,h.loS,h.loL,h.ww,⟨ys,hA.kept hst.2 (fun e=>hn1 (Option.some.inj e)),aBK hE (show wr.heap[gS]? =some (.cells _ _ _) from h.seen) (fun i x e=>by
  rw[List.getElem?_toArray,List.getElem?_map]at e;cases hq:(List.range N)[i]? with
  |none=>rw[hq]at e;cases e
  |some q=>rw[hq]at e;cases e) hst.2⟩,hst.1,h.load.kept hst.2 (fun e=>hn2 (Option.some.inj e))⟩
theorem Bm17.add{W wB wr:World}{gO gS gL N:Nat}{S:L8}{s:Nat->Bool}{L:Nat}(h:Bm17 W wB wr gO gS gL N S s L)(x:Nat):Bm17 W wB (wr.setCell ⟨gL,0,none⟩ (.int .i64 (x:Int))) gO gS gL N S s x:=by
 have ho:Only gL wr (wr.setCell ⟨gL,0,none⟩ (.int .i64 (x:Int))):=only_set17 wr gL 0 _;obtain⟨ys,hA,hE⟩:=h.arr;obtain⟨k1,k2,k3⟩:=h.keep ho (.inl h.loL);have hn1:gO≠gL:=by have:=h.mid;have:=h.loL;omega
 have hn2:gL≠gS:=ag h.load (show Arr wr gS 4 _ from h.seen) qD;exact⟨k1,k2,k3,h.lo,h.mid,h.loS,h.loL,h.ww,⟨ys,hA.kept ho (fun e=>hn1 (Option.some.inj e)),aBK hE (show wr.heap[gL]? =some (.cells _ _ _) from h.load) (fun i x e=>by
  match i,e with
  |0,e=>cases e
  |i+1,e=>cases e) ho⟩,h.seen.only ho (fun e=>hn2 e.symm),h.load.set 0 _⟩
theorem Bm17.put{W wB wr:World}{gO gS gL N:Nat}{S:L8}{s:Nat->Bool}{L:Nat}(h:Bm17 W wB wr gO gS gL N S s L)(q:Nat){b:BL}{v:Value}(hv:RowV b v wr):Bm17 W wB (wr.setCell ⟨gO,q,none⟩ v) gO gS gL N (S.set q b) s L:=by
 have ho:Only gO wr (wr.setCell ⟨gO,q,none⟩ v):=only_set17 wr gO q _;obtain⟨ys,hA,hE⟩:=h.arr;obtain⟨k1,k2,k3⟩:=h.keep ho (.inr rfl);have hn1:gS≠gO:=by have:=h.mid;have:=h.loS;omega
 have hn2:gL≠gO:=by have:=h.mid;have:=h.loL;omega
 exact⟨k1,k2,k3,h.lo,h.mid,h.loS,h.loL,h.ww,⟨ys.set q v,hA.set q v,(hE.set q hv).putArr hA hE.slices ho⟩,h.seen.only ho hn1,h.load.kept ho (fun e=>hn2 (Option.some.inj e))⟩
theorem Bm17.hdr{W wB wr:World}{gO gS gL N:Nat}{S:L8}{s:Nat->Bool}{L:Nat}(h:Bm17 W wB wr gO gS gL N S s L)(q:Nat)(hq:q<S.length):∃o c,wr.cell? ⟨gO,q,none⟩=some (.slice o (bi S q).length c)/\RowIs wr o (bytesV (bi S q)) c/\wr.frozen? ⟨gO,q,none⟩=false:=by
 obtain⟨ys,hA,hE⟩:=h.arr;obtain⟨x,hx,o,c,rfl,hr⟩:=hE.get q hq;exact⟨o,c,by rw[hA.cell];exact hx,hr,hA.frozen q⟩
theorem Bm17.rb{W wB wr:World}{gO gS gL N:Nat}{S:L8}{s:Nat->Bool}{L:Nat}(h:Bm17 W wB wr gO gS gL N S s L){c:Nat}(h1:S.length<=c)(h2:c<=maxLen):RbIs wr (some ⟨gO,0,none⟩) S c:=by
 obtain⟨ys,hA,hE⟩:=h.arr;exact⟨ys,⟨by rw[hE.len];exact h1,h2,(fun e=>by cases e),fun _=>⟨gO,0,rfl,hA.lt,fun i v hv=>by rw[Nat.zero_add,hA.cell];exact hv⟩⟩,hE⟩
theorem Bm17.at_{W wB wr:World}{gO gS gL N k:Nat}{S:L8}{s:Nat->Bool}{L:Nat}(h:Bm17 W wB wr gO gS gL N S s L){C:Array Value}{T:TypeId}{f:Nat×Nat}(hk:wB.heap[k]? =some (.cells C T f))(hn:k≠gO):wr.heap[k]? =some (.cells C T f):=
 (h.old k (aE.1 hk).1 hn).trans hk
