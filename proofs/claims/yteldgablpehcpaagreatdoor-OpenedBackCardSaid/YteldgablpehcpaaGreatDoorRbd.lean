/- Rbd -/
import Derived.Test.YteldgablpehcpaaGreatDoorBc
import Derived.Test.YteldgablpehcpaaGreatDoorRep
set_option linter.unusedVariables false
set_option linter.unusedSimpArgs false
set_option maxRecDepth 100000
set_option maxHeartbeats 8000000
namespace Go.Proofs.YteldgablpehcpaaGreatDoor
open Go.RowKit
theorem Nz(x:UInt8)(w:World):Calls Tryz.prog 107 #[.int .u8 (x.toNat:Int)] w fun e w'=>e=.returned (.bool (decide (x≠0)))/\w'=w:=by
 have hl:=UInt8.toNat_lt x;by_cases h:x=0
 ·subst h;go_enter Tryz.func107,Tryz.ntmps107
  go_wp2
  go_ret;exact⟨rfl,rfl⟩
 ·have h0:¬x.toNat=0:=fun e=>h (Gf.bR e)
  have h1:((x.toNat:Int)==0)=false:=beq_false_of_ne qO;have h2:((x.toNat:Int) !=0)=true:=by rw[bne_iff_ne];omega
  have hd:decide (x≠0)=true:=decide_eq_true h;rw[hd];clear h hd;go_enter Tryz.func107,Tryz.ntmps107
  go_wp2
  go_ret;exact⟨rfl,rfl⟩
def j3(z:BL):Prop:=∀i,i<z.length->co z i=0
def YN(z:BL)(w:World)(e:Ending)(w':World):Prop:=∃r:Int,e=.returned (.int .i64 r)/\w'=w/\((r= -1/\j3 z)∨(0<=r/\¬j3 z))
def aA0(z:BL)(w:World)(iv:Value)(wr:World):Prop:=∃k:Nat,k<=z.length/\iv=.int .i64 k/\(∀i,i<k->co z i=0)/\wr=w
theorem Gr(z:BL)(o:Option Addr)(c:Nat)(w:World)(hR:RowIs w o (bytesV z) c):
  Calls Tryz.prog 148 #[.slice o z.length c,.func (.func 107) #[] #[]] w (YN z w):=by
 have h1:=hR.le;have h2:=hR.cap;simp only[bytesV_length]at h1;unfold maxLen at h2;have HR:=Lh hR;have hen:=enters_of Tryz.func107 qK rfl;clear hR;go_enter Tryz.func148,Tryz.ntmps148
 go_wp2_with fail;go_loopw [5,8] (fun _ iv wr=>aA0 z w iv wr) (fun _ iv _=>z.length-(intOf iv).toNat)
 case atStart=>exact⟨0,Nat.zero_le _,rfl,fun i hi=>absurd hi qO,rfl⟩
 case round=>
  obtain⟨k,hk,rfl,hz,rfl⟩:=hrel;have HZ:=Lh hz;clear hz;by_cases hlt:k<z.length
  ·obtain⟨b,off,rfl,_,hcell⟩:=HR.out.cells (by simp;omega);have hc:wr.cell? ⟨b,off+k,none⟩=some (.int .u8 ((co z k).toNat:Int)):=hcell k _ (aB z k hlt);have hk0:(0:Int)<=(k:Int):=qO;have hk1:(k:Int)<(z.length:Int):=qO;clear hcell;by_cases h0:co z k=0
   ·have HN:=Lh (Nz (co z k) wr);rw[h0,decide_eq_false qS]at HN;rw[h0]at hc;have H0:=Lh h0;clear h0;go_wp2_with fail;refine HN.out.mono ?_;rintro e w' ⟨rfl,rfl⟩;go_wp2_with fail;go_roundw
    case rel=>exact⟨k+1,qO,by go_num,fun i hi=>by
     rcases Nat.lt_or_ge i k with h|h
     ·exact HZ.out i h
     ·rw[show i=k by omega];exact H0.out,rfl⟩
    case measure=>simp[intOf];omega
   ·have HN:=Lh (Nz (co z k) wr);rw[decide_eq_true h0]at HN;have HNZ:Hid (¬j3 z):=Lh fun hz=>h0 (hz k hlt)
    generalize co z k=x at*;have hxl:=UInt8.toNat_lt x;clear h0;go_wp2_with fail;refine HN.out.mono ?_;rintro e w' ⟨rfl,rfl⟩;go_wp2_with fail;go_ret;exact⟨(k:Int),rfl,rfl,.inr ⟨qO,HNZ.out⟩⟩
  ·obtain rfl:k=z.length:=qO;go_wp2_with fail;go_ret;exact⟨-1,rfl,rfl,.inl ⟨rfl,HZ.out⟩⟩
theorem Bi(z:BL)(o:Option Addr)(c:Nat)(w:World)(hR:RowIs w o (bytesV z) c)(hz:j3 z):
  Calls Tryz.prog 67 #[.slice o z.length c] w fun e w'=>e=.returned (.bool true)/\w'=w:=by
 have HI:Hid (Calls Tryz.prog 106 #[.slice o z.length c,.func (.func 107) #[] #[]] w fun e w'=>e=.returned (.bool false)/\w'=w):=Lh (by
  have HX:=Lh (Gr z o c w hR);have HZ:=Lh hz;clear hR hz;go_enter Tryz.func106,Tryz.ntmps106
  go_wp2_with fail;refine HX.out.mono ?_;rintro e w' ⟨r,rfl,rfl,⟨rfl,_⟩|⟨_,h⟩⟩
  ·go_wp2
   go_ret;exact⟨rfl,rfl⟩
  ·exact absurd HZ.out h)
 clear hR hz;go_enter Tryz.func67,Tryz.ntmps67
 go_wp2_with fail;refine HI.out.mono ?_;rintro e w' ⟨rfl,rfl⟩;go_wp2
 go_ret;exact⟨rfl,rfl⟩
theorem EZ(z:BL)(o:Option Addr)(c:Nat)(w:World)(hR:RowIs w o (bytesV z) c)(hz:¬j3 z):
  Calls Tryz.prog 67 #[.slice o z.length c] w fun e w'=>e=.returned (.bool false)/\w'=w:=by
 have HI:Hid (Calls Tryz.prog 106 #[.slice o z.length c,.func (.func 107) #[] #[]] w fun e w'=>e=.returned (.bool true)/\w'=w):=Lh (by
  have HX:=Lh (Gr z o c w hR);have HZ:=Lh hz;clear hR hz;go_enter Tryz.func106,Tryz.ntmps106
  go_wp2_with fail;refine HX.out.mono ?_;rintro e w' ⟨r,rfl,rfl,⟨rfl,h⟩|⟨h0,_⟩⟩
  ·exact absurd h HZ.out
  ·have hd:decide ((0:Int)<=r)=true:=decide_eq_true h0;go_wp2
   go_ret;exact⟨rfl,rfl⟩)
 clear hR hz;go_enter Tryz.func67,Tryz.ntmps67
 go_wp2_with fail;refine HI.out.mono ?_;rintro e w' ⟨rfl,rfl⟩;go_wp2
 go_ret;exact⟨rfl,rfl⟩
theorem Jb(a b:BL)(o o2:Option Addr)(c c2:Nat)(w:World)(h1:RowIs w o (bytesV a) c)(h2:RowIs w o2 (bytesV b) c2):
  Calls Tryz.prog 104 #[.slice o a.length c,.slice o2 b.length c2] w fun e w'=>e=.returned (.bool (a==b))/\w'=w:=by
 have k1:(convert 22 9 (.slice o a.length c)).run Tryz.prog w=.ok (.string ⟨a.toArray⟩) w:=fJ h1 Tryz.underlying22 Tryz.underlying5 Tryz.underlying9 _;have k2:(convert 22 9 (.slice o2 b.length c2)).run Tryz.prog w=.ok (.string ⟨b.toArray⟩) w:=fJ h2 Tryz.underlying22 Tryz.underlying5 Tryz.underlying9 _;clear h1 h2;go_enter Tryz.func104,Tryz.ntmps104
 go_wp2
 go_ret;exact⟨rfl,rfl⟩
def YO(G:L8)(vs:Nat->BL)(n:Nat)(w:World)(e c iv:Value)(wr:World):Prop:=
 ∃k:Nat,k<=n/\iv=.int .i64 k/\e=.int .i64 ((gnL G k).length:Int)/\c=.int .i64 (chN G vs k:Int)/\wr=w
theorem E0(G Rt:L8)(vs:Nat->BL)(n c c2:Nat)(o o2:Option Addr)(w:World)(hG:RbIs w o G c)(hR:RbIs w o2 Rt c2)(hn:G.length=n)(hm:Rt.length=n)(hv:∀i,i<n->bi Rt i=mbk vs i)(hl:n<=1000):
  Calls Tryz.prog 65 #[.slice o n c,.slice o2 n c2] w fun e w'=>e=.returned (.tuple #[.int .i64 ((gnL G n).length:Int),.int .i64 (chN G vs n:Int)])/\w'=w:=by
 have h1:=hG.le.1;have h2:=hG.le.2;have h3:=hR.le.1;have h4:=hR.le.2;rw[hn]at h1;rw[hm]at h3;unfold maxLen at h2 h4;have HG:=Lh hG;have HR:=Lh hR;have HN:=Lh hn;have HM:=Lh hm;have HV:=Lh hv;clear hG hR hn hm hv;go_enter Tryz.func65,Tryz.ntmps65
 go_wp2_with fail;go_loopw [4,5,6,7,10] (fun e c _ _ iv wr=>YO G vs n w e c iv wr) (fun _ _ _ _ iv _=>n-(intOf iv).toNat)
 case atStart=>exact⟨0,Nat.zero_le _,rfl,rfl,rfl,rfl⟩
 case round=>
  obtain⟨k,hk,rfl,rfl,rfl,rfl⟩:=hrel;by_cases hlt:k<n
  ·have hk0:(0:Int)<=(k:Int):=qO;have hk1:(k:Int)<(n:Int):=qO;obtain⟨b1,off1,p,q,rfl,_,hc1,hrow⟩:=HG.out.cell k (by have:=HN.out;omega);obtain⟨b2,off2,p2,q2,rfl,_,hc2,hrow2⟩:=HR.out.cell k (by have:=HM.out;omega);have hgl:=eE G k;have hcl:=Nt G vs k;have hgs:gnL G (k+1)=if(bi G k).length=8 then gnL G k else gnL G k++[(k:Int)]:=rfl;have hcs:chN G vs (k+1)=chN G vs k+if rQ G vs k=true then 1 else 0:=rfl;by_cases h8:(bi G k).length=8
   ·rw[if_pos h8]at hgs;have hEQ:=Jb (bi G k) (bi Rt k) p p2 q q2 wr hrow hrow2;have hb2:=HV.out k hlt;rw[hb2,aBX]at hc2;rw[hb2,aBX,h8]at hEQ;rw[h8]at hc1;have hq1:=hrow.le;have hq2:=hrow.cap;simp at hq1;rw[h8]at hq1;unfold maxLen at hq2;by_cases he:bi G k=mbk vs k
    ·have HX:Hid (chN G vs (k+1)=chN G vs k):=Lh (by rw[hcs,if_neg (by simp[rQ,he])];rfl);have HY:Hid ((gnL G (k+1)).length=(gnL G k).length):=Lh (by rw[hgs]);rw[he,beq_self_eq_true]at hEQ;have HEQ:=Lh hEQ;generalize (gnL G k).length=a at*;generalize chN G vs k=d at*;clear hgs hcs hEQ hrow hrow2 h8 he hb2;go_wp2_with fail;refine(ja _ _ _).mono ?_;rintro e w' ⟨rfl,rfl⟩;go_wp2_with fail;refine HEQ.out.mono ?_;rintro e w' ⟨rfl,rfl⟩;go_wp2_with fail;go_roundw
     case rel=>exact⟨k+1,qO,by go_num,by rw[HY.out],by rw[HX.out],rfl⟩
     case measure=>simp[intOf];omega
    ·have HX:Hid (chN G vs (k+1)=chN G vs k+1):=Lh (by rw[hcs,if_pos (by simp[rQ,h8,he])]);have HY:Hid ((gnL G (k+1)).length=(gnL G k).length):=Lh (by rw[hgs]);have hbq:(bi G k==mbk vs k)=false:=by simpa using he
     rw[hbq]at hEQ;have HEQ:=Lh hEQ;generalize (gnL G k).length=a at*;generalize chN G vs k=d at*;clear hgs hcs hEQ hrow hrow2 h8 he hb2 hbq;go_wp2_with fail;refine(ja _ _ _).mono ?_;rintro e w' ⟨rfl,rfl⟩;go_wp2_with fail;refine HEQ.out.mono ?_;rintro e w' ⟨rfl,rfl⟩;go_wp2_with fail;go_roundw
     case rel=>exact⟨k+1,qO,by go_num,by rw[HY.out],by rw[HX.out];go_num,rfl⟩
     case measure=>simp[intOf];omega
   ·rw[if_neg h8]at hgs;have HX:Hid (chN G vs (k+1)=chN G vs k):=Lh (by rw[hcs,if_neg (by simp[rQ,h8])];rfl);have HY:Hid ((gnL G (k+1)).length=(gnL G k).length+1):=Lh (by rw[hgs];simp);obtain⟨L,hL⟩:=qM ((bi G k).length);rw[hL]at hc1 h8;have hq1:=hrow.le;have hq2:=hrow.cap;simp at hq1;rw[hL]at hq1;unfold maxLen at hq2;have HW:=Lh (nk p L q wr h8 qO);generalize (gnL G k).length=a at*;generalize chN G vs k=d at*;clear hgs hcs hrow hrow2 h8 hL;go_wp2_with fail;refine HW.out.mono ?_;rintro e w' ⟨rfl,rfl⟩;go_wp2_with fail;go_roundw
    case rel=>exact⟨k+1,qO,by go_num,by rw[HY.out];go_num,by rw[HX.out],rfl⟩
    case measure=>simp[intOf];omega
  ·obtain rfl:k=n:=qO;go_wp2_with fail;go_ret2
   exact⟨rfl,rfl⟩
def ww(bs:L8):Nat->BL
 |0=>[]
 |k+1=>ww bs k++bi bs k
theorem OA(bs:L8)(vs:Nat->BL)(n k:Nat)(hv:∀i,i<n->bi bs i=mbk vs i)(hk:k<=n):ww bs k=prt vs k:=by
 induction k with
 |zero=>rfl
 |succ k ih=>rw[ww,ih qO,hv k qO,Ns]
theorem Bj(bs:L8)(n k:Nat)(h8:∀i,i<n->(bi bs i).length=8)(hk:k<=n):(ww bs k).length=8*k:=by
 induction k with
 |zero=>rfl
 |succ k ih=>rw[ww,List.length_append,ih qO,h8 k qO];omega
def YP(n:Nat)(w:World)(s iv:Value)(wr:World):Prop:=∃k:Nat,k<=n/\iv=.int .i64 k/\s=.int .i64 (8*k:Nat)/\wr=w
def YQ(bs:L8)(n:Nat)(w:World)(v iv:Value)(wr:World):Prop:=
 ∃(k B:Nat),k<=n/\B=8*k/\iv=.int .i64 k/\wr.ownsRow w.heap.size 5 1 v B (bytesV (ww bs k))/\Below w.heap.size w wr
theorem Bl(bs:L8)(o:Option Addr)(n c:Nat)(w:World)(hP:RbIs w o bs c)(hn:bs.length=n)(h0:0<n)(hl:n<=1000)(h8:∀i,i<n->(bi bs i).length=8):
  Calls Tryz.prog 66 #[.slice o n c] w fun e w'=>∃g cap,e=.returned (.slice (some ⟨g,0,none⟩) (8*n) cap)/\w.heap.size<=g/\Buf w' g cap (ww bs n)/\Below w.heap.size w w':=by
 have h1:=hP.le.1;have h2:=hP.le.2;rw[hn]at h1;unfold maxLen at h2;have HP:=Lh hP;have HN:=Lh hn;have H8:=Lh h8;clear hP hn h8;go_enter Tryz.func66,Tryz.ntmps66
 go_wp2_with fail;go_loopw [3,5,11] (fun s _ i wr=>YP n w s i wr) (fun _ _ i _=>n-(intOf i).toNat)
 case atStart=>exact⟨0,Nat.zero_le _,rfl,rfl,rfl⟩
 case round=>
  obtain⟨k,hk,rfl,rfl,rfl⟩:=hrel;obtain⟨s,hs⟩:=qM (8*k);rw[hs];have HS:=Lh hs;by_cases hlt:k<n
  ·obtain⟨b,off,p,q,rfl,_,hc,hr⟩:=HP.out.cell k (by have:=HN.out;omega);rw[H8.out k hlt]at hc;have hk0:(0:Int)<=(k:Int):=qO;have hk1:(k:Int)<(n:Int):=qO;have hr1:=hr.le;have hr2:=hr.cap;rw[bytesV_length,H8.out k hlt]at hr1;unfold maxLen at hr2;have hs1:s<=10000:=qO;have hd:decide ((s:Int)+8<0)=false:=decide_eq_false qO;clear hr hs;go_wp2_with fail;go_roundw
   case rel=>exact⟨k+1,qO,by go_num,by rw[show 8*(k+1)=s+8 by have:=HS.out;omega];go_num,rfl⟩
   case measure=>simp[intOf];omega
  ·obtain rfl:k=n:=qO;have HG:=Lh (rD s wr qO qO);have hs2:s<=10000:=qO;clear hs;go_wp2_with fail;refine HG.out.mono ?_;rintro e w2 ⟨g,cap,rfl,hown,hb⟩;have HV:=Lh hown;have HB:=Lh hb;clear hown hb HG;go_wp2_with fail;go_loopw [6,8,27] (fun v _ i wr2=>YQ bs k wr v i wr2) (fun _ _ i _=>k-(intOf i).toNat)
   case atStart=>exact⟨0,0,Nat.zero_le _,rfl,rfl,HV.out,HB.out⟩
   case round=>
    rename World=>W3
    obtain⟨i,B,hi,hB,rfl,hv,hb3⟩:=hrel;have HV3:=Lh hv;have HB3:=Lh hb3;have HBB:=Lh hB;by_cases hlt2:i<k
    ·obtain⟨b,off,p,q,rfl,_,hc,hr⟩:=(HP.out.later hb3).cell i (by have:=HN.out;omega);rw[H8.out i hlt2]at hc;have hi0:(0:Int)<=(i:Int):=qO;have hi1:(i:Int)<(k:Int):=qO;have HR:=Lh hr;have HL8:=Lh (H8.out i hlt2);have hB1:B<=10000:=qO;clear hr hv hb3 hB;go_wp2_with (at_builtin;refine aL rfl (.tmp 31) (.tmp 32) rfl wr.heap.size _ B (ww bs i) rfl HV3.out p 8 q (bi bs i) rfl HL8.out.symm HR.out qO HB3.out.size ?_)
     intro v' w4 hv hg;have HV4:Hid (w4.ownsRow wr.heap.size 5 1 v' (B+8) (bytesV (ww bs (i+1)))):=Lh hv;have HB4:=Lh (own_below (n:=0) HB3.out HV3.out hg);clear hv hg;go_wp2_with fail;go_roundw
     case rel=>exact⟨i+1,B+8,qO,by have:=HBB.out;omega,by go_num,HV4.out,HB4.out⟩
     case measure=>simp[intOf];omega
    ·obtain rfl:i=k:=qO;have hcl:=Bj bs i i H8.out qN;obtain⟨g2,cap2,rfl,hg2,hbuf⟩:=fG hv qO (by rw[hcl,hB]);rw[hcl];have HX:=Lh hbuf;clear hv hb3 hB hbuf hcl;go_wp2_with fail;go_ret;exact⟨g2,cap2,rfl,hg2,HX.out,HB3.out⟩
def aA1(W:BL)(n:Nat)(z:List Int)(A:Nat->Addr)(w:World)(e:Ending)(w':World):Prop:=
 Below w.heap.size w w'/\(((∀v H,¬Chg v W n z H)/\∃a,e=J9 A a)∨
  ∃(v:BL)(H:List Nat)(x1:Value)(o2:Option Addr)(d c2 L:Nat),Chg v W n z H/\e=.returned (.tuple #[.agg #[x1,.slice o2 d c2,.int .i64 (L:Int)],.nilIface])/\RowV v x1 w')
theorem Rp(W:BL)(G:L8)(n c cz:Nat)(o oz:Option Addr)(w:World)(A:Nat->Addr)(hE:Er.Six w A)(hW:RowIs w o (bytesV W) c)(hZ:RowIs w oz (aF (gnL G n)) cz)(hn:W.length=n)(h33:33<=n)(h255:n<=255):
  Calls Tryz.prog 101 #[.slice o n c,.slice oz (gnL G n).length cz] w (aA1 W n (gnL G n) A w):=by
 by_cases h32:(gnL G n).length<=32
 ·refine(vt W (gnL G n) n c cz o oz w A hW hZ hn h33 h255 (zS G n h32) (fun _=>hE) _ rfl _ rfl).mono fun e w' h=>?_
  obtain⟨hb,⟨h1,h2⟩|⟨v,H,x1,x2,h1,h2,h3,o2,c2,rfl,_⟩⟩:=h
  ·exact⟨hb,.inl ⟨h1,16,h2⟩⟩
  ·exact⟨hb,.inr ⟨v,H,x1,o2,_,c2,_,h1,h2,h3⟩⟩
 ·have hgl:=eE G n;rcases Rn n (gnL G n) A h33 h255 qO with ⟨a,ha⟩|hok
  ·exact(Nx W (gnL G n) n c cz a o oz w A hW hZ hn h33 h255 hE ha _ rfl _ rfl).mono fun e w' ⟨h1,h2⟩=>⟨h2,.inl ⟨fun v H hc=>h32 (by have:=hc.few;omega),a,h1⟩⟩
  ·exact absurd hok.2.2 h32
def UH(G:L8)(n:Nat)(w:World)(v iv:Value)(wr:World):Prop:=
 ∃k:Nat,k<=n/\iv=.int .i64 k/\wr.ownsRow w.heap.size 3 1 v (gnL G k).length (aF (gnL G k))/\Below w.heap.size w wr
def mM(vs:Nat->BL)(k:Nat)(i j:Nat):UInt8:=if j<k then co (vs j) i else 0
theorem Rq(vs us:Nat->BL)(v:BL)(k n i b:Nat)(hi:i<n)(hu:us=fun j=>if j=k then v else vs j):qF (mM vs k) v k n i b=mM us (k+1) i b:=by
 subst hu;unfold qF mM;by_cases h:b=k
 ·subst h;rw[if_pos ⟨rfl,hi⟩,if_pos qO];simp
 ·rw[if_neg (fun g=>h g.1)];by_cases h2:b<k
  ·rw[if_pos h2,if_pos qO];simp[h]
  ·rw[if_neg h2,if_neg qO]
def YR(G:L8)(n gO:Nat)(Gb:Nat->Nat)(w:World)(iv:Value)(wr:World):Prop:=
 ∃(k:Nat)(vs:Nat->BL),k<=8/\iv=.int .i64 k/\(∀j,j<k->∃H,Chg (vs j) (bu G j) n (gnL G n) H)/\Mat8 wr w.heap.size gO n Gb (mM vs k)/\Below w.heap.size w wr
def aA2(G:L8)(n:Nat)(u:TypeId)(v:Value)(w:World)(e:Ending)(w':World):Prop:=
 Below w.heap.size w w'/\(((∀vs,¬Mnd G n vs)/\e=.returned (.tuple #[.slice none 0 0,.iface u v]))∨
  ∃(vs:Nat->BL)(gO B:Nat)(Gb:Nat->Nat),Mnd G n vs/\e=.returned (.tuple #[.slice (some ⟨gO,0,none⟩) n n,.nilIface])/\Mat8 w' B gO n Gb (mM vs 8))
theorem UI{W:World}{B gO n:Nat}{Gb:Nat->Nat}{vs:Nat->BL}(h:Mat8 W B gO n Gb (mM vs 8)):RbIs W (some ⟨gO,0,none⟩) ((List.range n).map (mbk vs)) n:=h.els _ qS fun i hi=>by
 rw[kt _ _ _ hi];refine aN (by simp[mbk]) fun b hb=>?_
 have hb:b<8:=by simpa[mbk]using hb
 unfold mbk;rw[aT _ _ _ hb,aT _ _ _ hb];unfold mM;rw[if_pos hb]
theorem Jc(G:L8)(o:Option Addr)(n c:Nat)(w:World)(A:Nat->Addr)(hE:Er.Six w A)(hG:RbIs w o G c)(hn:G.length=n)(h33:33<=n)(h255:n<=255):
  Calls Tryz.prog 64 #[.slice o n c] w (aA2 G n 302 (.pointer (some (A 16))) w):=by
 have h1:=hG.le.1;have h2:=hG.le.2;rw[hn]at h1;unfold maxLen at h2;have HG:=Lh hG;have HN:=Lh hn;have HE:=Lh hE;have HOWN:Hid (w.ownsRow w.heap.size 3 1 (.slice none 0 0) 0 (aF [])):=Lh (World.ownsRow_nil _ _ _ _);clear hG hn hE;go_enter Tryz.func64,Tryz.ntmps64
 go_wp2_with fail;go_loopw [4,5,6,13] (fun v _ _ iv wr=>UH G n w v iv wr) (fun _ _ _ iv _=>n-(intOf iv).toNat)
 case atStart=>exact⟨0,Nat.zero_le _,rfl,HOWN.out,Below.refl _ _⟩
 case round=>
  obtain⟨k,hk,rfl,hv,hb⟩:=hrel;have HV:=Lh hv;have HB:=Lh hb;by_cases hlt:k<n
  ·have hk0:(0:Int)<=(k:Int):=qO;have hk1:(k:Int)<(n:Int):=qO;obtain⟨b1,off1,p,q,rfl,_,hc1,hrow⟩:=(HG.out.later hb).cell k (by have:=HN.out;omega);have hgl:=eE G k;have hgs:gnL G (k+1)=if(bi G k).length=8 then gnL G k else gnL G k++[(k:Int)]:=rfl;have hq1:=hrow.le;have hq2:=hrow.cap;simp at hq1;unfold maxLen at hq2;by_cases h8:(bi G k).length=8
   ·rw[if_pos h8]at hgs;have HGS:=Lh hgs;rw[h8]at hc1 hq1;clear hv hb hrow hgs h8;go_wp2_with fail;refine(ja _ _ _).mono ?_;rintro e w' ⟨rfl,rfl⟩;go_wp2_with fail;go_roundw
    case rel=>exact⟨k+1,qO,by go_num,by rw[HGS.out];exact HV.out,HB.out⟩
    case measure=>simp[intOf];omega
   ·rw[if_neg h8]at hgs;have HGS:=Lh hgs;obtain⟨L,hL⟩:=qM ((bi G k).length);rw[hL]at hc1 h8 hq1;have HW:=Lh (nk p L q wr h8 qO);obtain⟨w3,hw3⟩:=qM (wr.alloc (.cells #[.int .i64 (k:Int)] 3));have HO3:Hid (w3.ownsRow w.heap.size 3 1 _ (gnL G k).length (aF (gnL G k))):=Lh (by rw[<-hw3];exact World.ownsRow.alloc hv _);have HC3:Hid (w3.cell? ⟨wr.heap.size,0,none⟩=some (.int .i64 (k:Int))):=Lh (by rw[<-hw3];exact bf wr _ _ _ rfl);have HB3:Hid (Below w.heap.size w w3):=Lh (by rw[<-hw3];exact hb.alloc hb.size _);have HW3:=Lh hw3;have HGL:=Lh hgl;clear hv hb hrow hgs h8 hL hw3 hgl;go_wp2_with fail;refine HW.out.mono ?_;rintro e w' ⟨rfl,rfl⟩;go_wp2_with (first|rw[HW3.out]|(at_builtin;refine bC rfl (.tmp 21) (.tmp 23) rfl w.heap.size _ (gnL G k).length (gnL G k) rfl HO3.out _ (k:Int) rfl HC3.out (by have:=HGL.out;omega) HB3.out.size ?_))
    intro v' w4 hv hg;have HV4:Hid (w4.ownsRow w.heap.size 3 1 v' (gnL G (k+1)).length (aF (gnL G (k+1)))):=Lh (by rw[HGS.out,List.length_append];exact hv);have HB4:=Lh (aw HB3.out HO3.out hg);clear hv hg;go_wp2_with fail;go_roundw
    case rel=>exact⟨k+1,qO,by go_num,HV4.out,HB4.out⟩
    case measure=>simp[intOf];omega
  ·obtain rfl:k=n:=qO;obtain⟨oz,cz,rfl,hz⟩:=bD hv rfl;have HZ:=Lh hz;have HBK:=Lh (yD k wr qO);clear hv hb hz;go_wp2_with fail;refine HBK.out.mono ?_;rintro e w1 ⟨gO,Gb,rfl,hm,hb⟩;have HM0:Hid (Mat8 w1 wr.heap.size gO k Gb (mM (fun _=>[]) 0)):=Lh (hm.congr fun i j _ _=>by unfold mM;rw[if_neg qO]);have HB1:=Lh hb;clear hm hb HBK;go_wp2_with fail;go_loopw [8,9,10,29] (fun _ _ _ iv wr2=>YR G k gO Gb wr iv wr2) (fun _ _ _ iv _=>8-(intOf iv).toNat)
   case atStart=>exact⟨0,_,Nat.zero_le _,rfl,fun j hj=>absurd hj qO,HM0.out,HB1.out⟩
   case round=>
    rename World=>W2
    obtain⟨j,vs,hj,rfl,hvs,hm,hb2⟩:=hrel;have HVS:=Lh hvs;have HM:=Lh hm;have HBW:=Lh hb2;by_cases hj8:j<8
    ·have hj0:(0:Int)<=(j:Int):=qO;have hj1:(j:Int)<8:=qO;have HB2:=Lh (HB.out.trans (hb2.mono HB.out.size));have hcl:=vf G o k c (j:Int) W2 (HG.out.later HB2.out) HN.out qO qO;rw[show((j:Int) % 8).toNat=j by omega]at hcl;have HCL:=Lh hcl;clear hvs hm hcl hb2;go_wp2_with fail;refine HCL.out.mono ?_;rintro e w3 ⟨g,cap,rfl,hg,hbuf,hb⟩;have hlen:(bu G j).length=k:=by rw[dm,HN.out]
     have HB3:=Lh (Ks HB2.out hb);have HBW3:=Lh (Ks HBW.out hb);have hfx:=Rp (bu G j) G k cap cz (some ⟨g,0,none⟩) oz w3 A (HE.out.later HB3.out) hbuf.row (HZ.out.later HBW3.out) hlen h33 h255;have HFX:=Lh hfx;have HM3:=Lh (HM.out.later hb);rw[hlen];clear hg hbuf hb hfx hlen HCL;go_wp2_with fail;refine HFX.out.mono ?_;rintro e w4 ⟨hb,⟨hno,a,rfl⟩|⟨v,H,x1,o2,d,c2,L,hch,rfl,⟨o1,c1,rfl,hr⟩⟩⟩
     ·obtain⟨w5,hw5⟩:=qM (w4.alloc (.cells #[.slice none 0 0,.slice none 0 0,.int .i64 0] 184));have hb5:Below w4.heap.size w4 w5:=by rw[<-hw5];exact aY _ _
      have HB5:=Lh (Ks (Ks HB3.out hb) hb5);have hc16:=(HE.out.later HB5.out).c16;have HW5:=Lh hw5;have HNO:Hid (∀vs,¬Mnd G k vs):=Lh fun us hu=>by
       obtain⟨H,h⟩:=hu j hj8;exact hno _ _ h
      unfold J9 fxz;clear hb hb5 hw5 hno;go_wp2_with fail;rw[HW5.out];go_quiet (fail)
      go_wp2
      go_ret2
      exact⟨HB5.out.trans ⟨rfl,rfl,rfl,Nat.le_refl _,fun _ _=>rfl⟩,.inl ⟨HNO.out,rfl⟩⟩
     ·have hvl:=hch.lv;rw[hvl];have hr1:=hr.le;have hr2:=hr.cap;rw[bytesV_length,hvl]at hr1;unfold maxLen at hr2;obtain⟨w5,hw5⟩:=qM (w4.alloc (.cells #[.slice o1 k c1,.slice o2 d c2,.int .i64 (L:Int)] 184));have hb5:Below w4.heap.size w4 w5:=by rw[<-hw5];exact aY _ _
      have hg5:w5.heap[w4.heap.size]? =some (.cells #[.slice o1 k c1,.slice o2 d c2,.int .i64 (L:Int)] 184 (0,0)):=by rw[<-hw5];exact World.alloc_heap_new _ _
      have hcc:=(jz hg5).1;rw[<-hw5]at hcc;have hly:=G9 wr.heap.size gO k Gb (mM vs j) v j c1 o1 w5 ((HM3.out.later hb).later hb5) (hr.later hb5) hj8 qO qO (Ks (Ks HBW3.out hb) hb5).size;rw[hvl]at hly;have hvs':∀b,b<j+1->∃H,Chg ((fun b=>if b=j then v else vs b) b) (bu G b) k (gnL G k) H:=fun b hb=>by
       by_cases e:b=j
       ·subst e;exact⟨H,by simpa using hch⟩
       ·obtain⟨H',h'⟩:=HVS.out b qO;exact⟨H',by simpa[e]using h'⟩
      have HVS2:=Lh hvs';have HST:Hid (∀i b,i<k->qF (mM vs j) v j k i b=mM (fun b=>if b=j then v else vs b) (j+1) i b):=Lh fun i b hi=>Rq vs _ v j k i b hi rfl
      have HLY:=Lh hly;have HB5:=Lh (Ks (Ks HBW3.out hb) hb5);have HW5:=Lh hw5;clear hb hb5 hw5 hg5 hch hvl hr hly hvs';go_wp2_with fail;rw[HW5.out];refine HLY.out.mono ?_;rintro e w6 ⟨rfl,hm6,hb6⟩;have HM6:Hid (Mat8 w6 wr.heap.size gO k Gb (mM (fun b=>if b=j then v else vs b) (j+1))):=Lh (hm6.congr fun i b hi _=>HST.out i b hi);have HB6:=Lh (HB5.out.trans hb6);clear hm6 hb6 HLY hcc;go_wp2_with fail;go_roundw
      case rel=>exact⟨j+1,_,qO,by go_num,HVS2.out,HM6.out,HB6.out⟩
      case measure=>simp[intOf];omega
    ·obtain rfl:j=8:=qO;have HEND:Hid (Below w.heap.size w W2):=Lh (HB.out.trans (hb2.mono HB.out.size));clear hvs hm hb2;go_wp2_with fail;go_ret2
     exact⟨HEND.out,.inr ⟨vs,gO,_,Gb,HVS.out,rfl,HM.out⟩⟩
def rdz:Value:=.agg #[.slice none 0 0,.slice none 0 0,.slice none 0 0]
def YS(u:TypeId)(v:Value):Ending:=.returned (.tuple #[rdz,.iface u v])
theorem Rr{w:World}{a:Addr}{v:Value}(h:w.cell? a=some v):a.block<w.heap.size:=by
 by_cases hh:a.block<w.heap.size
 ·exact hh
 ·have h0:w.heap[a.block]? =none:=Array.getElem?_eq_none qO;simp[World.cell?,h0]at h
theorem ml:(Tryz.prog.info? 88).map (·.size)=some 3:=qK
theorem cP{w:World}{g:Nat}{a b c:Value}(h:w.heap[g]? =some (.cells #[a,b,c] 88 (0,0))):w.cell? ⟨g,0,none⟩=some a/\w.cell? ⟨g,1,none⟩=some b/\w.cell? ⟨g,2,none⟩=some c/\w.frozen? ⟨g,0,none⟩=false/\w.frozen? ⟨g,1,none⟩=false/\w.frozen? ⟨g,2,none⟩=false:=by
 refine⟨?_,?_,?_,?_,?_,?_⟩;all_goals first
  |(rw[cell_of_row _ _ _ _ _ _ h];rfl)
  |(unfold World.frozen?;rw[h];rfl)
theorem kB{w w':World}{g:Nat}{fc:Array Value}(h:w.heap[g]? =some (.cells fc 88 (0,0)))(hb:Below w.heap.size w w'):w'.heap[g]? =some (.cells fc 88 (0,0)):=by
 rw[hb.block g (aE.1 h).1];exact h
theorem sV{w:World}{g:Nat}{a b c:Value}(h:w.heap[g]? =some (.cells #[a,b,c] 88 (0,0)))(x y v:Value):(((w.setCell ⟨g,0,none⟩ x).setCell ⟨g,1,none⟩ y).setCell ⟨g,2,none⟩ v).heap[g]? =some (.cells #[x,y,v] 88 (0,0)):=by
 have e1:=setCell_eq_setRow w g 0 _ _ _ x h;have h1:=setRow_heap w g #[a,b,c] (#[a,b,c].setIfInBounds 0 x) _ _ h;rw[<-e1]at h1;have e2:=setCell_eq_setRow _ g 1 _ _ _ y h1;have h2:=setRow_heap _ g _ ((#[a,b,c].setIfInBounds 0 x).setIfInBounds 1 y) _ _ h1;rw[<-e2]at h2;have e3:=setCell_eq_setRow _ g 2 _ _ _ v h2;have h3:=setRow_heap _ g _ (((#[a,b,c].setIfInBounds 0 x).setIfInBounds 1 y).setIfInBounds 2 v) _ _ h2;rw[<-e3]at h3;simpa using h3
theorem sW{w:World}{g:Nat}{C:Array Value}(h:w.heap[g]? =some (.cells C 88 (0,0)))(i:Nat)(x:Value):(w.setCell ⟨g,i,none⟩ x).heap[g]? =some (.cells (C.setIfInBounds i x) 88 (0,0)):=by
 have e1:=setCell_eq_setRow w g i _ _ _ x h;have h1:=setRow_heap w g C (C.setIfInBounds i x) _ _ h;rw[<-e1]at h1;exact h1
theorem nt(w:World)(ty:TypeId)(base:Nat)(v:Value)(n:Nat)(z:List Int)(hown:w.ownsRow base 3 1 v n (aF z))(g:Nat)(y:Int)(hg:w.cell? ⟨g,0,none⟩=some (.int .i64 y))(hl:n<=1000000)(hbase:base<=w.heap.size):
  ∃(o:Option Addr)(l c:Nat)(w':World),(Builtin.append_ #[37,37] ty #[v,.slice (some ⟨g,0,none⟩) 1 1]).run Tryz.prog w=.ok (.slice o l c) w'/\w'.ownsRow base 3 1 (.slice o l c) (n+1) (aF (z++[y]))/\w.grownBy w' v.ownBlock/\
   ((Value.slice o l c).ownBlock=v.ownBlock∨(Value.slice o l c).ownBlock=some w.heap.size):=by
 obtain⟨i0,hi,hz0,hz1,hz2⟩:=info_parts nh;have hnews:∀(j:Nat)(u:Value),[Value.int .i64 y][j]? =some u->w.cell? ((⟨g,0,none⟩:Addr).add j)=some u:=fun j u hj=>by
  have h1:=(List.getElem?_eq_some_iff.1 hj).1;simp at h1;subst h1;simp at hj;subst hj;exact hg
 have hone:∀u∈[Value.int .i64 y],u.oneCell'=true:=fun u hu=>by
  simp at hu;subst hu;rfl
 obtain⟨v',w',hr,h2,h3,_⟩:=run_append_own_wide (P:= Tryz.prog) w base 37 ty 3 i0 (.int .i64 0) 1 8 Tryz.underlying37 hi hz0 hz1 hz2 rfl qD v n (aF z) hown ⟨g,0,none⟩ 1 1 [.int .i64 y] qS hnews hone (by unfold maxLen;omega) qO hbase;have e:aF (z++[y])=aF z++[.int .i64 y]:=by simp[aF]
 have hblk:v'.ownBlock=v.ownBlock∨v'.ownBlock=some w.heap.size:=by
  rcases hown.2 with ⟨rfl,h0⟩|⟨gv,cap,cur,rfl,_,hh,hnc,hcm,hcs,htake⟩
  ·have hr2:=run_append_nil (P:= Tryz.prog) (w:=w) 37 ty 3 i0 (.int .i64 0) Tryz.underlying37 hi hz0 ⟨g,0,none⟩ 1 1 [.int .i64 y] (by rw[hz1];rfl) hnews qO qO (by rw[hz2];omega);rw[hr2]at hr;injection hr with hr _
   subst hr;exact .inr rfl
  ·by_cases hroom:n+1<=cap
   ·have hr2:=run_append_room (P:= Tryz.prog) (w:=w) 37 ty 3 i0 Tryz.underlying37 hi gv n cap cur hh ⟨g,0,none⟩ 1 1 [.int .i64 y] (by rw[hz1];rfl) hnews hone hroom (by rw[hz1,hcs];simp;omega);rw[hr2]at hr;injection hr with hr _
    subst hr;exact .inl rfl
   ·have hr2:=run_append_grow (P:= Tryz.prog) (w:=w) 37 ty 3 i0 (.int .i64 0) Tryz.underlying37 hi hz0 ⟨gv,0,none⟩ n cap (aF z) (by rw[hz1];simpa using hown.1) (hown.cells (g:=gv) rfl) ⟨g,0,none⟩ 1 1 [.int .i64 y] (by rw[hz1];rfl) hnews qO qO (by rw[hz2];exact growslice_fits_wide qO qO);rw[hr2]at hr;injection hr with hr _
    subst hr;exact .inr rfl
 obtain⟨o,l,c,rfl⟩:∃o l c,v'=Value.slice o l c:=by
  rcases h2.2 with ⟨rfl,_⟩|⟨_,_,_,rfl,_⟩
  ·exact⟨_,_,_,rfl⟩
  ·exact⟨_,_,_,rfl⟩
 exact⟨o,l,c,w',hr,by rw[e];exact h2,h3,hblk⟩
theorem eQ(w:World)(g i:Nat)(v:Value):w.grownBy (w.setCell ⟨g,i,none⟩ v) (some g):=
 ⟨rfl,rfl,rfl,qS,fun k _ hk=>heap_setCell_other w ⟨g,i,none⟩ k v (fun e=>hk (by simp[e]))⟩
def Kp(a b:World):Prop:=a.heap.size<=b.heap.size/\∀(k:Nat)(cur:Array Value)(T:TypeId)(f:Nat×Nat),a.heap[k]? =some (.cells cur T f)->T≠ 3->T≠ 88->b.heap[k]? =some (.cells cur T f)
theorem Kp.refl(a:World):Kp a a:=⟨Nat.le_refl _,fun _ _ _ _ h _ _=>h⟩
theorem Kp.trans{a b c:World}(h:Kp a b)(k:Kp b c):Kp a c:=⟨Nat.le_trans h.1 k.1,fun i cur T f hi h1 h2=>k.2 i cur T f (h.2 i cur T f hi h1 h2) h1 h2⟩
theorem Kp.of_below{a b:World}(h:Below a.heap.size a b):Kp a b:=⟨h.size,fun i cur T f hi _ _=>by rw[h.block i (aE.1 hi).1];exact hi⟩
theorem Kp.of_grown{a b:World}{r:Option Nat}(h:a.grownBy b r)(hr:∀k,r=some k->∃cur T f,a.heap[k]? =some (.cells cur T f)/\(T= 3∨T= 88)):Kp a b:=⟨h.size,fun i cur T f hi h1 h2=>by
 rw[h.block i (aE.1 hi).1 (fun e=>?_)]
 ·exact hi
 ·obtain⟨cur',T',f',h3,h4⟩:=hr i e.symm;rw[hi]at h3;injection h3 with h3
  injection h3 with _ h3 _
  subst h3;rcases h4 with h4|h4
  ·exact h1 h4
  ·exact h2 h4⟩
theorem Kp.owns{T:TypeId}{a b:World}{base n:Nat}{v:Value}{xs:List Value}(k:Kp a b)(h:a.ownsRow base T 1 v n xs)(h1:T≠ 3)(h2:T≠ 88):b.ownsRow base T 1 v n xs:=by
 obtain⟨hl,hx⟩:=h;refine⟨hl,?_⟩;rcases hx with hx|⟨g,cap,cur,e,hb,hh,hr⟩
 ·exact .inl hx
 ·exact .inr ⟨g,cap,cur,e,hb,k.2 g _ _ _ hh h1 h2,hr⟩
theorem Kp.mat{a b:World}{B gO R:Nat}{Gb:Nat->Nat}{m:Nat->Nat->UInt8}(k:Kp a b)(h:Mat8 a B gO R Gb m):Mat8 b B gO R Gb m:=
 ⟨k.owns h.outer qD qD,fun i hi=>⟨k.owns (h.row i hi).1 qD qD,(h.row i hi).2⟩,h.apart⟩
structure Ri(F:BL)(S:Nat)(hE hC vF vE vC:Value)(zE zC:List Int)(wb w X:World):Prop where
 kept:Kp wb X
 heap:X.heap[S]? =some (.cells #[vF,hE,hC] 88 (0,0))
 f:X.ownsRow w.heap.size 5 1 vF F.length (bytesV F)
 e:X.ownsRow w.heap.size 3 1 vE zE.length (aF zE)
 c:X.ownsRow w.heap.size 3 1 vC zC.length (aF zC)
 ne:vE.ownBlock=none∨vE.ownBlock≠vC.ownBlock
 below:Below w.heap.size w X
theorem bz{T:TypeId}{base n:Nat}{v:Value}{xs:List Value}{X X':World}(h:X.ownsRow base T 1 v n xs)(hb:Below X.heap.size X X'):X'.ownsRow base T 1 v n xs:=
 World.ownsRow.kept (row:=none) h ⟨hb.os,hb.tape,hb.output,hb.size,fun i hi _=>hb.block i hi⟩ (by cases v.ownBlock<;>simp)
theorem Ri.later{F:BL}{S:Nat}{hE hC vF vE vC:Value}{zE zC:List Int}{wb w X X':World}(h:Ri F S hE hC vF vE vC zE zC wb w X)(hb:Below X.heap.size X X'):Ri F S hE hC vF vE vC zE zC wb w X':=
 ⟨h.kept.trans (Kp.of_below hb),kB h.heap hb,bz h.f hb,bz h.e hb,bz h.c hb,h.ne,Ks h.below hb⟩
structure Ic(b:Nat)(y:Int)(vE vC:Value)(X:World):Prop where
 cell:X.cell? ⟨b,0,none⟩=some (.int .i64 y)
 lt:b<X.heap.size
 neE:vE.ownBlock≠some b
 neC:vC.ownBlock≠some b
theorem Ic.later{b:Nat}{y:Int}{vE vC:Value}{X X':World}(h:Ic b y vE vC X)(hb:Below X.heap.size X X'):Ic b y vE vC X':=⟨dt hb h.cell,Nat.lt_of_lt_of_le h.lt hb.size,h.neE,h.neC⟩
theorem Ri.new{F:BL}{S:Nat}{hE hC vF vE vC:Value}{zE zC:List Int}{wb w X:World}(h:Ri F S hE hC vF vE vC zE zC wb w X)(y:Int):Ic X.heap.size y vE vC (X.alloc (.cells #[.int .i64 y] 3)):=
 ⟨bf X _ _ _ rfl,qS,fun e=>by have:=(World.ownsRow.lt h.e _ e).2;omega,fun e=>by have:=(World.ownsRow.lt h.c _ e).2;omega⟩
theorem gZ{T T':TypeId}{X:World}{b b' n n':Nat}{v v':Value}{xs xs':List Value}(h:X.ownsRow b T 1 v n xs)(h':X.ownsRow b' T' 1 v' n' xs')(hT:T≠T'):v.ownBlock=none∨v.ownBlock≠v'.ownBlock:=by
 rcases h.2 with ⟨rfl,_⟩|⟨g,cap,cur,rfl,_,h1,_⟩
 ·exact .inl rfl
 ·refine .inr fun e=>?_
  rcases h'.2 with ⟨rfl,_⟩|⟨g',cap',cur',rfl,_,h2,_⟩
  ·cases e
  ·cases e
   rw[h1]at h2;injection h2 with h2
   injection h2 with _ h2 _
   exact hT h2
theorem Ri.app{F:BL}{S:Nat}{hE hC vF vE vC:Value}{zE zC:List Int}{wb w X:World}(h:Ri F S hE hC vF vE vC zE zC wb w X)(b:Nat)(y:Int)(hi:Ic b y vE vC X)(ty:TypeId)(hl:zE.length<=1000000):
  ∃(o:Option Addr)(l c:Nat)(X':World),(Builtin.append_ #[37,37] ty #[vE,.slice (some ⟨b,0,none⟩) 1 1]).run Tryz.prog X=.ok (.slice o l c) X'/\Ri F S hE hC vF (.slice o l c) vC (zE++[y]) zC wb w X'/\∀b' y',Ic b' y' vE vC X->Ic b' y' (.slice o l c) vC X':=by
 obtain⟨o,l,c,X',hr,ho,hg,hb⟩:=nt X ty w.heap.size vE zE.length zE h.e b y hi.cell hl h.below.size;have hS:some S≠vE.ownBlock:=fun e=>by
  rcases h.e.2 with ⟨rfl,_⟩|⟨g,cap,cur,rfl,_,h1,_⟩
  ·cases e
  ·cases e
   rw[h.heap]at h1;cases h1
 refine⟨o,l,c,X',hr,⟨h.kept.trans (Kp.of_grown hg fun k e=>?_),?_,?_,by rw[List.length_append];exact ho,?_,?_,fM h.below h.e hg⟩,fun b' y' h'=>⟨?_,Nat.lt_of_lt_of_le h'.lt hg.size,?_,h'.neC⟩⟩
 ·rcases h.e.2 with ⟨rfl,_⟩|⟨gq,cap,cur,rfl,_,hq,_⟩
  ·cases e
  ·cases e
   exact⟨_,_,_,hq,.inl rfl⟩
 ·rw[hg.block S (aE.1 h.heap).1 hS];exact h.heap
 ·exact World.ownsRow.kept h.f hg (gZ h.f h.e qD)
 ·refine World.ownsRow.kept h.c hg ?_;rcases h.ne with h1|h1
  ·rw[h1];cases hc:vC.ownBlock<;>simp
  ·exact .inr fun e=>h1 e.symm
 ·rcases hb with hb|hb
  ·rw[hb];exact h.ne
  ·refine .inr fun e=>?_
   rw[hb]at e;have:=(World.ownsRow.lt h.c _ e.symm).2;omega
 ·exact World.grownBy.cell hg h'.cell (fun e=>h'.neE e.symm)
 ·rcases hb with hb|hb
  ·rw[hb];exact h'.neE
  ·rw[hb];intro e;have:=h'.lt;injection e with e
   omega
theorem Ri.swap{F:BL}{S:Nat}{hE hC vF vE vC:Value}{zE zC:List Int}{wb w X:World}(h:Ri F S hE hC vF vE vC zE zC wb w X):Ri F S hE hC vF vC vE zC zE wb w X:=⟨h.kept,h.heap,h.f,h.c,h.e,by
 rcases h.ne with h1|h1
 ·by_cases e:vC.ownBlock=none
  ·exact .inl e
  ·exact .inr fun e2=>e (e2.trans h1)
 ·exact .inr fun e=>h1 e.symm,h.below⟩
theorem Ic.swap{b:Nat}{y:Int}{vE vC:Value}{X:World}(h:Ic b y vE vC X):Ic b y vC vE X:=⟨h.cell,h.lt,h.neC,h.neE⟩
theorem Ri.store{F:BL}{S:Nat}{hE hC vF vE vC:Value}{zE zC:List Int}{wb w X:World}(h:Ri F S hE hC vF vE vC zE zC wb w X)(hS:w.heap.size<=S):Ri F S vE vC vF vE vC zE zC wb w ((X.setCell ⟨S,1,none⟩ vE).setCell ⟨S,2,none⟩ vC):=by
 have h1:=sW h.heap 1 vE;have h2:=sW h1 2 vC;have g1:Only S X (X.setCell ⟨S,1,none⟩ vE):=eQ _ _ _ _;have g2:Only S (X.setCell ⟨S,1,none⟩ vE) ((X.setCell ⟨S,1,none⟩ vE).setCell ⟨S,2,none⟩ vC):=eQ _ _ _ _;have g:=Only.trans g1 g2;have hne:∀{T:TypeId}{v:Value}{n:Nat}{xs:List Value},X.ownsRow w.heap.size T 1 v n xs->T≠ 88->v.ownBlock=none∨v.ownBlock≠some S:=fun ho hT=>by
  rcases ho.2 with ⟨rfl,_⟩|⟨gq,cap,cur,rfl,_,hq,_⟩
  ·exact .inl rfl
  ·refine .inr fun e=>?_
   injection e with e
   have e:gq=S:=e;rw[e,h.heap]at hq;injection hq with hq
   injection hq with _ hq _
   exact hT hq.symm
 exact⟨h.kept.trans (Kp.of_grown g fun k e=>by cases e;exact⟨_,_,_,h.heap,.inr rfl⟩),by simpa using h2,World.ownsRow.kept h.f g (hne h.f qD),World.ownsRow.kept h.e g (hne h.e qD),World.ownsRow.kept h.c g (hne h.c qD),h.ne,h.below.trans (Only.below g hS h.below.size)⟩
theorem Rs{w:World}{g:Nat}{a b c:Value}(h:w.heap[g]? =some (.cells #[a,b,c] 88 (0,0)))(x:Value):(w.setCell ⟨g,1,none⟩ x).heap[g]? =some (.cells #[a,x,c] 88 (0,0)):=by
 simpa using sW h 1 x
structure RdS(bs:L8)(l:List Nat)(V:Nat->Nat->BL)(k S:Nat)(vF vE vC:Value)(w wr:World):Prop where
 heap:wr.heap[S]? =some (.cells #[vF,vE,vC] 88 (0,0))
 f:wr.ownsRow w.heap.size 5 1 vF (af l V k).length (bytesV (af l V k))
 e:wr.ownsRow w.heap.size 3 1 vE k (aF (erG bs l k))
 c:wr.ownsRow w.heap.size 3 1 vC k (aF (chG bs l V k))
 ne:vE.ownBlock=none∨vE.ownBlock≠vC.ownBlock
 below:Below w.heap.size w wr
theorem nu{T:TypeId}{X:World}{b n S:Nat}{v:Value}{xs:List Value}{C:Array Value}(ho:X.ownsRow b T 1 v n xs)(hs:X.heap[S]? =some (.cells C 88 (0,0)))(hT:T≠ 88):v.ownBlock=none∨v.ownBlock≠some S:=by
 rcases ho.2 with ⟨rfl,_⟩|⟨gq,cap,cur,rfl,_,hq,_⟩
 ·exact .inl rfl
 ·refine .inr fun e=>?_
  injection e with e
  have e:gq=S:=e;rw[e,hs]at hq;injection hq with hq
  injection hq with _ hq _
  exact hT hq.symm
theorem Ri.fin{bs:L8}{l:List Nat}{U:Nat->Nat->BL}{k s S:Nat}{vF vE vC v':Value}{zE zC:List Int}{F Y:BL}{wb w X X':World}(h:Ri F S vE vC vF vE vC zE zC wb w X)(hg:X.grownBy X' vF.ownBlock)(hv:X'.ownsRow w.heap.size 5 1 v' (F.length+s) (bytesV (F++Y)))(hs:s=Y.length)(hS:w.heap.size<=S)
  (hF:af l U (k+1)=F++Y) (hE:erG bs l (k+1)=zE) (hC:chG bs l U (k+1)=zC):X'.heap[S]? =some (.cells #[vF,vE,vC] 88 (0,0))/\RdS bs l U (k+1) S v' vE vC w (X'.setCell ⟨S,0,none⟩ v'):=by
 have hSn:=nu h.f h.heap qD;have h1:X'.heap[S]? =some (.cells #[vF,vE,vC] 88 (0,0)):=by
  rw[hg.block S (aE.1 h.heap).1 (fun e=>by
   rcases hSn with h2|h2
   ·rw[h2]at e;cases e
   ·exact h2 e.symm)]
  exact h.heap
 have he:=World.ownsRow.kept h.e hg (gZ h.e h.f qD);have hc:=World.ownsRow.kept h.c hg (gZ h.c h.f qD);have g2:Only S X' (X'.setCell ⟨S,0,none⟩ v'):=eQ _ _ _ _;have hl1:zE.length=k+1:=by rw[<-hE];simp
 have hl2:zC.length=k+1:=by rw[<-hC];simp
 have hb:=fM h.below h.f hg;refine⟨h1,⟨by simpa using sW h1 0 v',?_,?_,?_,h.ne,hb.trans (Only.below g2 hS hb.size)⟩⟩
 ·rw[hF,List.length_append,<-hs];exact World.ownsRow.kept hv g2 (nu hv h1 qD)
 ·rw[hE,<-hl1];exact World.ownsRow.kept he g2 (nu he h1 qD)
 ·rw[hC,<-hl2];exact World.ownsRow.kept hc g2 (nu hc h1 qD)
theorem l7{T:TypeId}{X:World}{b n:Nat}{v:Value}{xs:List Value}(h:X.ownsRow b T 1 v n xs):∃o l c,v=Value.slice o l c:=by
 rcases h.2 with ⟨rfl,_⟩|⟨_,_,_,rfl,_⟩
 ·exact⟨_,_,_,rfl⟩
 ·exact⟨_,_,_,rfl⟩
theorem rd_stay{T:TypeId}{W:World}{b n g:Nat}{v:Value}{xs:List Value}{C:Array Value}(h:W.ownsRow b T 1 v n xs)(hT:T≠ 88)(hg:W.heap[g]? =some (.cells C 88 (0,0)))(i:Nat)(x:Value):(W.setCell ⟨g,i,none⟩ x).ownsRow b T 1 v n xs:=
 World.ownsRow.kept h (eQ _ _ _ _) (nu h hg hT)
theorem E1{T:TypeId}{W:World}{b n S q:Nat}{v:Value}{xs:List Value}{C D:Array Value}(h:W.ownsRow b T 1 v n xs)(hT:T≠ 88)(hS:W.heap[S]? =some (.cells C 88 (0,0)))(hq:W.heap[q]? =some (.cells D 88 (0,0)))(hne:q≠S)(x0 x1 x2 x3:Value):
  ((((W.setCell ⟨S,0,none⟩ x0).setCell ⟨q,0,none⟩ x1).setCell ⟨q,1,none⟩ x2).setCell ⟨q,2,none⟩ x3).ownsRow b T 1 v n xs:=by
 have h1:=rd_stay h hT hS 0 x0;have hq1:(W.setCell ⟨S,0,none⟩ x0).heap[q]? =some (.cells D 88 (0,0)):=by rw[heap_setCell_other W ⟨S,0,none⟩ q x0 hne];exact hq
 have h2:=rd_stay h1 hT hq1 0 x1;have hq2:=sW hq1 0 x1;have h3:=rd_stay h2 hT hq2 1 x2;have hq3:=sW hq2 1 x2;exact rd_stay h3 hT hq3 2 x3
def YT(bs:L8)(l:List Nat)(S:Nat)(w:World)(v0 iv:Value)(wr:World):Prop:=
 ∃(k A:Nat)(V:Nat->Nat->BL)(vF vE vC:Value),k<=l.length/\A=atG l k/\iv=.int .i64 k/\RbV (bs.drop A) v0 w/\MndAll bs l V k/\RdS bs l V k S vF vE vC w wr
def YU(bs:L8)(l:List Nat)(size:Nat)(u:TypeId)(v:Value)(w:World)(e:Ending)(w':World):Prop:=
 Below w.heap.size w w'/\(((∀V,MndAll bs l V l.length->¬j3 ((af l V l.length).drop size))/\e=YS u v)∨
  ∃V x0 x1 x2,MndAll bs l V l.length/\j3 ((af l V l.length).drop size)/\e=.returned (.tuple #[.agg #[x0,x1,x2],.nilIface])/\RowV ((af l V l.length).take size) x0 w'/\IntsV (erG bs l l.length) x1 w'/\IntsV (chG bs l V l.length) x2 w'/\∀x a q c,x=x0∨x=x1∨x=x2->x=.slice (some a) q c->w.heap.size<=a.block)
theorem Gs{bs:L8}{l:List Nat}{V:Nat->Nat->BL}{S n gF capF:Nat}{vE vC:Value}{u:TypeId}{v:Value}{w w2 wr:World}{D:Array Value}(h:RdS bs l V l.length S (.slice (some ⟨gF,0,none⟩) (af l V l.length).length capF) vE vC w2 wr)(hb:Buf wr gF capF (af l V l.length))(hq:wr.heap[w.heap.size]? =some (.cells D 88 (0,0)))(hne:w.heap.size≠S)(hbl:Below w.heap.size w wr)(hSS:w.heap.size<=S)(hww:w.heap.size<=w2.heap.size)(hn:n<=(af l V l.length).length)(hM:MndAll bs l V l.length)(hz:j3 ((af l V l.length).drop n)):
  YU bs l n u v w (.returned (.tuple #[.agg #[.slice (some ⟨gF,0,none⟩) n capF,vE,vC],.nilIface])) ((((wr.setCell ⟨S,0,none⟩ (.slice (some ⟨gF,0,none⟩) n capF)).setCell ⟨w.heap.size,0,none⟩ (.slice (some ⟨gF,0,none⟩) n capF)).setCell ⟨w.heap.size,1,none⟩ vE).setCell ⟨w.heap.size,2,none⟩ vC):=by
 have g1:Only S wr (wr.setCell ⟨S,0,none⟩ (.slice (some ⟨gF,0,none⟩) n capF)):=eQ _ _ _ _;have hb1:=hbl.trans (Only.below g1 hSS hbl.size);have hfr:∀{T:TypeId}{n:Nat}{xs:List Value}{v:Value},wr.ownsRow w2.heap.size T 1 v n xs->∀a q c,v=.slice (some a) q c->w.heap.size<=a.block:=by
  intro T n xs v ho a q c e;rcases ho.2 with ⟨rfl,_⟩|⟨g,cap,cur,rfl,hbs,_⟩
  ·cases e
  ·cases e
   exact Nat.le_trans hww hbs
 refine⟨kA hb1 qN _ _ _,.inr ⟨V,_,_,_,hM,hz,rfl,?_,?_,?_,fun x a q c hx e=>by
  rcases hx with rfl|rfl|rfl
  ·cases e
   exact hfr h.f _ _ _ rfl
  ·exact hfr h.e _ _ _ e
  ·exact hfr h.c _ _ _ e⟩⟩
 ·have h1:=E1 hb qD h.heap hq hne (.slice (some ⟨gF,0,none⟩) n capF) (.slice (some ⟨gF,0,none⟩) n capF) vE vC;have h1:Buf _ gF capF (af l V l.length):=h1;have h2:=h1.row.part 0 n (by rw[bytesV_length];omega) capF (by have:=hb.le;omega) hb.le.2;have h3:((bytesV (af l V l.length)).drop 0).take n=bytesV ((af l V l.length).take n):=by simp[bytesV]
  rw[h3]at h2;refine⟨_,_,?_,h2⟩;rw[List.length_take,Nat.min_eq_left hn]
 ·obtain⟨o,c,e,hr⟩:=cV (E1 h.e qD h.heap hq hne (.slice (some ⟨gF,0,none⟩) n capF) (.slice (some ⟨gF,0,none⟩) n capF) vE vC) (by simp[aF]);exact⟨o,c,by rw[e];simp,hr⟩
 ·obtain⟨o,c,e,hr⟩:=cV (E1 h.c qD h.heap hq hne (.slice (some ⟨gF,0,none⟩) n capF) (.slice (some ⟨gF,0,none⟩) n capF) vE vC) (by simp[aF]);exact⟨o,c,by rw[e];simp,hr⟩
theorem E2(bs:L8)(n N c:Nat)(l:List Nat)(hlq:shp n=l)(o:Option Addr)(w:World)(A:Nat->Addr)(hE:Er.Six w A)(hP:RbIs w o bs c)(hn:n<=2000)(hN:bs.length=N)(hT:N=bc l+32*l.length):
  Calls Tryz.prog 32 #[.slice o N c,.int .i64 (n:Int)] w (YU bs l n 302 (.pointer (some (A 16))) w):=by
 have hnb:=eM n hn;have hnp:=fE n;have hll:=jZ n;have hss:=db n;have hmem:∀k∈shp n,1<=k/\k<=223:=jF (nbk n) hnp hnb;have hnle:=pn n;rw[hlq]at hll hss hmem;obtain⟨w1,hw1⟩:=qM (w.alloc (.cells #[.slice none 0 0,.slice none 0 0,.slice none 0 0] 88));have hb1:Below w.heap.size w w1:=by rw[<-hw1];exact aY _ _
 have hg1:w1.heap[w.heap.size]? =some (.cells #[.slice none 0 0,.slice none 0 0,.slice none 0 0] 88 (0,0)):=by rw[<-hw1];exact World.alloc_heap_new _ _
 have hs:=j9 n w1 hn;rw[hlq]at hs;have HS:=Lh hs;have HG1:=Lh hg1;have HB1:=Lh hb1;have HW1:=Lh hw1;have HP:=Lh hP;have HE:=Lh hE;have HN:=Lh hN;have HSS:=Lh hss;have HMM:=Lh hmem;have HNL:=Lh hnle;have HT:=Lh hT;have hNb:N<=400:=qO;have hp1:=hP.le.1;have hp2:=hP.le.2;rw[hN]at hp1;unfold maxLen at hp2;clear hlq hE hP hN hT hss hmem hnle hb1 hw1 hg1 hs;go_enter Tryz.func32,Tryz.ntmps32
 go_wp2_with (rw[HW1.out])
 refine HS.out.mono ?_;rintro e w2 ⟨x,rfl,⟨o1,c1,rfl,hr⟩,hb⟩;have hc1:=hr.cap;have hle1:=hr.le;simp at hle1;unfold maxLen at hc1;have HB2:=Lh (Ks HB1.out hb);have HG2:=Lh (kB HG1.out hb);have HR2:=Lh hr;have htt:=yA l o1 c1 w2 hr qO (by rw[HSS.out];omega);rw[<-HT.out]at htt;have HTT:=Lh htt;rw[bv];clear hb hr htt HS HG1;go_wp2_with fail;refine HTT.out.mono ?_;rintro e w2' ⟨rfl,rfl⟩;obtain⟨w3,hw3⟩:=qM (w2'.alloc (.cells #[.slice none 0 0,.slice none 0 0,.slice none 0 0] 88));have hb3:Below w2'.heap.size w2' w3:=by rw[<-hw3];exact aY _ _
 obtain⟨S,hSq⟩:=qM w2'.heap.size;have hg3:w3.heap[S]? =some (.cells #[.slice none 0 0,.slice none 0 0,.slice none 0 0] 88 (0,0)):=by rw[<-hw3,<-hSq];exact World.alloc_heap_new _ _
 have HST:Hid (RdS bs l (fun _ _=>[]) 0 S (.slice none 0 0) (.slice none 0 0) (.slice none 0 0) w2' w3):=Lh ⟨hg3,World.ownsRow_nil _ _ _ _,World.ownsRow_nil _ _ _ _,World.ownsRow_nil _ _ _ _,.inl rfl,hb3⟩;have HP2:=Lh (HP.out.later HB2.out);have HSQ:=Lh hSq;have HW3:=Lh hw3;clear hb3 hg3 hw3 HTT;go_wp2_with (rw[HW3.out])
 clear hSq;go_loopw [0,10,11,12,13,14,15,34] (fun v0 _ _ _ _ _ _ iv wr=>YT bs l S w2' v0 iv wr) (fun _ _ _ _ _ _ _ iv _=>l.length-(intOf iv).toNat)
 case atStart=>exact⟨0,0,_,_,_,_,Nat.zero_le _,(iF l).symm,rfl,⟨o,c,by simp[HN.out],by simpa using HP2.out⟩,fun h hh=>absurd hh qO,HST.out⟩
 case round=>
  clear HST HW3;obtain⟨k,B,V,vF,vE,vC,hk,hB,rfl,⟨o0,c0,rfl,hv0⟩,hmv,hrd⟩:=hrel;have HRD:=Lh hrd;have HMV:=Lh hmv;have HBQ:=Lh hB;have HV0:=Lh hv0;have h0l:=hv0.le.1;have h0c:=hv0.le.2;unfold maxLen at h0c;have hdl:(bs.drop B).length=N-B:=by rw[List.length_drop,HN.out]
  rw[hdl]at h0l⊢;obtain⟨r,hr⟩:=qM (N-B);rw[hr]at h0l⊢;by_cases hlt:k<l.length
  ·obtain⟨b1,off1,rfl,_,hcl⟩:=dR (HR2.out.later hrd.below) k hlt;change wr.cell? _=some (.int .i64 ((szG l k:Nat):Int))at hcl;have hst:=eN l k hlt;have hsl:=i6 l k hlt;rw[<-HT.out]at hsl;have hmk:=HMM.out _ (pH l k hlt);have hgg:dD bs l k=(bs.drop B).take (szG l k+32):=by rw[hB];rfl
   obtain⟨s,hs⟩:=qM (szG l k);rw[hs]at hcl hst hmk hsl hgg;rw[<-hB]at hst hsl;have hs1:=hmk.1;have hs2:=hmk.2;have hsr:s+32<=r:=qO;have hk0:(0:Int)<=(k:Int):=qO;have hk1:(k:Int)<(l.length:Int):=qO;obtain⟨b0,off0,p0,q0,rfl,_⟩:=hv0.cell 0 (by rw[hdl,hr];omega);have htk:=hv0.take (s+32) (by rw[hdl,hr];omega);rw[<-hgg]at htk;have hdd:=hv0.drop (s+32) (by rw[hdl,hr];omega);rw[List.drop_drop]at hdd;have hgl:(dD bs l k).length=s+32:=by rw[hgg,List.length_take,hdl];omega
   have HTK:=Lh htk;have HDD:=Lh hdd;have HGL:=Lh hgl;have HST:=Lh hst;have HSZ:=Lh hs;have HRR:=Lh hr;obtain⟨m,hm⟩:=qM (s+32);have hmi:(s:Int)+32=(m:Int):=qO;have hmc:(m:Int)<=(c0:Int):=qO;have hmr:(m:Int)<=(r:Int):=qO;rw[hm]at hgl;have HMQ:=Lh hm;have hmd:=Jc (dD bs l k) (some ⟨b0,off0,none⟩) m c0 wr A (HE.out.later (HB2.out.trans (hrd.below.mono HB2.out.size))) (htk.later hrd.below) hgl qO qO;have HMD:=Lh hmd;clear hrd hmv hv0 hst hsl hmk hgg hs hr htk hdd hgl hmd hB hm hdl;go_wp2_with fail;refine HMD.out.mono ?_;rintro e w4 ⟨hb4,⟨hno,rfl⟩|⟨vs,gO,BB,Gb,hmn,rfl,hmat⟩⟩
   ·have HNO:Hid (∀V,MndAll bs l V l.length->¬j3 ((af l V l.length).drop n)):=Lh fun V h=>by
     have:=h k hlt;rw[HSZ.out,HMQ.out]at this;exact absurd this (hno _)
    have hbe:=Ks (HB2.out.trans (HRD.out.below.mono HB2.out.size)) hb4;have hg4:=kB (kB HG2.out HRD.out.below) hb4;have hcc:=cP hg4;have HBE:=Lh hbe;have HG4:=Lh hg4;clear hno hb4 hbe hg4;go_wp2_with fail;refine bodyPost_ret (aD rfl _ _ w.heap.size 88 #[.slice none 0 0,.slice none 0 0,.slice none 0 0] (0,0) _ rfl (sV HG4.out _ _ _) Tryz.underlying88 rfl ml) rfl ?_;exact⟨kA HBE.out qN _ _ _,.inl ⟨HNO.out,rfl⟩⟩
   ·have hda:=E0 (dD bs l k) ((List.range m).map (mbk vs)) vs m c0 m (some ⟨b0,off0,none⟩) (some ⟨gO,0,none⟩) w4 (by
     have:=HTK.out;exact(this.later HRD.out.below).later hb4) (UI hmat) (by rw[HGL.out,HMQ.out]) qS (fun i hi=>kt _ _ _ hi) qO
    have HDA:=Lh hda;have HMAT:=Lh hmat;have HMN:=Lh hmn;have HB4:=Lh hb4;clear hda hmat hmn hb4;go_wp2_with fail;refine HDA.out.mono ?_;rintro e w5 ⟨rfl,rfl⟩;go_wp2_with fail;have RI0:Ri (af l V k) S vE vC vF vE vC (erG bs l k) (chG bs l V k) w5 w2' w5:=by
     have h:=HRD.out;have hb:=HB4.out;exact⟨Kp.refl _,kB h.heap hb,bz h.f hb,by rw[dX];exact bz h.e hb,by rw[qQ];exact bz h.c hb,h.ne,Ks h.below hb⟩
    have hSS:w2'.heap.size<=S:=by rw[HSQ.out];exact Nat.le_refl _
    refine Code.wp_mono (Q:=fun e a W=>e=.normal/\a.defers=[]/\a.tmps.size=96/\(∀i,i<35->a.tmps.getD i undef=([.slice (some ⟨b0,off0,none⟩) r c0,.int .i64 (n:Int),undef,undef,.pointer (some ⟨w.heap.size,0,none⟩),u5,.slice (some ⟨b1,off1,none⟩) l.length c1,.nilIface,.pointer (some ⟨S,0,none⟩),undef,.int .i64 (s:Int),.slice (some ⟨b0,off0,none⟩) m c0,.slice (some ⟨gO,0,none⟩) m m,.nilIface,.int .i64 ((gnL (dD bs l k) m).length:Int),.int .i64 (chN (dD bs l k) vs m:Int),.tuple #[.slice (some ⟨b1,off1,none⟩) l.length c1,.nilIface],.int .i64 (n:Int),.tuple #[.slice (some ⟨b1,off1,none⟩) l.length c1,.nilIface],.slice (some ⟨b1,off1,none⟩) l.length c1,.nilIface,.nilIface,.bool false,undef,undef,.slice o N c,.int .i64 (N:Int),.slice (some ⟨b1,off1,none⟩) l.length c1,.int .i64 (N:Int),.bool false,undef,undef,.slice (some ⟨b1,off1,none⟩) l.length c1,.int .i64 (l.length:Int),.int .i64 (k:Int)]:List Value).getD i undef)/\(∀i,i<14->a.tmps.getD (82+i) undef=undef)/\∃vE1 vC1,Ri (af l V k) S vE1 vC1 vF vE1 vC1 (erG bs l k++[((gnL (dD bs l k) m).length:Int)]) (chG bs l V k++[(chN (dD bs l k) vs m:Int)]) w5 w2' W) ?rest15 ?reg15
    case reg15=>
     have RI:=RI0.later qB.drew;clear RI0;refine wp_region_any qK ?_;change wpAny _ _ _ _ _ _ _ (World.drew w5);generalize World.drew w5=X0 at RI⊢;refine wpAny_take (i:=0) (v:=?va1) rfl qK qK qK (fun _ _ _ h=>(by cases h.1)) (Or.inl ⟨by rfl,?ha1⟩) ?ra1;case ha1=>(intro w;(go_simp<;>with_reducible rfl))
     refine wpAny_take (i:=2) (v:=?va2) rfl qK qK qK (fun _ _ _ h=>(by cases h.1)) (Or.inl ⟨by rfl,?ha2⟩) ?ra2;case ha2=>(intro w;(go_simp<;>with_reducible rfl))
     refine wpAny_take (i:=5) (v:=?va3) rfl qK qK qK (fun _ _ _ h=>(by cases h.1)) (Or.inl ⟨by rfl,?ha3⟩) ?ra3;case ha3=>(intro w;(go_simp<;>with_reducible rfl))
     refine wpAny_take (i:=7) (v:=?va4) rfl qK qK qK (fun _ _ _ h=>(by cases h.1)) (Or.inl ⟨by rfl,?ha4⟩) ?ra4;case ha4=>(intro w;(go_simp<;>with_reducible rfl))
     refine Rgt.yZ (S:=fun v=>v.heap[S]? =some (.cells #[vF,vE,vC] 88 (0,0))) (T:=fun i=>decide (i=11)||(decide (i=12)||decide (i=13))) _ _ _ _ ?_;refine Rgt.take (i:=1) (x:=vE) rfl rfl qK qK qK qK (fun _ _ _ h=>(by cases h.1)) (Or.inl ⟨qK,fun w hw=>by have hc:=(cP hw).2.1;(go_simp<;>with_reducible rfl)⟩) RI.heap ?_;go_simp;refine Rgt.take (i:=6) (x:=vC) rfl rfl qK qK qK qK (fun _ _ _ h=>(by cases h.1)) (Or.inl ⟨qK,fun w hw=>by have hc:=(cP hw).2.2.1;(go_simp<;>with_reducible rfl)⟩) RI.heap ?_;go_simp;refine Rgt.LC (i:=3) (j:=8) qK rfl rfl qK qK (fun K hK=>?p1) (fun K hK=>?p2)
     case' p1=>
      have IE:=RI.new ((gnL (dD bs l k) m).length:Int);have RI:=RI.later (aY X0 (Obj.cells #[Value.int IntKind.i64 ((gnL (dD bs l k) m).length:Int)] 3));go_simp;refine hK _ _ RI.heap ?_;clear hK K;generalize World.alloc X0 (Obj.cells #[Value.int IntKind.i64 ((gnL (dD bs l k) m).length:Int)] 3)=X1 at RI IE⊢;refine Rgt.LC (i:=4) (j:=8) qK rfl rfl qK qK (fun K hK=>?p3) (fun K hK=>?p4)
     case' p3=>
      obtain⟨o4,l4,c4,X2,hr4,RI,hic4⟩:=RI.app _ _ IE 37 (by rw[dX];omega);refine Lib.wp_append_run _ (.tmp 58) (.tmp 60) _ _ rfl _ _ rfl rfl _ _ hr4 (hK _ _ RI.heap ?_);clear hK K hr4 hic4;refine Rgt.take (i:=10) (x:=.pointer (some ⟨S,1,none⟩)) rfl rfl qK qK qK qK (fun _ _ _ h=>(by cases h.1)) (Or.inl ⟨qK,fun w hw=>qG⟩) RI.heap ?_;go_simp;refine Rgt.ready (i:=8) qK rfl qK (fun K hK=>?_);have IC:=RI.new (chN (dD bs l k) vs m:Int);have RI:=RI.later (aY X2 (Obj.cells #[Value.int IntKind.i64 (chN (dD bs l k) vs m:Int)] 3));go_simp;refine hK _ _ RI.heap ?_;clear hK K;generalize World.alloc X2 (Obj.cells #[Value.int IntKind.i64 (chN (dD bs l k) vs m:Int)] 3)=X3 at RI IC⊢;clear IE
     case' p4=>
      have IC:=RI.new (chN (dD bs l k) vs m:Int);have IE:=IE.later (aY X1 (Obj.cells #[Value.int IntKind.i64 (chN (dD bs l k) vs m:Int)] 3));have RI:=RI.later (aY X1 (Obj.cells #[Value.int IntKind.i64 (chN (dD bs l k) vs m:Int)] 3));go_simp;refine hK _ _ RI.heap ?_;clear hK K;generalize World.alloc X1 (Obj.cells #[Value.int IntKind.i64 (chN (dD bs l k) vs m:Int)] 3)=X2 at RI IC IE⊢;refine Rgt.ready (i:=4) qK rfl qK (fun K hK=>?_);obtain⟨o4,l4,c4,X3,hr4,RI,hic4⟩:=RI.app _ _ IE 37 (by rw[dX];omega);have IC:=hic4 _ _ IC;refine Lib.wp_append_run _ (.tmp 58) (.tmp 60) _ _ rfl _ _ rfl rfl _ _ hr4 (hK _ _ RI.heap ?_);clear hK K hr4 hic4;clear IE;refine Rgt.take (i:=10) (x:=.pointer (some ⟨S,1,none⟩)) rfl rfl qK qK qK qK (fun _ _ _ h=>(by cases h.1)) (Or.inl ⟨qK,fun w hw=>qG⟩) RI.heap ?_;go_simp
     case' p2=>
      have IC:=RI.new (chN (dD bs l k) vs m:Int);have RI:=RI.later (aY X0 (Obj.cells #[Value.int IntKind.i64 (chN (dD bs l k) vs m:Int)] 3));go_simp;refine hK _ _ RI.heap ?_;clear hK K;generalize World.alloc X0 (Obj.cells #[Value.int IntKind.i64 (chN (dD bs l k) vs m:Int)] 3)=X1 at RI IC⊢;refine Rgt.ready (i:=3) qK rfl qK (fun K hK=>?_);have IE:=RI.new ((gnL (dD bs l k) m).length:Int);have IC:=IC.later (aY X1 (Obj.cells #[Value.int IntKind.i64 ((gnL (dD bs l k) m).length:Int)] 3));have RI:=RI.later (aY X1 (Obj.cells #[Value.int IntKind.i64 ((gnL (dD bs l k) m).length:Int)] 3));go_simp;refine hK _ _ RI.heap ?_;clear hK K;generalize World.alloc X1 (Obj.cells #[Value.int IntKind.i64 ((gnL (dD bs l k) m).length:Int)] 3)=X2 at RI IE IC⊢;refine Rgt.ready (i:=4) qK rfl qK (fun K hK=>?_);obtain⟨o4,l4,c4,X3,hr4,RI,hic4⟩:=RI.app _ _ IE 37 (by rw[dX];omega);have IC:=hic4 _ _ IC;refine Lib.wp_append_run _ (.tmp 58) (.tmp 60) _ _ rfl _ _ rfl rfl _ _ hr4 (hK _ _ RI.heap ?_);clear hK K hr4 hic4;clear IE;refine Rgt.take (i:=10) (x:=.pointer (some ⟨S,1,none⟩)) rfl rfl qK qK qK qK (fun _ _ _ h=>(by cases h.1)) (Or.inl ⟨qK,fun w hw=>qG⟩) RI.heap ?_;go_simp
     all_goals
      refine Rgt.ready (i:=9) qK rfl qK (fun K hK=>?_);obtain⟨o9,l9,c9,X4,hr9,RI,hic9⟩:=RI.swap.app _ _ IC.swap 37 (by rw[qQ];omega);have RI:=RI.swap;refine Lib.wp_append_run _ (.tmp 63) (.tmp 65) _ _ rfl _ _ rfl rfl _ _ hr9 (hK _ _ RI.heap ?_);clear hK K hr9 hic9;refine Rgt.Cq (i:=11) qK rfl rfl qK (fun K hK=>?_);have hc:=(cP RI.heap).2.1;have hf:=(cP RI.heap).2.2.2.2.1;have RS:=RI.store hSS;have hh:=Rs RI.heap (.slice o4 l4 c4);have hc2:=(cP hh).2.2.1;have hf2:=(cP hh).2.2.2.2.2;go_simp;refine hK _ _ ?_;clear hK K hc hf;refine Rgt.Cq (i:=12) qK rfl rfl qK (fun K hK=>?_);go_simp;refine hK _ _ ?_;clear hK K;refine Rgt.Cq (i:=13) qK rfl rfl qK (fun K hK=>?_);go_simp;refine hK _ _ ?_;clear hK K hc2 hf2;refine Rgt.done qK ?_ _;exact⟨rfl,rfl,rfl,fun i hi=>(by match i,hi with|0,_|1,_|2,_|3,_|4,_|5,_|6,_|7,_|8,_|9,_|10,_|11,_|12,_|13,_|14,_|15,_|16,_|17,_|18,_|19,_|20,_|21,_|22,_|23,_|24,_|25,_|26,_|27,_|28,_|29,_|30,_|31,_|32,_|33,_|34,_=>rfl|n+35,h=>exact absurd h qO),fun i hi=>(by match i,hi with|0,_|1,_|2,_|3,_|4,_|5,_|6,_|7,_|8,_|9,_|10,_|11,_|12,_|13,_=>rfl|n+14,h=>exact absurd h qO),_,_,RS⟩
    case rest15=>
     clear RI0;rintro e15 ⟨tm15,df15⟩ w6 ⟨rfl,hd15,hs15,hk15,hu15,vE1,vC1,hri⟩;dsimp only at hd15 hs15 hk15 hu15;subst hd15;have e0:tm15.getD 0 undef=.slice (some ⟨b0,off0,none⟩) r c0:=hk15 0 qO;have e1:tm15.getD 1 undef=.int .i64 (n:Int):=hk15 1 qO;have e2:tm15.getD 2 undef=undef:=hk15 2 qO;have e3:tm15.getD 3 undef=undef:=hk15 3 qO;have e4:tm15.getD 4 undef=.pointer (some ⟨w.heap.size,0,none⟩):=hk15 4 qO;have e6:tm15.getD 6 undef=.slice (some ⟨b1,off1,none⟩) l.length c1:=hk15 6 qO;have e7:tm15.getD 7 undef=.nilIface:=hk15 7 qO;have e8:tm15.getD 8 undef=.pointer (some ⟨S,0,none⟩):=hk15 8 qO;have e9:tm15.getD 9 undef=undef:=hk15 9 qO;have e10:tm15.getD 10 undef=.int .i64 (s:Int):=hk15 10 qO;have e12:tm15.getD 12 undef=.slice (some ⟨gO,0,none⟩) m m:=hk15 12 qO;have e16:tm15.getD 16 undef=.tuple #[.slice (some ⟨b1,off1,none⟩) l.length c1,.nilIface]:=hk15 16 qO;have e17:tm15.getD 17 undef=.int .i64 (n:Int):=hk15 17 qO;have e18:tm15.getD 18 undef=.tuple #[.slice (some ⟨b1,off1,none⟩) l.length c1,.nilIface]:=hk15 18 qO;have e19:tm15.getD 19 undef=.slice (some ⟨b1,off1,none⟩) l.length c1:=hk15 19 qO;have e20:tm15.getD 20 undef=.nilIface:=hk15 20 qO;have e21:tm15.getD 21 undef=.nilIface:=hk15 21 qO;have e22:tm15.getD 22 undef=.bool false:=hk15 22 qO;have e23:tm15.getD 23 undef=undef:=hk15 23 qO;have e24:tm15.getD 24 undef=undef:=hk15 24 qO;have e25:tm15.getD 25 undef=.slice o N c:=hk15 25 qO;have e26:tm15.getD 26 undef=.int .i64 (N:Int):=hk15 26 qO;have e27:tm15.getD 27 undef=.slice (some ⟨b1,off1,none⟩) l.length c1:=hk15 27 qO;have e28:tm15.getD 28 undef=.int .i64 (N:Int):=hk15 28 qO;have e29:tm15.getD 29 undef=.bool false:=hk15 29 qO;have e30:tm15.getD 30 undef=undef:=hk15 30 qO;have e31:tm15.getD 31 undef=undef:=hk15 31 qO;have e32:tm15.getD 32 undef=.slice (some ⟨b1,off1,none⟩) l.length c1:=hk15 32 qO;have e33:tm15.getD 33 undef=.int .i64 (l.length:Int):=hk15 33 qO;have e34:tm15.getD 34 undef=.int .i64 (k:Int):=hk15 34 qO;have e82:tm15.getD 82 undef=undef:=hu15 0 qO;have e83:tm15.getD 83 undef=undef:=hu15 1 qO;have e84:tm15.getD 84 undef=undef:=hu15 2 qO;have e85:tm15.getD 85 undef=undef:=hu15 3 qO;have e86:tm15.getD 86 undef=undef:=hu15 4 qO;have e87:tm15.getD 87 undef=undef:=hu15 5 qO;have e88:tm15.getD 88 undef=undef:=hu15 6 qO;have e89:tm15.getD 89 undef=undef:=hu15 7 qO;have e90:tm15.getD 90 undef=undef:=hu15 8 qO;have e91:tm15.getD 91 undef=undef:=hu15 9 qO;have e92:tm15.getD 92 undef=undef:=hu15 10 qO;have e93:tm15.getD 93 undef=undef:=hu15 11 qO;have e94:tm15.getD 94 undef=undef:=hu15 12 qO;have e95:tm15.getD 95 undef=undef:=hu15 13 qO;have e15:=NK tm15 96 hs15;obtain⟨f,hf⟩:∃f:Nat->Value,(fun i=>tm15.getD i undef)=f:=⟨_,rfl⟩;have e16:tm15=#[.slice (some ⟨b0,off0,none⟩) r c0,.int .i64 (n:Int),undef,undef,.pointer (some ⟨w.heap.size,0,none⟩),f 5,.slice (some ⟨b1,off1,none⟩) l.length c1,.nilIface,.pointer (some ⟨S,0,none⟩),undef,.int .i64 (s:Int),f 11,.slice (some ⟨gO,0,none⟩) m m,f 13,f 14,f 15,.tuple #[.slice (some ⟨b1,off1,none⟩) l.length c1,.nilIface],.int .i64 (n:Int),.tuple #[.slice (some ⟨b1,off1,none⟩) l.length c1,.nilIface],.slice (some ⟨b1,off1,none⟩) l.length c1,.nilIface,.nilIface,.bool false,undef,undef,.slice o N c,.int .i64 (N:Int),.slice (some ⟨b1,off1,none⟩) l.length c1,.int .i64 (N:Int),.bool false,undef,undef,.slice (some ⟨b1,off1,none⟩) l.length c1,.int .i64 (l.length:Int),.int .i64 (k:Int),f 35,f 36,f 37,f 38,f 39,f 40,f 41,f 42,f 43,f 44,f 45,f 46,f 47,f 48,f 49,f 50,f 51,f 52,f 53,f 54,f 55,f 56,f 57,f 58,f 59,f 60,f 61,f 62,f 63,f 64,f 65,f 66,f 67,f 68,f 69,f 70,f 71,f 72,f 73,f 74,f 75,f 76,f 77,f 78,f 79,f 80,f 81,undef,undef,undef,undef,undef,undef,undef,undef,undef,undef,undef,undef,undef,undef]:=by
      refine e15.trans ?_;show(#[tm15.getD 0 undef,tm15.getD 1 undef,tm15.getD 2 undef,tm15.getD 3 undef,tm15.getD 4 undef,tm15.getD 5 undef,tm15.getD 6 undef,tm15.getD 7 undef,tm15.getD 8 undef,tm15.getD 9 undef,tm15.getD 10 undef,tm15.getD 11 undef,tm15.getD 12 undef,tm15.getD 13 undef,tm15.getD 14 undef,tm15.getD 15 undef,tm15.getD 16 undef,tm15.getD 17 undef,tm15.getD 18 undef,tm15.getD 19 undef,tm15.getD 20 undef,tm15.getD 21 undef,tm15.getD 22 undef,tm15.getD 23 undef,tm15.getD 24 undef,tm15.getD 25 undef,tm15.getD 26 undef,tm15.getD 27 undef,tm15.getD 28 undef,tm15.getD 29 undef,tm15.getD 30 undef,tm15.getD 31 undef,tm15.getD 32 undef,tm15.getD 33 undef,tm15.getD 34 undef,tm15.getD 35 undef,tm15.getD 36 undef,tm15.getD 37 undef,tm15.getD 38 undef,tm15.getD 39 undef,tm15.getD 40 undef,tm15.getD 41 undef,tm15.getD 42 undef,tm15.getD 43 undef,tm15.getD 44 undef,tm15.getD 45 undef,tm15.getD 46 undef,tm15.getD 47 undef,tm15.getD 48 undef,tm15.getD 49 undef,tm15.getD 50 undef,tm15.getD 51 undef,tm15.getD 52 undef,tm15.getD 53 undef,tm15.getD 54 undef,tm15.getD 55 undef,tm15.getD 56 undef,tm15.getD 57 undef,tm15.getD 58 undef,tm15.getD 59 undef,tm15.getD 60 undef,tm15.getD 61 undef,tm15.getD 62 undef,tm15.getD 63 undef,tm15.getD 64 undef,tm15.getD 65 undef,tm15.getD 66 undef,tm15.getD 67 undef,tm15.getD 68 undef,tm15.getD 69 undef,tm15.getD 70 undef,tm15.getD 71 undef,tm15.getD 72 undef,tm15.getD 73 undef,tm15.getD 74 undef,tm15.getD 75 undef,tm15.getD 76 undef,tm15.getD 77 undef,tm15.getD 78 undef,tm15.getD 79 undef,tm15.getD 80 undef,tm15.getD 81 undef,tm15.getD 82 undef,tm15.getD 83 undef,tm15.getD 84 undef,tm15.getD 85 undef,tm15.getD 86 undef,tm15.getD 87 undef,tm15.getD 88 undef,tm15.getD 89 undef,tm15.getD 90 undef,tm15.getD 91 undef,tm15.getD 92 undef,tm15.getD 93 undef,tm15.getD 94 undef,tm15.getD 95 undef]:Array Value)=_;rw[e0,e1,e2,e3,e4,e6,e7,e8,e9,e10,e12,e16,e17,e18,e19,e20,e21,e22,e23,e24,e25,e26,e27,e28,e29,e30,e31,e32,e33,e34,e82,e83,e84,e85,e86,e87,e88,e89,e90,e91,e92,e93,e94,e95,<-hf]
     subst e16;dsimp only;have HRI:=Lh hri;clear hk15 hu15 hs15 e15 hri hf e0 e1 e2 e3 e4 e6 e7 e8 e9 e10 e12 e16 e17 e18 e19 e20 e21 e22 e23 e24 e25 e26 e27 e28 e29 e30 e31 e32 e33 e34 e82 e83 e84 e85 e86 e87 e88 e89 e90 e91 e92 e93 e94 e95;obtain⟨wq,hwq⟩:=qM w6.drew;have hbq:Below w6.heap.size w6 wq:=by rw[<-hwq];exact qB.drew
     have hsm:(s:Int)<=(m:Int):=qO;have hs0:(0:Int)<=(s:Int):=qO;have hcn:=Bl (((List.range m).map (mbk vs)).take s) (some ⟨gO,0,none⟩) s m wq (((UI (HRI.out.kept.mat HMAT.out)).take s (by simp;omega)).later hbq) (by simp;omega) qO qO (fun i hi=>by rw[tW _ _ _ hi,kt _ _ _ qO];simp);have HRQ:=Lh (HRI.out.later hbq);have HCN:=Lh hcn;have hcc:=cP HRQ.out.heap;clear hcn hbq;have hfl:(af l V k).length<=8*N:=by
      rw[iM _ _ _ qO,HT.out];have:=eZ l k;omega
     have hcat:ww (((List.range m).map (mbk vs)).take s) s=prt vs s:=OA _ _ s s (fun i hi=>by rw[tW _ _ _ hi,kt _ _ _ qO]) qN;obtain⟨U,hU⟩:∃U:Nat->Nat->BL,(fun g=>if g=k then vs else V g)=U:=⟨_,rfl⟩;have hUV:∀a,a<k->V a=U a:=fun a ha=>by rw[<-hU];simp[Nat.ne_of_lt ha]
     have hUk:U k=vs:=by rw[<-hU];simp
     have HFU:Hid (af l U (k+1)=af l V k++prt vs s):=Lh (by
      show af l U k++prt (U k) (szG l k)=_;rw[hUk,HSZ.out,sw l hUV])
     have HEU:Hid (erG bs l (k+1)=erG bs l k++[((gnL (dD bs l k) m).length:Int)]):=Lh (by
      show erG bs l k++[((gnL (dD bs l k) (szG l k+32)).length:Int)]=_;rw[HSZ.out,HMQ.out])
     have HCU:Hid (chG bs l U (k+1)=chG bs l V k++[(chN (dD bs l k) vs m:Int)]):=Lh (by
      show chG bs l U k++[(chN (dD bs l k) (U k) (szG l k+32):Int)]=_;rw[hUk,HSZ.out,HMQ.out,yJ bs l hUV])
     have HMU:Hid (MndAll bs l U (k+1)):=Lh fun h hh=>by
      by_cases e:h=k
      ·subst e;rw[hUk,HSZ.out,HMQ.out];exact HMN.out
      ·rw[<-hUV h qO];exact HMV.out h qO
     have HCT:=Lh hcat;clear hcat hU hUV hUk;go_wp2_with fail;refine wp_region_any qK ?_;change wpAny _ _ _ _ _ _ _ (World.drew w6);rw[hwq];refine wpAny_take (i:=0) (v:=?vb1) rfl qK qK qK qI (Or.inl ⟨by rfl,?hb1⟩) ?rb1;case hb1=>(intro w;(go_simp<;>with_reducible rfl))
     refine wpAny_take (i:=2) (v:=?vb2) rfl qK qK qK qI (Or.inl ⟨by rfl,?hb2⟩) ?rb2;case hb2=>(intro w;(go_simp<;>with_reducible rfl))
     refine wpAny_take (i:=3) (v:=?vb3) rfl qK qK qK qI (Or.inl ⟨by rfl,?hb3⟩) ?rb3;case hb3=>(intro w;(go_simp<;>with_reducible rfl))
     refine wpAny_take (i:=4) (v:=?vb4) rfl qK qK qK qI (Or.inl ⟨by rfl,?hb4⟩) ?rb4;case hb4=>(intro w;(go_simp<;>with_reducible rfl))
     refine wpAny_ready (rs:=[1,5]) qK qS ?_;refine AllReady.cons rfl (fun K hK=>?_) (AllReady.cons rfl (fun K hK=>?_) AllReady.nil)
     ·go_simp;refine hK _ _ ?_;clear hK K;refine wpAny_ready (rs:=[5]) qK qS ?_;refine AllReady.cons rfl (fun K hK=>?_) AllReady.nil;go_simp;go_wp2_with (refine HCN.out.mono ?_;rintro e w7 ⟨gc,capc,rfl,hgc,hbc,hb7⟩)
      rw[HCT.out]at hbc;have HBC:=Lh hbc;have HR7:=Lh (HRQ.out.later hb7);clear hgc hbc hb7;refine wpAny_ready (rs:=[6]) qK qS ?_;refine AllReady.cons rfl (fun K hK=>?_) AllReady.nil;rw[if_pos (by rfl)];refine dQ (.tmp 70) (.tmp 74) rfl w2'.heap.size vF (af l V k).length (af l V k) rfl HR7.out.f _ (8*s) capc (prt vs s) rfl qS HBC.out.row qO HR7.out.below.size fun v8 w8 hv8 hg8=>hK _ _ ?_
      clear hK K;obtain⟨o8,l8,c8,rfl⟩:=l7 hv8;have hfn:=Ri.fin HR7.out hg8 hv8 qS (by rw[HSQ.out];exact Nat.le_refl _) HFU.out HEU.out HCU.out;have HFN:=Lh hfn.2;have hc8:=cP hfn.1;clear hfn hv8 hg8;refine wpAny_take (i:=7) (v:=?vb7) rfl qK qK qK qI (Or.inl ⟨by rfl,?hb7⟩) ?rb7;case hb7=>(intro w;(go_simp<;>with_reducible rfl))
      refine wpAny_ready (rs:=[8]) qK qS ?_;refine AllReady.cons rfl (fun K hK=>?_) AllReady.nil;go_simp;refine hK _ _ ?_;clear hK K hc8;refine wpAny_done qK ?_ _;have hdr:(bs.drop (B+m)).length=r-m:=by
       have h1:=HN.out;have h2:=HRR.out;rw[List.length_drop];omega
      have hd2:=HDD.out;rw[HMQ.out]at hd2;have hle2:=hd2.le.1;have HD2:=Lh hd2;clear hd2;by_cases hcm:c0=m
      ·have hdz:bs.drop (B+m)=[]:=List.eq_nil_of_length_eq_zero qO;go_wp2_with fail;go_roundw
       case rel=>exact⟨k+1,B+m,U,_,_,_,qO,by have:=HST.out;have:=HMQ.out;omega,by go_num,⟨_,_,by rw[hdr],by rw[hdz];exact RbIs.empty _ _ (by unfold maxLen;omega) qS⟩,HMU.out,HFN.out⟩
       case measure=>simp[intOf];omega
      ·go_wp2_with fail;go_roundw
       case rel=>exact⟨k+1,B+m,U,_,_,_,qO,by have:=HST.out;have:=HMQ.out;omega,by go_num,⟨_,_,by rw[hdr],HD2.out⟩,HMU.out,HFN.out⟩
       case measure=>simp[intOf];omega
     ·go_simp;go_wp2_with (refine HCN.out.mono ?_;rintro e w7 ⟨gc,capc,rfl,hgc,hbc,hb7⟩)
      rw[HCT.out]at hbc;have HBC:=Lh hbc;have HR7:=Lh (HRQ.out.later hb7);clear hgc hbc hb7;refine wpAny_ready (rs:=[1]) qK qS ?_;refine AllReady.cons rfl (fun K hK=>?_) AllReady.nil;have hc7:=(cP HR7.out.heap).1;go_simp;refine hK _ _ ?_;clear hK K;clear hc7;refine wpAny_ready (rs:=[6]) qK qS ?_;refine AllReady.cons rfl (fun K hK=>?_) AllReady.nil;rw[if_pos (by rfl)];refine dQ (.tmp 70) (.tmp 74) rfl w2'.heap.size vF (af l V k).length (af l V k) rfl HR7.out.f _ (8*s) capc (prt vs s) rfl qS HBC.out.row qO HR7.out.below.size fun v8 w8 hv8 hg8=>hK _ _ ?_
      clear hK K;obtain⟨o8,l8,c8,rfl⟩:=l7 hv8;have hfn:=Ri.fin HR7.out hg8 hv8 qS (by rw[HSQ.out];exact Nat.le_refl _) HFU.out HEU.out HCU.out;have HFN:=Lh hfn.2;have hc8:=cP hfn.1;clear hfn hv8 hg8;refine wpAny_take (i:=7) (v:=?vb9) rfl qK qK qK qI (Or.inl ⟨by rfl,?hb9⟩) ?rb9;case hb9=>(intro w;(go_simp<;>with_reducible rfl))
      refine wpAny_ready (rs:=[8]) qK qS ?_;refine AllReady.cons rfl (fun K hK=>?_) AllReady.nil;go_simp;refine hK _ _ ?_;clear hK K hc8;refine wpAny_done qK ?_ _;have hdr:(bs.drop (B+m)).length=r-m:=by
       have h1:=HN.out;have h2:=HRR.out;rw[List.length_drop];omega
      have hd2:=HDD.out;rw[HMQ.out]at hd2;have hle2:=hd2.le.1;have HD2:=Lh hd2;clear hd2;by_cases hcm:c0=m
      ·have hdz:bs.drop (B+m)=[]:=List.eq_nil_of_length_eq_zero qO;go_wp2_with fail;go_roundw
       case rel=>exact⟨k+1,B+m,U,_,_,_,qO,by have:=HST.out;have:=HMQ.out;omega,by go_num,⟨_,_,by rw[hdr],by rw[hdz];exact RbIs.empty _ _ (by unfold maxLen;omega) qS⟩,HMU.out,HFN.out⟩
       case measure=>simp[intOf];omega
      ·go_wp2_with fail;go_roundw
       case rel=>exact⟨k+1,B+m,U,_,_,_,qO,by have:=HST.out;have:=HMQ.out;omega,by go_num,⟨_,_,by rw[hdr],HD2.out⟩,HMU.out,HFN.out⟩
       case measure=>simp[intOf];omega
  ·obtain rfl:k=l.length:=qO;have hfl:(af l V l.length).length=8*nbk n:=by rw[iM _ _ _ qN,List.take_length,HSS.out]
   have hnle:=HNL.out;have HRS:=HRD;obtain⟨gF,capF,rfl,hgF,hbF⟩:=fG HRD.out.f qO rfl;obtain⟨oE,lE,cE,rfl⟩:=l7 HRD.out.e;obtain⟨oC,lC,cC,rfl⟩:=l7 HRD.out.c;have hgq:=kB HG2.out HRD.out.below;have hqS:w.heap.size≠S:=by
    rw[<-HSQ.out];have:=(aE.1 HG2.out).1;omega
   have hgz:(wr.setCell ⟨S,0,none⟩ (.slice (some ⟨gF,0,none⟩) n capF)).heap[w.heap.size]? =some (.cells #[.slice none 0 0,.slice none 0 0,.slice none 0 0] 88 (0,0)):=by rw[heap_setCell_other wr ⟨S,0,none⟩ w.heap.size _ hqS];exact hgq
   have HGQ:=Lh hgq;have HGZ:=Lh hgz;have hcq:=cP hgq;have hcz:=cP hgz;have HQS:=Lh hqS;have hbz:=Ks HB2.out HRD.out.below;have HBZ:=Lh hbz;clear hgq hgz hqS hbz;have hle:=hbF.le;rw[hfl]at hle;have hmx:=hle.2;unfold maxLen at hmx;have hdl2:((af l V l.length).drop n).length=8*nbk n-n:=by rw[List.length_drop,hfl]
   have hrow:RowIs wr (if capF=n then some ⟨gF,0,none⟩else some ⟨gF,n,none⟩) (bytesV ((af l V l.length).drop n)) (capF-n):=by
    by_cases hcf:capF=n
    ·rw[if_pos hcf,List.eq_nil_of_length_eq_zero (show((af l V l.length).drop n).length=0 by omega)];exact RowIs.empty _ _ (by unfold maxLen;omega) qS
    ·rw[if_neg hcf];have h1:=hbF.row.part n (8*nbk n-n) (by rw[bytesV_length,hfl];omega) (capF-n) qO (by unfold maxLen;omega);have h2:((bytesV (af l V l.length)).drop n).take (8*nbk n-n)=bytesV ((af l V l.length).drop n):=by
      rw[List.take_of_length_le (by rw[List.length_drop,bytesV_length,hfl];omega)];simp[bytesV]
     rw[h2,Nat.zero_add]at h1;exact h1
   have hcc:=cP HRD.out.heap;rw[hfl]at hcc;have HBF:=Lh hbF;have HDL:=Lh hdl2;have HHR:=Lh hrow;have HFL:=Lh hfl;have HCC:=Lh hcc;obtain⟨L,hL⟩:=qM (8*nbk n);rw[hL]at hle hcc hdl2 hfl hnle;have hd1:=hle.1;have hLn:(n:Int)<=(L:Int):=qO;have hn0:(0:Int)<=(n:Int):=qO;have hlc:(L:Int)<=(capF:Int):=qO;have HLL:=Lh hL;have hSS:w.heap.size<=S:=by have:=HB2.out.size;have:=HSQ.out;omega
   have hnl:n<=(af l V l.length).length:=by rw[HFL.out];exact HNL.out
   by_cases hz:j3 ((af l V l.length).drop n)
   ·have HNY:=Lh (Bi _ _ _ _ HHR.out hz);have HZ:=Lh hz;rw[hdl2]at HNY;clear hrd hmv hv0 hB hgF hbF hrow hdl2 hfl hz hL;by_cases hcf:capF=n
    ·have HNQ:Hid (Calls _ _ _ _ _):=Lh HNY.out;rw[if_pos hcf,show capF-n=0 by omega]at HNQ;clear HNY;go_wp2_with fail;refine HNQ.out.mono ?_;rintro e wz ⟨rfl,rfl⟩;clear HNQ hcf;go_wp2_with fail;refine bodyPost_ret (aD rfl _ _ w.heap.size 88 #[.slice (some ⟨gF,0,none⟩) n capF,.slice oE lE cE,.slice oC lC cC] (0,0) _ rfl (sV HGZ.out _ _ _) Tryz.underlying88 rfl ml) rfl ?_;exact Gs HRD.out HBF.out HGQ.out HQS.out HBZ.out hSS (by rw[HSQ.out];exact hSS) hnl HMV.out HZ.out
    ·have HNQ:Hid (Calls _ _ _ _ _):=Lh HNY.out;rw[if_neg hcf]at HNQ;clear HNY;go_wp2_with fail;refine HNQ.out.mono ?_;rintro e wz ⟨rfl,rfl⟩;clear HNQ hcf;go_wp2_with fail;refine bodyPost_ret (aD rfl _ _ w.heap.size 88 #[.slice (some ⟨gF,0,none⟩) n capF,.slice oE lE cE,.slice oC lC cC] (0,0) _ rfl (sV HGZ.out _ _ _) Tryz.underlying88 rfl ml) rfl ?_;exact Gs HRD.out HBF.out HGQ.out HQS.out HBZ.out hSS (by rw[HSQ.out];exact hSS) hnl HMV.out HZ.out
   ·have HNY:=Lh (EZ _ _ _ _ HHR.out hz);rw[hdl2]at HNY;have HZ:Hid (∀U,MndAll bs l U l.length->¬j3 ((af l U l.length).drop n)):=Lh fun U hU hq=>hz (by rw[(MndAll.uniq HMV.out hU).1];exact hq)
    have hce:=(HE.out.later HBZ.out).c16;have h16: 16<w.heap.size:=Rr HE.out.c16;have h16a:¬(w.heap.size= 16):=qO;have h16b:¬(16=w.heap.size):=qO;clear hrd hmv hv0 hB hgF hbF hrow hdl2 hfl hz hL;by_cases hcf:capF=n
    ·have HNQ:Hid (Calls _ _ _ _ _):=Lh HNY.out;rw[if_pos hcf,show capF-n=0 by omega]at HNQ;clear HNY;go_wp2_with fail;refine HNQ.out.mono ?_;rintro e wz ⟨rfl,rfl⟩;clear HNQ hcf;go_wp2_with fail;go_region
     all_goals go_wp2_with fail
     all_goals refine bodyPost_ret (aD rfl _ _ w.heap.size 88 #[.slice none 0 0,.slice none 0 0,.slice none 0 0] (0,0) _ rfl (sV (w:=World.drew wz) HGQ.out _ _ _) Tryz.underlying88 rfl ml) rfl ?_
     all_goals exact⟨kA HBZ.out.drew qN _ _ _,.inl ⟨HZ.out,rfl⟩⟩
    ·have HNQ:Hid (Calls _ _ _ _ _):=Lh HNY.out;rw[if_neg hcf]at HNQ;clear HNY;go_wp2_with fail;refine HNQ.out.mono ?_;rintro e wz ⟨rfl,rfl⟩;clear HNQ hcf;go_wp2_with fail;go_region
     all_goals go_wp2_with fail
     all_goals refine bodyPost_ret (aD rfl _ _ w.heap.size 88 #[.slice none 0 0,.slice none 0 0,.slice none 0 0] (0,0) _ rfl (sV (w:=World.drew wz) HGQ.out _ _ _) Tryz.underlying88 rfl ml) rfl ?_
     all_goals exact⟨kA HBZ.out.drew qN _ _ _,.inl ⟨HZ.out,rfl⟩⟩
