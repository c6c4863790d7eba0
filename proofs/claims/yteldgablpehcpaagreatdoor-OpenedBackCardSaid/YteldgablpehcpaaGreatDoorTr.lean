/- Tr -/
import Derived.Test.YteldgablpehcpaaGreatDoorMac
import Derived.Test.YteldgablpehcpaaGreatDoorGw
import Derived.Test.YteldgablpehcpaaGreatDoorChecked
import Derived.Lib.Strings
import Derived.Lib.Slices
import Derived.Lib.Small
import Derived.Lib.Walk
import Derived.Lib.BitFns
set_option linter.unusedVariables false
set_option linter.unusedSimpArgs false
set_option maxRecDepth 100000
set_option maxHeartbeats 8000000
namespace Go.Proofs.YteldgablpehcpaaGreatDoor
open Go.RowKit
namespace Da
def lf(b:BL):BL:=sha (0::b)
def nd(l r:BL):BL:=sha (1::(l++r))
theorem lQ(b:BL):(lf b).length=32:=ai _
theorem sJ(l r:BL):(nd l r).length=32:=ai _
def spl(n:Nat):Nat:=if n<2 then 0 else 2^(n-1).log2
theorem vA{n:Nat}(h:2<=n):1<=spl n/\spl n<n/\n<=2*spl n:=by
 unfold spl;rw[if_neg qO];have h1:2^(n-1).log2<=n-1:=Nat.log2_self_le qO;have h2:n-1<2^((n-1).log2+1):=Nat.lt_log2_self;rw[Nat.pow_succ]at h2;have h3:0<2^(n-1).log2:=Nat.two_pow_pos _;omega
theorem Ar{n j:Nat}(h:2^j<n)(k:n<=2*2^j):spl n=2^j:=by
 have h0:0<2^j:=Nat.two_pow_pos _;unfold spl;rw[if_neg qO];have:(n-1).log2=j:=by
  rw[Nat.log2_eq_iff qO,Nat.pow_succ];omega
 rw[this]
def ov(l:L8):BL:=
 if h0:l.length=0 then sha []
 else if h1:l.length=1 then l.headD []
 else nd (ov (l.take (spl l.length))) (ov (l.drop (spl l.length)))
termination_by l.length
decreasing_by
 all_goals
  have:=vA (n:=l.length) qO;simp;omega
theorem Dc:ov []=sha []:=by rw[ov];rfl
theorem Dd(d:BL):ov [d]=d:=by rw[ov];rfl
theorem De{l:L8}(h:2<=l.length):ov l=nd (ov (l.take (spl l.length))) (ov (l.drop (spl l.length))):=by
 rw[ov];rw[dif_neg qO,dif_neg qO]
theorem GW{s a:L8}{j:Nat}(hs:s.length=2^j)(h0:0<a.length)(h1:a.length<=2^j):ov (s++a)=nd (ov s) (ov a):=by
 have hp:0<2^j:=Nat.two_pow_pos _;have e:spl (s++a).length=s.length:=by
  rw[hs];exact Ar (by rw[List.length_append];omega) (by rw[List.length_append];omega)
 rw[De (by rw[List.length_append];omega),e,List.take_left,List.drop_left]
theorem f8{l:L8}(h:∀d∈l,d.length=32):(ov l).length=32:=by
 rw[ov];split
 ·exact ai _
 ·split
  ·cases l with
   |nil=>simp at*
   |cons d l=>exact h d qS
  ·exact ai _
inductive Wt:Nat->Nat->List L8->Prop
 |nil (j:Nat):Wt j 0 []
 |even {j c:Nat} {r:List L8}:Wt (j+1) c r->Wt j (2*c) r
 |odd {j c:Nat} {s:L8} {r:List L8}:s.length=2^j->Wt (j+1) c r->Wt j (2*c+1) (s::r)
theorem Wt.half{j c:Nat}{r:List L8}(h:Wt j c r)(hc:c % 2=0):Wt (j+1) (c / 2) r:=by
 cases h with
 |nil=>exact .nil _
 | @even _ c' _ h=>rw[show 2*c' / 2=c' by omega];exact h
 |odd hs h=>omega
theorem Wt.last{j c:Nat}{r:List L8}(h:Wt j c r)(hc:c % 2=1):∃s r',r=s::r'/\s.length=2^j/\Wt (j+1) (c / 2) r':=by
 cases h with
 |nil=>omega
 |even h=>omega
 | @odd _ c' s r' hs h=>exact⟨s,r',rfl,hs,by rw[show(2*c'+1) / 2=c' by omega];exact h⟩
theorem Wt.push{j c:Nat}{r:List L8}(h:Wt j c r)(hc:c % 2=0){s:L8}(hs:s.length=2^j):Wt j (c+1) (s::r):=by
 have:=Wt.odd hs (h.half hc);rwa[show 2*(c / 2)+1=c+1 by omega]at this
def jn(a:BL)(r:List L8):BL:=r.foldl (fun x s=>nd (ov s) x) a
theorem Wt.join{j c:Nat}{r:List L8}(h:Wt j c r):∀(a:L8),0<a.length->a.length<=2^j->jn (ov a) r=ov (r.reverse.flatten++a):=by
 induction h with
 |nil j=>intro a _ _;simp[jn]
 |even h ih=>intro a h0 h1;exact ih a h0 (by rw[Nat.pow_succ];omega)
 | @odd j c s r hs h ih=>
  intro a h0 h1;show jn (nd (ov s) (ov a)) r=_;rw[<-GW hs h0 h1,ih (s++a) (by rw[List.length_append];omega) (by rw[List.length_append,Nat.pow_succ];omega)];simp
theorem Wt.length{j c:Nat}{r:List L8}(h:Wt j c r):r.flatten.length=2^j*c:=by
 induction h with
 |nil j=>simp
 |even h ih=>rw[ih,Nat.pow_succ,Nat.mul_assoc]
 | @odd j c s r hs h ih=>rw[List.flatten_cons,List.length_append,hs,ih,Nat.pow_succ,Nat.mul_add,Nat.mul_one,Nat.mul_assoc,Nat.add_comm]
theorem Wt.top{j c:Nat}{r:List L8}(h:Wt j c r):∀s r',r=s::r'->jn (ov s) r'=ov (r.reverse.flatten):=by
 induction h with
 |nil j=>intro s r' e;cases e
 |even h ih=>exact ih
 | @odd j c s r hs h ih=>
  intro s' r' e;cases e
  have hp:0<2^j:=Nat.two_pow_pos _;rw[h.join s qO (by rw[Nat.pow_succ];omega)];simp
def mth(l:L8):BL:=ov (l.map lf)
theorem gE(l:L8):(mth l).length=32:=f8 (by simp only[List.mem_map];rintro d ⟨b,_,rfl⟩;exact lQ b)
end Da
def Xf(bs:L8)(w:World)(s iv:Value)(wr:World):Prop:=∃k:Nat,k<=bs.length/\iv=.int .i64 k/\s=.int .i64 ((bs.take k).flatten.length:Nat)/\wr=w
def Xg(bs:L8)(w:World)(v iv:Value)(wr:World):Prop:=
 ∃(k B:Nat),k<=bs.length/\B=(bs.take k).flatten.length/\iv=.int .i64 k/\wr.ownsRow w.heap.size 5 1 v B (bytesV (bs.take k).flatten)/\Below w.heap.size w wr
theorem sK(bs:L8)(o:Option Addr)(n c:Nat)(w:World)(hP:RbIs w o bs c)(hn:bs.length=n)(h0:0<bs.flatten.length)(hl:bs.flatten.length<=10000)(hn2:n<=1000):
  Calls Tryz.prog 66 #[.slice o n c] w fun e w'=>∃g cap,e=.returned (.slice (some ⟨g,0,none⟩) bs.flatten.length cap)/\w.heap.size<=g/\Buf w' g cap bs.flatten/\Below w.heap.size w w':=by
 have h1:=hP.le.1;have h2:=hP.le.2;rw[hn]at h1;unfold maxLen at h2;have HP:=Lh hP;have HN:=Lh hn;have HFL:=Lh (fun k=>yq bs k);have HST:=Lh (fun k h=>ia bs k h);have HL:=Lh hl;have H0:=Lh h0;clear hP hn hl h0;go_enter Tryz.func66,Tryz.ntmps66
 go_wp2_with fail;go_loopw [3,5,11] (fun s _ i wr=>Xf bs w s i wr) (fun _ _ i _=>n-(intOf i).toNat)
 case atStart=>exact⟨0,Nat.zero_le _,rfl,rfl,rfl⟩
 case round=>
  obtain⟨k,hk,rfl,rfl,rfl⟩:=hrel;rw[HN.out]at hk;by_cases hlt:k<n
  ·obtain⟨b,off,p,q,rfl,_,hc,hr⟩:=HP.out.cell k (by have:=HN.out;omega);have e1:=HST.out k (by have:=HN.out;omega);have e2:=HFL.out (k+1);have e3:=HL.out;rw[e1,List.length_append]at e2;obtain⟨s,hs⟩:=qM ((bs.take k).flatten.length);have HS2:Hid ((bs.take (k+1)).flatten.length=s+(bi bs k).length):=Lh (by rw[e1,List.length_append,hs]);rw[hs]at e2⊢;obtain⟨L,hL⟩:=qM ((bi bs k).length);rw[hL]at HS2 e2 hc;have hk0:(0:Int)<=(k:Int):=qO;have hk1:(k:Int)<(n:Int):=qO;have hr1:=hr.le;have hr2:=hr.cap;rw[bytesV_length,hL]at hr1;unfold maxLen at hr2;have hs1:s+L<=10000:=qO;have hd:decide ((s:Int)+(L:Int)<0)=false:=decide_eq_false qO;clear hr hs hL e1 e2 e3;go_wp2_with fail;go_roundw
   case rel=>exact⟨k+1,by have:=HN.out;omega,by go_num,by rw[HS2.out];go_num,rfl⟩
   case measure=>simp[intOf];omega
  ·obtain rfl:k=n:=qO;rw[List.take_of_length_le (by have:=HN.out;omega)];obtain⟨F,hF⟩:=qM bs.flatten.length;rw[hF]at H0 HL⊢;have hF1:=H0.out;have hF2:=HL.out;have HG:=Lh (rD F wr hF1 hF2);have HF:=Lh hF;clear hF;go_wp2_with fail;refine HG.out.mono ?_;rintro e w2 ⟨g,cap,rfl,hown,hb⟩;have HV:=Lh hown;have HB:=Lh hb;clear hown hb HG;go_wp2_with fail;go_loopw [6,8,27] (fun v _ i wr2=>Xg bs wr v i wr2) (fun _ _ i _=>k-(intOf i).toNat)
   case atStart=>exact⟨0,0,Nat.zero_le _,rfl,rfl,HV.out,HB.out⟩
   case round=>
    rename World=>W3
    obtain⟨i,B,hi,hB,rfl,hv,hb3⟩:=hrel;rw[HN.out]at hi;have HV3:=Lh hv;have HB3:=Lh hb3;have HBB:=Lh hB;by_cases hlt2:i<k
    ·obtain⟨b,off,p,q,rfl,_,hc,hr⟩:=(HP.out.later hb3).cell i (by have:=HN.out;omega);have hi0:(0:Int)<=(i:Int):=qO;have hi1:(i:Int)<(k:Int):=qO;have HR:=Lh hr;have e1:=HST.out i (by have:=HN.out;omega);have e2:=HFL.out (i+1);rw[e1,List.length_append,<-hB,HF.out]at e2;have HE1:=Lh e1;obtain⟨L,hL⟩:=qM ((bi bs i).length);rw[hL]at hc e2;have HL2:=Lh hL;have hB1:B+L<=10000:=qO;clear hr hv hb3 hB e1 e2 hL;go_wp2_with (at_builtin;refine aL rfl (.tmp 31) (.tmp 32) rfl wr.heap.size _ B (bs.take i).flatten rfl HV3.out p L q (bi bs i) rfl HL2.out.symm HR.out qO HB3.out.size ?_)
     intro v' w4 hv hg;rw[<-HE1.out]at hv;have HV4:=Lh hv;have HB4:=Lh (own_below (n:=0) HB3.out HV3.out hg);clear hv hg;go_wp2_with fail;go_roundw
     case rel=>exact⟨i+1,B+L,by have:=HN.out;omega,by have:=HBB.out;rw[HE1.out,List.length_append,<-this,HL2.out],by go_num,HV4.out,HB4.out⟩
     case measure=>simp[intOf];omega
    ·obtain rfl:i=k:=qO;rw[List.take_of_length_le (by have:=HN.out;omega)]at hv hB;obtain⟨g2,cap2,rfl,hg2,hbuf⟩:=fG hv (by have:=HF.out;omega) hB;rw[HF.out];have HX:=Lh hbuf;clear hv hb3 hB hbuf HBB HV3;go_wp2_with fail;go_ret;exact⟨g2,cap2,by rw[HF.out];rfl,hg2,HX.out,HB3.out⟩
theorem Dh(x:UInt8)(w:World):RowIs (w.alloc (.cells #[.int .u8 (x.toNat:Int)] 5)) (some ⟨w.heap.size,0,none⟩) (bytesV [x]) 1:=
 ⟨qS,by unfold maxLen;decide,(fun e=>by cases e),fun _=>⟨w.heap.size,0,rfl,qS,fun i v hv=>by
  rw[Nat.zero_add,cell_of_row _ _ _ _ _ _ (World.alloc_heap_new _ _)];simpa[bytesV]using hv⟩⟩
theorem aH(w:World)(o:Obj):Below w.heap.size w (w.alloc o):=qB.alloc qN _
