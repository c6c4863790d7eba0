/- Gn -/
import Derived.Test.YteldgablpehcpaaGreatDoorMu
import Derived.Deep.DeepAppendWide
import Derived.Laws.AppendOwnNone
import Derived.Deep.Onto
import Derived.Lib.AppendZeros
import Derived.Lib.AppendStr
set_option linter.unusedVariables false
set_option linter.unusedSimpArgs false
set_option maxRecDepth 100000
set_option maxHeartbeats 8000000
namespace Go.Proofs.YteldgablpehcpaaGreatDoor
open Go.RowKit
def RowV(z:BL)(x:Value)(v:World):Prop:=∃o c,x=.slice o z.length c/\RowIs v o (bytesV z) c
theorem RowV.later{z:BL}{x:Value}{v v':World}(h:RowV z x v)(hb:Below v.heap.size v v'):RowV z x v':=by
 obtain⟨o,c,e,h⟩:=h;exact⟨o,c,e,h.later hb⟩
def Rows(z:BL)(v:World)(e:Ending)(v':World):Prop:=∃x,e=.returned x/\RowV z x v'/\Below v.heap.size v v'
theorem fD{p:BL}{x:Value}{v:World}(hp:RowV p x v):(convert 22 9 x).run Tryz.prog v=.ok (.string ⟨p.toArray⟩) v:=by
 obtain⟨o,c,rfl,hp⟩:=hp;exact fJ hp Tryz.underlying22 Tryz.underlying5 Tryz.underlying9 _
def CellV(y:UInt8)(x:Value)(v:World):Prop:=∃a,x=.pointer (some a)/\v.cell? a=some (.int .u8 (y.toNat:Int))/\a.block<v.heap.size
theorem CellV.later{y:UInt8}{x:Value}{v v':World}(h:CellV y x v)(hb:Below v.heap.size v v'):CellV y x v':=by
 obtain⟨a,e,h,hl⟩:=h;refine⟨a,e,?_,Nat.lt_of_lt_of_le hl hb.size⟩;unfold World.cell? at*;rw[hb.block _ hl];exact h
theorem RowV.cellAt{z:BL}{x:Value}{v:World}(h:RowV z x v)(i:Nat)(hi:i<z.length):∃a c,x=.slice (some a) z.length c/\CellV (co z i) (.pointer (some (a.add i))) v:=by
 obtain⟨o,c,rfl,h⟩:=h;have h2:=h.adds;obtain⟨b,off,rfl,hb,hc⟩:=h.cells (by simp;omega);exact⟨_,_,rfl,_,rfl,h2 _ rfl i _ (aB z i hi),by unfold Addr.add;split<;>exact hb⟩
theorem Ua{W:World}{n:Nat}{v:Value}{xs:List Value}{m:Nat}(h:W.ownsRow n 5 1 v m xs):∀k,v.ownBlock=some k->n<=k:=fun k e=>(World.ownsRow.lt h k e).1
theorem aL{ops:Array Oper}{rest:List Oper}{o:Oper}{a:Act}{Q:Exit->Act->World->Prop}{w:World}(hgd:o.guard=none)(s x:Operand)
  (ho:o.op=.call {callee:=.builtin .append,args:=#[s,x],argTypes:=#[22,22]})
  (base:Nat) (v:Value) (n:Nat) (z:BL) (hs:a.eval s=v) (hown:w.ownsRow base 5 1 v n (bytesV z))
  (ad:Option Addr) (m c:Nat) (y:BL) (hx:a.eval x=.slice ad m c) (hm:m=y.length) (hrow:RowIs w ad (bytesV y) c) (hl:n+m<=10000000) (hbase:base<=w.heap.size)
  (h:∀v' w',w'.ownsRow base 5 1 v' (n+m) (bytesV (z++y))->w.grownBy w' v.ownBlock->wpList Tryz.prog ops Q rest (a.put o.dst v') w'):wpList Tryz.prog ops Q (o::rest) a w:=by
 obtain⟨i0,hi,hz0,hz1,hz2⟩:=info_parts ao;have e:bytesV (z++y)=bytesV z++bytesV y:=by simp[bytesV]
 rw[e]at h;subst hm;cases ad with
 |none=>
  have h0:=hrow.nil rfl;have hle:=hrow.le;simp only[bytesV_length]at hle;obtain rfl:y=[]:=List.eq_nil_of_length_eq_zero qO;subst h0;refine wpList_append_own_none hgd s x 22 ho base 5 i0 1 Tryz.underlying22 hi v n (bytesV z) hs hown hx ?_;exact h v w (by simpa[bytesV]using hown) ⟨rfl,rfl,rfl,Nat.le_refl _,fun _ _ _=>rfl⟩
 |some ad=>
  refine wpList_append_own_wide w hgd s x 22 ho base 5 i0 (.int .u8 0) 1 1 Tryz.underlying22 hi hz0 hz1 hz2 rfl qD v n (bytesV z) hs hown ad y.length c (bytesV y) hx qS (hrow.adds ad rfl) (aG y) (by unfold maxLen;omega) qO hbase ?_;intro v' w' h1 h2 _;exact h v' w' h1 h2
theorem da{W:World}{n:Nat}{v:Value}{z:BL}{m:Nat}(h:W.ownsRow n 5 1 v m (bytesV z))(hm:m=z.length):RowV z v W:=by
 subst hm;obtain⟨hl,hx⟩:=h;rcases hx with ⟨rfl,h0⟩|⟨g,cap,cur,rfl,_,hh,h1,h2,hcur,htake⟩
 ·refine⟨none,0,by rw[h0],⟨by simp[h0],Nat.zero_le _,fun _=>rfl,fun h=>?_⟩⟩;simp[h0]at h
 ·exact⟨_,cap,rfl,Buf.row (ys:=z) ⟨hl,.inr ⟨g,cap,cur,rfl,Nat.zero_le _,hh,h1,h2,hcur,htake⟩⟩⟩
theorem own_below{w0 w w':World}{n:Nat}{v:Value}{xs:List Value}{m:Nat}(hb:Below w0.heap.size w0 w)(h:w.ownsRow w0.heap.size 5 1 v m xs)(hg:w.grownBy w' v.ownBlock):Below w0.heap.size w0 w':=
 hb.grown hg hb.size (fun k e=>Ua h k e)
theorem A6(p:BL)(o:Option Addr)(c:Nat)(w:World)(hP:RowIs w o (bytesV p) c)(hl:p.length<=1000000):
  Calls Tryz.prog 205 #[.slice o p.length c] w fun e w'=>∃x,e=.returned x/\w'.ownsRow w.heap.size 5 1 x (tr p).length (bytesV (tr p))/\Below w.heap.size w w':=by
 have HC:=Lh (dl o p c w hP);have htl:=iR p;clear hP;go_enter Tryz.func205,Tryz.ntmps205
 go_wp2_with fail;refine HC.out.mono ?_;rintro e w1 ⟨rfl,hb,hr⟩;have HB:=Lh hb;have HR:=Lh hr;have HOWN:Hid (w1.ownsRow w1.heap.size 5 1 (.slice none 0 0) 0 (bytesV [])):=Lh (World.ownsRow_nil _ _ _ _);clear hb hr HC;go_wp2_with (at_builtin;refine aL rfl (.const (.slice none 0 0)) (.tmp 4) rfl w1.heap.size _ 0 [] rfl HOWN.out o (tr p).length c (tr p) rfl rfl HR.out qO qN ?_)
 intro v' w' hv hg;have hb2:=own_below (n:=0) qB HOWN.out hg;have HV:=Lh (hv.mono HB.out.size);have HB2:=Lh (Ks HB.out hb2);clear hv hg hb2;go_wp2
 go_ret;exact⟨v',rfl,by simpa using HV.out,HB2.out⟩
theorem qp(p:BL)(o:Option Addr)(c:Nat)(w:World)(hP:RowIs w o (bytesV p) c)(hl:p.length<=1000000):
  Calls Tryz.prog 205 #[.slice o p.length c] w (Rows (tr p) w):=
 (A6 p o c w hP hl).mono fun e v ⟨x,h1,h2,h3⟩=>⟨x,h1,da h2 rfl,h3⟩
def tM(n:Nat):ByteArray:=⟨Array.replicate n 0⟩
theorem oq(n:Nat):(tM n).size=n:=by simp[tM,ByteArray.size]
theorem ue(n:Nat):Builtin.zeroCells #[.int .u8 0] n=(Lib.strCells (tM n)).toArray:=by
 apply Array.ext
 ·simp[Builtin.zeroCells,Lib.strCells,tM]
 ·intro i h1 h2;simp[Builtin.zeroCells,Lib.strCells,tM,Nat.mod_one]
theorem tN{P:Program}(w:World)(t tn u ty e:TypeId)(i:TypeInfo)(ht:P.underlying t=some (.slice e))(htn:P.underlying tn=some (.int .i64))(hu:P.underlying u=some .string)(hi:P.info? e=some i)(hz:i.zero=some (.int .u8 0))
  (hsize:i.size=1) (hby:i.bytes=1) (b:Option Addr) (len cap n:Nat) (h0:0<n) (hn:n<=1000000) (hl:len<=10000000):
  (Builtin.append_ #[t,tn] ty #[.slice b len cap,.int .i64 n]).run P w=(Builtin.append_ #[t,u] ty #[.slice b len cap,.string (tM n)]).run P w:=by
 have hw:IntKind.i64.wrap (n:Int)=n:=by rw[IntKind.wrap_i64];omega
 have hneg:¬((n:Int)<0):=qO;have h48i:¬(281474976710656<(n:Int)):=qO;have hne:n≠0:=qO;have h63:¬(9223372036854775807<(len:Int)+(n:Int)):=qO;have hzs:=oq n;have hf:∀v:World,Sem.run P (Builtin.firstCells 1 n (.string (tM n))) v=.ok (Lib.strCells (tM n)).toArray v:=fun v=>by
  have:=Lib.run_firstCells_string (P:=P) v 1 (tM n);rwa[hzs]at this
 by_cases hr:len+n<=cap
 ·simp[Builtin.append_,run_underlying ht,run_underlying htn,run_underlying hu,sizeOf,typeInfo,zeroValue,hi,hz,hsize,hby,asInt,asIntOf,hw,hneg,h48i,hne,Builtin.lenOf,hzs,hr,Value.cells,ue,hf]
 ·have hns:¬(281474976710656<Builtin.nextslicecap (len+n) cap):=by
   have:=growslice_fits (need:=len+n) (old:=cap) (bytes:=1) qO qO;omega
  simp[Builtin.append_,run_underlying ht,run_underlying htn,run_underlying hu,sizeOf,typeInfo,zeroValue,hi,hz,hsize,hby,asInt,asIntOf,hw,hneg,h48i,hne,Builtin.lenOf,hzs,hr,hns,h63,Value.cells,ue,hf]
theorem qs{ops:Array Oper}{rest:List Oper}{o:Oper}{a:Act}{Q:Exit->Act->World->Prop}{w:World}(hgd:o.guard=none)(s x:Operand)
  (ho:o.op=.call {callee:=.builtin .append,args:=#[s,x],argTypes:=#[22,3]})
  (base:Nat) (v:Value) (m:Nat) (z:BL) (hs:a.eval s=v) (hown:w.ownsRow base 5 1 v m (bytesV z)) (n:Nat) (h0:0<n) (hx:a.eval x=.int .i64 n) (hn:n<=1000000) (hl:m<=10000000) (hbase:base<=w.heap.size)
  (h:∀v' w',w'.ownsRow base 5 1 v' (m+n) (bytesV (z++List.replicate n 0))->w.grownBy w' v.ownBlock->wpList Tryz.prog ops Q rest (a.put o.dst v') w'):wpList Tryz.prog ops Q (o::rest) a w:=by
 obtain⟨i0,hi,hz0,hz1,hz2⟩:=info_parts ao;have e:bytesV (z++List.replicate n 0)=bytesV z++Lib.strCells (tM n):=by
  simp[bytesV,Lib.strCells,tM]
 rw[e]at h;obtain⟨v',w',hr,h2,h3,h4⟩:=Lib.run_append_own_string (P:= Tryz.prog) w base 22 9 o.type 5 i0 Tryz.underlying22 Tryz.underlying9 hi hz0 hz1 hz2 v m (bytesV z) hown (tM n) (by rw[oq];unfold maxLen;omega) (by rw[oq];omega) hbase;rw[oq]at h2;obtain⟨b,l,cap,rfl⟩:∃b l cap,v=.slice b l cap:=by
  rcases hown.2 with ⟨rfl,_⟩|⟨g,cap,cur,rfl,_⟩
  ·exact⟨_,_,_,rfl⟩
  ·exact⟨_,_,_,rfl⟩
 have hlm:l=m:=by
  rcases hown.2 with ⟨e1,e2⟩|⟨g,cap2,cur,e1,_⟩
  ·cases e1;exact e2.symm
  ·cases e1;rfl
 subst hlm;refine Lib.wpList_append_run w hgd s x _ _ ho _ _ hs hx v' w' ?_ (h v' w' h2 h3);rw[tN w 22 3 9 o.type 5 i0 Tryz.underlying22 Tryz.underlying3 Tryz.underlying9 hi hz0 hz1 hz2 b l cap n h0 hn hl];exact hr
def slk(p:BL)(k:Nat):BL:=tab (fun j=>if j % 2=0/\j<2*k then co p (j+1)else 0) p.length
theorem Lo(p:BL):slk p 0=List.replicate p.length 0:=by
 refine aN (by simp[slk]) fun i hi=>?_
 rw[cw,slk,aT _ _ _ (by simpa[slk]using hi),if_neg qO]
theorem Lp(p:BL)(k:Nat)(hk:2*k<p.length):(slk p k).set (2*k) (co p (2*k+1))=slk p (k+1):=by
 refine aN (by simp[slk]) fun i hi=>?_
 have hi2:i<p.length:=by simpa[slk]using hi
 rw[cj,slk,slk,aT _ _ _ hi2,aT _ _ _ hi2];by_cases e:2*k=i
 ·rw[if_pos ⟨e,by simpa using hk⟩,if_pos ⟨qO,qO⟩,e]
 ·rw[if_neg (fun h=>e h.1)];by_cases h:i % 2=0/\i<2*k
  ·rw[if_pos h,if_pos ⟨h.1,qO⟩]
  ·rw[if_neg h,if_neg (fun g=>h ⟨g.1,qO⟩)]
theorem QM(p:BL)(k:Nat)(hk:p.length<=2*k+1):slk p k=dK p:=by
 refine aN (by simp[slk,dK]) fun i hi=>?_
 have hi2:i<p.length:=by simpa[slk]using hi
 rw[lL,slk,aT _ _ _ hi2];unfold Gf.pd;by_cases h:i % 2=0
 ·rw[if_pos h];by_cases h2:i<2*k
  ·rw[if_pos ⟨h,h2⟩]
  ·rw[if_neg (fun g=>h2 g.2),aZ qO]
 ·rw[if_neg h,if_neg (fun g=>h g.1)]
def Z6(p:BL)(w1:World)(g:Nat)(i:Value)(wr:World):Prop:=
 ∃k:Nat,2*k<=p.length+1/\i=.int .i64 (2*(k:Int)+1)/\Buf wr g p.length (slk p k)/\Only g w1 wr
theorem IQ(p:BL)(o:Option Addr)(c:Nat)(w:World)(hP:RowIs w o (bytesV p) c)(hl1:p.length<=1000000):
  Calls Tryz.prog 210 #[.slice o p.length c] w fun e w'=>∃g cap,e=.returned (.slice (some ⟨g,0,none⟩) (tr (dK p)).length cap)/\w.heap.size<=g/\Below w.heap.size w w'/\RowIs w' (some ⟨g,0,none⟩) (bytesV (tr (dK p))) cap:=by
 obtain⟨i0,hi,hz0,hz1,hz2⟩:=info_parts ao;have h1:=hP.le;have h2:=hP.cap;simp only[bytesV_length]at h1;unfold maxLen at h2;have HP:=Lh hP;have HAP:=Lh (hP.apart (g:=w.heap.size) qN);clear hP;go_enter Tryz.func210,Tryz.ntmps210
 go_wp2_with (at_make;refine wpList_make_full _ rfl _ _ 22 rfl 0 5 i0 (.int .u8 0) 1 Tryz.underlying22 hi hz0 hz1 _ _ _ _ p.length rfl rfl qO qO (by rw[hz2];omega) (by unfold maxLen;omega) (Nat.zero_le _) ?_)
 intro w1 hown hgrow;have hb1:Below w.heap.size w w1:=qB.grown hgrow qN (fun k h=>by cases h);have hbuf:Buf w1 w.heap.size p.length (slk p 0):=by rw[Lo];exact bK hown
 have hP1:=HP.out.later hb1;have HB1:=Lh hb1;have HBUF:=Lh hbuf;have HP1:=Lh hP1;clear hown hgrow hb1 hbuf hP1;go_wp2_with fail;go_loopw [4] (fun i wr=>Z6 p w1 w.heap.size i wr) (fun i _=>p.length-(intOf i).toNat)
 case atStart=>exact⟨0,qO,rfl,HBUF.out,Only.refl _ _⟩
 case round=>
  obtain⟨k,hk,rfl,hb,ho⟩:=hrel;by_cases hlt:2*k+1<p.length
  ·obtain⟨b1,off1,rfl,hb1,hcell⟩:=(ho.row HP1.out HAP.out).cells (by simp;omega);obtain⟨i,hi2⟩:∃i,i=2*k+1:=⟨_,rfl⟩;have hii:2*(k:Int)+1=(i:Int):=qO;have hil:i<p.length:=qO;have hi0:1<=i:=qO;have hc1:wr.cell? ⟨b1,off1+i,none⟩=some (.int .u8 ((co p i).toNat:Int)):=hcell i _ (aB p i hil);have hc2:=hb.cell (i-1) (by simp[slk];omega);have hf2:=hb.frozen (i-1);have hst:=hb.store (i-1) (co p i);rw[show(slk p k).set (i-1) (co p i)=slk p (k+1) by rw[<-Lp p k qO,hi2];rfl]at hst;generalize co (slk p k) (i-1)=s at*;generalize co p i=x at*;have hx:=UInt8.toNat_lt x;have HS:=Lh hst;have HO:=Lh ho;have HI:=Lh hii;have hn1:(0:Int)<=(i:Int)-1:=qO;have hn2:((i:Int)-1).toNat=i-1:=qO;have hsl:(slk p k).length=p.length:=by simp[slk]
   rw[hii];clear hcell hb ho hst hii hi2;go_wp2_with fail;go_roundw
   case rel=>
    have:=HI.out;exact⟨k+1,qO,by go_num,HS.out.1,HO.out.trans HS.out.2⟩
   case measure=>simp[intOf];omega
  ·have HE:=Lh (QM p k qO);have hsl:(slk p k).length=p.length:=by simp[slk]
   have hcut:=dl _ _ _ wr hb.row;rw[hsl,HE.out]at hcut;have HCUT:=Lh hcut;have HBW:Hid (Below w.heap.size w wr):=Lh (HB1.out.trans (ho.below qN HB1.out.size));clear hcut hb ho hsl;go_wp2_with fail;refine HCUT.out.mono ?_;rintro e w3 ⟨rfl,hb3,hr3⟩;have HB3:=Lh (Ks HBW.out hb3);have HR3:=Lh hr3;clear hb3 hr3 HCUT;go_wp2_with fail;go_ret;exact⟨w.heap.size,p.length,rfl,Nat.le_refl _,HB3.out,HR3.out⟩
theorem Lq{p:BL}{x:Value}{v:World}(hp:RowV p x v)(hl:p.length<=1000000):Calls Tryz.prog 210 #[x] v (Rows (tr (dK p)) v):=by
 obtain⟨o,c,rfl,hp⟩:=hp;exact(IQ p o c v hp hl).mono fun e w ⟨g,cap,h1,h2,h3,h4⟩=>⟨_,h1,⟨_,_,rfl,h4⟩,h3⟩
theorem dQ{o:Oper}{a:Act}{w:World}{K:Act->World->Prop}{Q:Exit->Act->World->Prop}(s x:Operand)
  (ho:o.op=.call {callee:=.builtin .append,args:=#[s,x],argTypes:=#[22,22]})
  (base:Nat) (v:Value) (n:Nat) (z:BL) (hs:a.eval s=v) (hown:w.ownsRow base 5 1 v n (bytesV z))
  (ad:Option Addr) (m c:Nat) (y:BL) (hx:a.eval x=.slice ad m c) (hm:m=y.length) (hrow:RowIs w ad (bytesV y) c) (hl:n+m<=10000000) (hbase:base<=w.heap.size)
  (h:∀v' w',w'.ownsRow base 5 1 v' (n+m) (bytesV (z++y))->w.grownBy w' v.ownBlock->K (a.put o.dst v') w'):o.wp Tryz.prog a w K Q:=by
 obtain⟨i0,hi,hz0,hz1,hz2⟩:=info_parts ao;have e:bytesV (z++y)=bytesV z++bytesV y:=by simp[bytesV]
 rw[e]at h;subst hm;cases ad with
 |none=>
  have h0:=hrow.nil rfl;have hle:=hrow.le;simp only[bytesV_length]at hle;obtain rfl:y=[]:=List.eq_nil_of_length_eq_zero qO;subst h0;have hrun:=run_append_owned_none (P:= Tryz.prog) (w:=w) base 22 o.type 5 i0 1 Tryz.underlying22 hi v n (bytesV z) hown;unfold Oper.wp;simp[execOp,ho,resolve,invoke,builtin,hs,hx,hrun,Result.andThen];exact h v w (by simpa[bytesV]using hown) ⟨rfl,rfl,rfl,Nat.le_refl _,fun _ _ _=>rfl⟩
 |some ad=>
  refine wp_append_own_wide w s x 22 ho base 5 i0 (.int .u8 0) 1 1 Tryz.underlying22 hi hz0 hz1 hz2 rfl qD v n (bytesV z) hs hown ad y.length c (bytesV y) hx qS (hrow.adds ad rfl) (aG y) (by unfold maxLen;omega) qO hbase ?_;intro v' w' h1 h2 _;exact h v' w' h1 h2
def cf(p q:BL)(k:Nat):UInt8:=Gf.sm (fun i=>Gf.gm (co p i) (co q (k-i))) (k+1)
theorem DO{W W':World}{n:Nat}{v:Value}{xs:List Value}{m:Nat}(h:W.ownsRow n 5 1 v m xs)(hd:Kit.Dn W W'):W'.ownsRow n 5 1 v m xs:=by
 obtain⟨k,rfl⟩:=hd;exact h
def zl(p:BL):Nat->BL
 |0=>[]
 |k+1=>if evL p (UInt8.ofNat k)=0 then zl p k++[UInt8.ofNat k]else zl p k
theorem xY(p:BL)(k:Nat):(zl p k).length<=k:=by
 induction k with
 |zero=>exact Nat.le_refl _
 |succ k ih=>
  rw[zl];split
  ·simp;omega
  ·omega
def Zd(p:BL)(w:World)(T:Nat)(C:Array Value)(v kv:Value)(wr:World):Prop:=
 ∃k:Nat,k<=256/\kv=.int .i64 k/\wr.ownsRow w.heap.size 5 1 v (zl p k).length (bytesV (zl p k))/\Below w.heap.size w wr/\TabAt wr T C
theorem IT(p:BL)(o:Option Addr)(c:Nat)(w:World)(hP:RowIs w o (bytesV p) c):
  Calls Tryz.prog 207 #[.slice o p.length c] w (Rows (zl p 256) w):=by
 have HP:=Lh hP;clear hP;go_enter Tryz.func207,Tryz.ntmps207
 go_wp2_with fail;refine(jE _).mono ?_;rintro e w1 ⟨n,C,hC,rfl,hw1⟩;have hT1:TabAt w1 w.heap.size C:=by rw[hw1];exact TabAt.made hC
 have hb1:Below w.heap.size w w1:=by rw[hw1];exact fL
 have HB1:=Lh hb1;have HT1:=Lh hT1;have HP1:=Lh (HP.out.later hb1);clear hC hT1 hb1 hw1;go_wp2_with fail;go_loopw [3,5,7] (fun v _ kv wr=>Zd p w1 w.heap.size C v kv wr) (fun _ _ kv _=>256-(intOf kv).toNat)
 case atStart=>exact⟨0,qO,rfl,World.ownsRow_nil _ _ _ _,Below.refl _ _,HT1.out⟩
 case round=>
  obtain⟨k,hk,rfl,hv,hb,ht⟩:=hrel;have HV:=Lh hv;have HB:=Lh hb;have HT:=Lh ht;by_cases hlt:k<256
  ·obtain⟨x,hx⟩:=qM (UInt8.ofNat k);have hxk:x.toNat=k:=by rw[<-hx,UInt8.toNat_ofNat'];omega
   have hval:=xW p x w.heap.size C o c wr (HP1.out.later hb) ht;rw[hxk]at hval;have HVAL:=Lh hval;have hm1:(k:Int) % 256=(k:Int):=qO;have hzl:=xY p k;have HZ:Hid (zl p (k+1)=if evL p x=0 then zl p k++[x]else zl p k):=Lh (by rw[<-hx];rfl);have HXK:=Lh hxk;clear hval hv hb ht hx hxk;generalize evL p x=y at*;have hyl:=UInt8.toNat_lt y;by_cases h0:y=0
   ·subst h0;have hz0:Hid (zl p (k+1)=zl p k++[x]):=Lh (by rw[HZ.out,if_pos rfl]);go_wp2_with fail;refine HVAL.out.mono ?_;rintro e w2 ⟨rfl,hd⟩;have hbd:=(Ks HB.out hd.below);have HCE:Hid ((.cells #[.int .u8 (k:Int)] 5:Obj)=.cells (bytesV [x]).toArray 5):=Lh (by
     have:=HXK.out;simp[bytesV,this])
    have HV2:=Lh ((DO HV.out hd).alloc (.cells #[.int .u8 (k:Int)] 5));have HB2:=Lh (hbd.alloc hbd.size (.cells #[.int .u8 (k:Int)] 5));have HT2:=Lh ((HT.out.later hd.below).later ((Below.refl w2.heap.size w2).alloc qN (.cells #[.int .u8 (k:Int)] 5)));have HROW:Hid (RowIs (w2.alloc (.cells #[.int .u8 (k:Int)] 5)) (some ⟨w2.heap.size,0,none⟩) (bytesV [x]) 1):=Lh (by
     rw[HCE.out];exact bp (World.alloc_heap_new _ _) (by unfold maxLen;simp))
    clear hd hbd;go_wp2_with (at_builtin;refine aL rfl (.tmp 16) (.tmp 19) rfl w1.heap.size _ (zl p k).length (zl p k) rfl HV2.out _ 1 1 [x] rfl rfl HROW.out qO HB2.out.size ?_)
    intro v' w3 hv hg;have hb3:=own_below (n:=0) HB2.out HV2.out hg;have hlt2:w.heap.size<w1.heap.size:=(aE.1 HT1.out.block).1;have ht3:TabAt w3 w.heap.size C:=⟨by rw[hb3.block _ hlt2];exact HT1.out.block,HT1.out.tab⟩;have hv3:w3.ownsRow w1.heap.size 5 1 v' (zl p (k+1)).length (bytesV (zl p (k+1))):=by
     rw[hz0.out];simpa using hv
    have HV3:=Lh hv3;have HB3:=Lh hb3;have HT3:=Lh ht3;clear hv hg hb3 hlt2 ht3 hv3;go_wp2
    go_roundw
    case rel=>exact⟨k+1,qO,by go_num,HV3.out,HB3.out,HT3.out⟩
    case measure=>simp[intOf];omega
   ·have h00:¬y.toNat=0:=fun e=>h0 (Gf.bR e)
    have hy1:((y.toNat:Int)==0)=false:=by simpa using h00
    have hz0:Hid (zl p (k+1)=zl p k):=Lh (by rw[HZ.out,if_neg h0]);go_wp2_with fail;refine HVAL.out.mono ?_;rintro e w2 ⟨rfl,hd⟩;have HD:=Lh hd;clear hd;go_wp2_with fail;go_roundw
    case rel=>exact⟨k+1,qO,by go_num,by rw[hz0.out];exact DO HV.out HD.out,Ks HB.out HD.out.below,HT.out.later HD.out.below⟩
    case measure=>simp[intOf];omega
  ·obtain rfl:k=256:=qO;have hr:=da hv rfl;have HR:=Lh hr;clear hv hb ht hr;go_wp2_with fail;go_ret;exact⟨_,rfl,HR.out,Ks HB1.out HB.out⟩
def nx(G:BL)(r:UInt8):BL:=tab (fun m=>Gf.gm (co G m) r^^^(if m=0 then 0 else co G (m-1))) (G.length+1)
def bZ:Nat->BL
 |0=>[1]
 |k+1=>nx (bZ k) (Gf.al k)
theorem br(k:Nat):(bZ k).length=k+1:=by
 induction k with
 |zero=>rfl
 |succ k ih=>simp[bZ,nx,ih]
theorem GB(G:BL)(r:UInt8)(m:Nat):co (nx G r) m=Gf.gm (co G m) r^^^(if m=0 then 0 else co G (m-1)):=
 kM _ _ _ fun j hj=>by
  rw[aZ qO,Gf.aK,if_neg qO,aZ qO];rfl
theorem XK(G:BL)(r x:UInt8):evL (nx G r) x=Gf.gm (evL G x) (r^^^x):=by
 have h:∀m,co (nx G r) m=Gf.gm (co G m) r^^^Gf.ps 1 (co G) m:=fun m=>by
  rw[GB];unfold Gf.ps;congr 1
  by_cases e:m=0
  ·rw[if_pos e,if_neg qO]
  ·rw[if_neg e,if_pos qO]
 have hl:(nx G r).length=G.length+1:=by simp[nx]
 unfold evL;rw[hl,Gf.jD (fun i _=>h i),Gf.uQ];rw[Nat.add_comm G.length 1,Gf.L0,Gf.fj,Gf.jD (g:=fun i=>Gf.gm r (co G i)) (fun i _=>Gf.aX _ _),Gf.Fh];rw[Gf.fA (n:=G.length) (m:=1+G.length) qO (fun i hi=>aZ hi),Gf.aX r,show Gf.px x 1=x by show Gf.gm 1 x=x;exact Gf.iX x,Gf.aX x]
theorem A7(k j:Nat)(h:j<k):evL (bZ k) (Gf.al j)=0:=by
 induction k with
 |zero=>omega
 |succ k ih=>
  rw[bZ,XK];by_cases e:j=k
  ·rw[e,UInt8.xor_self,Gf.aO]
  ·rw[ih qO,Gf.aK]
theorem yo(k:Nat):co (bZ k) k=1:=by
 induction k with
 |zero=>rfl
 |succ k ih=>rw[bZ,GB,aZ (by rw[br];omega),Gf.aK,if_neg qO,Nat.add_sub_cancel,ih];rfl
def pj(G:BL)(r:UInt8)(i:Nat):BL:=tab (fun m=>(if m<i then Gf.gm (co G m) r else 0)^^^(if 1<=m/\m<=i then co G (m-1)else 0)) (G.length+1)
@[simp] theorem Tc(G:BL)(r:UInt8)(i:Nat):(pj G r i).length=G.length+1:=by simp[pj]
def mH(R G:BL)(i:Nat)(y:UInt8)(k:Nat):BL:=tab (fun m=>co R m^^^(if i<=m/\m<i+k then Gf.gm y (co G (32-(m-i)))else 0)) R.length
@[simp] theorem Td(R G:BL)(i:Nat)(y:UInt8)(k:Nat):(mH R G i y k).length=R.length:=by simp[mH]
theorem kO(R G:BL)(i:Nat)(y:UInt8)(k m:Nat)(h:m<R.length):co (mH R G i y k) m=co R m^^^(if i<=m/\m<i+k then Gf.gm y (co G (32-(m-i)))else 0):=aT _ _ _ h
theorem nX(a b:BL)(m:Nat):co (a++b) m=if m<a.length then co a m else co b (m-a.length):=by
 simp only[co,List.getD_eq_getElem?_getD];by_cases h:m<a.length
 ·rw[if_pos h,List.getElem?_append_left h]
 ·rw[if_neg h,List.getElem?_append_right qO]
theorem QN(a b:BL)(h:a.length=b.length)(m:Nat):co (Gf.bV a b) m=co a m^^^co b m:=by
 by_cases hm:m<a.length
 ·simp[co,Gf.bV,List.getD_eq_getElem?_getD,List.getElem?_zipWith,hm,show m<b.length by omega]
 ·rw[aZ (by simp[Gf.bV];omega),aZ qO,aZ qO];rfl
theorem ug(n m:Nat):co (List.replicate n 0) m=0:=by
 simp only[co,List.getD_eq_getElem?_getD,List.getElem?_replicate];split<;>rfl
theorem Uc(y:UInt8)(a:BL)(m:Nat):co (a.map (Gf.gm y)) m=Gf.gm y (co a m):=by
 by_cases hm:m<a.length
 ·simp[co,List.getD_eq_getElem?_getD,hm]
 ·rw[aZ (by simpa using hm),aZ qO,Gf.aO]
theorem Ud(a:BL)(m:Nat)(h:m<a.length):co a.reverse m=co a (a.length-1-m):=by
 simp[co,List.getD_eq_getElem?_getD,h,List.getElem?_reverse,show a.length-1-m<a.length by omega]
theorem QO(R G:BL)(i:Nat)(y x:UInt8)(hG:G.length=33)(h:i+33<=R.length)(hx:evL G x=0):Gf.hv x (mH R G i y 33)=Gf.hv x R:=by
 have hl:R.length=(List.replicate i 0++(G.reverse.map (Gf.gm y)++List.replicate (R.length-i-33) 0)).length:=by simp[hG];omega
 have e:mH R G i y 33=Gf.bV R (List.replicate i 0++(G.reverse.map (Gf.gm y)++List.replicate (R.length-i-33) 0)):=by
  refine aN (by simp[Gf.bV,hG];omega) fun m hm=>?_
  simp at hm;rw[kO _ _ _ _ _ _ hm,QN _ _ hl];congr 1
  rw[nX];simp only[List.length_replicate];by_cases e1:m<i
  ·rw[if_pos e1,if_neg qO,ug]
  ·rw[if_neg e1,nX];simp only[List.length_map,List.length_reverse,hG];by_cases e2:m-i<33
   ·rw[if_pos e2,if_pos qO,Uc,Ud _ _ qO,hG]
   ·rw[if_neg e2,if_neg qO,ug]
 rw[e,Gf.uV _ _ _ hl,Gf.uT,Gf.qd,Gf.aK,Gf.uT,Gf.uU,uY,hx,Gf.aO,Gf.aK,Gf.qd];simp
structure PR(d R:BL)(i:Nat):Prop where
 len:R.length=d.length+32
 same:∀j,j<32->Gf.hv (Gf.al j) R=Gf.hv (Gf.al j) (d++List.replicate 32 0)
 low:∀m,m<i->co R m=0
theorem PR.step{d R:BL}{i:Nat}(h:PR d R i)(hi:i<d.length):PR d (mH R (bZ 32) i (co R i) 33) (i+1):=by
 have hl:=h.len;refine⟨by simpa using hl,fun j hj=>?_,fun m hm=>?_⟩
 ·rw[QO _ _ _ _ _ (br 32) qO (A7 32 j hj)];exact h.same j hj
 ·rw[kO _ _ _ _ _ _ qO];by_cases e:m=i
  ·subst e;rw[if_pos qO,Nat.sub_self,Nat.sub_zero,yo 32,Gf.cd,UInt8.xor_self]
  ·rw[if_neg qO,h.low m qO];rfl
theorem PR.done{d R:BL}(h:PR d R d.length):(R.drop d.length).length=32/\IsCode (d++R.drop d.length):=by
 have hl:=h.len;have hr:(R.drop d.length).length=32:=by simp;omega
 refine⟨hr,fun j hj=>?_⟩;have e:R=List.replicate d.length 0++R.drop d.length:=by
  refine aN (by simp;omega) fun m hm=>?_
  rw[nX];simp only[List.length_replicate];by_cases e1:m<d.length
  ·rw[if_pos e1,ug,h.low m e1]
  ·rw[if_neg e1];simp[co,List.getD_eq_getElem?_getD,show d.length+(m-d.length)=m by omega]
 have h1:=h.same j hj;rw[e,Gf.uT,Gf.qd,Gf.aK,UInt8.zero_xor,Gf.uT,Gf.qd,UInt8.xor_zero,List.length_replicate]at h1;rw[Gf.uT,hr,h1,UInt8.xor_self]
theorem Buf.drop{W:World}{g cap:Nat}{ys:BL}(h:Buf W g cap ys)(n:Nat)(hn:n<=ys.length):RowIs W (some ⟨g,n,none⟩) (bytesV (ys.drop n)) (cap-n):=
 ⟨by have:=h.le;simp;omega,by have:=h.le;omega,fun h=>(by cases h),fun h0=>⟨g,n,rfl,h.lt,fun i v hv=>by
  have hi:i<(ys.drop n).length:=by
   have:=(List.getElem?_eq_some_iff.1 hv).1;simpa using this
  simp at hi;have h1:=h.cell (n+i) qO;have h2:=aB (ys.drop n) i (by simp;omega);rw[h2]at hv;rw[h1,<-hv];simp[co,List.getD_eq_getElem?_getD]⟩⟩
theorem PR.start(d:BL):PR d (d++List.replicate 32 0) 0:=⟨qS,fun _ _=>rfl,fun m h=>absurd h qO⟩
def a7(z:BL):BL:=tab (fun j=>Gf.hv (Gf.al j) z) 32
@[simp] theorem Te(z:BL):(a7 z).length=32:=by simp[a7]
def bL:BL:=List.replicate 32 0
theorem qu(w:World):Sem.run Tryz.prog (zeroValue 28) w=.ok (.agg (bytesV bL).toArray) w:=qK
theorem one_cell(ys:BL):(bytesV ys).toArray.all (·.oneCell')=true:=by
 rw[Array.all_eq_true_iff_forall_mem];intro x hx;simp only[bytesV,List.mem_toArray,List.mem_map]at hx;obtain⟨b,_,rfl⟩:=hx;rfl
theorem ru(z:BL)(k:Nat)(h:k<z.length):z.take (k+1)=z.take k++[co z k]:=by
 rw[List.take_add_one,List.getElem?_eq_getElem h];simp[co,h]
theorem below_setRow{n g:Nat}{w:World}{cs:Array Value}(h:n<=g):Below n w (w.setRow g cs):=
 ⟨rfl,rfl,rfl,by simp[World.setRow],fun k hk=>setRow_other w g k cs qO⟩
theorem rx(ys:BL)(i:Nat)(b:UInt8):(bytesV ys).toArray.setIfInBounds i (.int .u8 (b.toNat:Int))=(bytesV (ys.set i b)).toArray:=by
 rw[<-ud];simp
theorem A9{a b:World}(h:Kit.Dn a b)(k:Nat):b.heap[k]? =a.heap[k]? :=by
 obtain⟨n,rfl⟩:=h;rfl
def nbk(s:Nat):Nat:=if s=0 then 1 else(s+7) / 8
theorem fE(s:Nat):1<=nbk s:=by unfold nbk;split<;>omega
theorem pn(s:Nat):s<=8*nbk s:=by unfold nbk;split<;>omega
theorem eM(s:Nat)(h:s<=2000):nbk s<=250:=by unfold nbk;split<;>omega
def jN(f:BL):BL:=f++List.replicate (8*nbk f.length-f.length) 0
@[simp] theorem nZ(f:BL):(jN f).length=8*nbk f.length:=by
 have:=pn f.length;simp[jN];omega
def n0(n:Nat):List Nat:=if 223<n then[223,n-223]else[n]
def shp(s:Nat):List Nat:=n0 (nbk s)
def bc(l:List Nat):Nat:=l.foldr (·+·) 0
@[simp] theorem XN:bc []=0:=rfl
@[simp] theorem WP(a:Nat)(l:List Nat):bc (a::l)=a+bc l:=rfl
theorem nf(a b:List Nat):bc (a++b)=bc a+bc b:=by
 induction a with
 |nil=>simp
 |cons x a ih=>simp[ih];omega
theorem Ab(n:Nat):bc (n0 n)=n:=by unfold n0;split<;>simp<;>omega
theorem GC(n:Nat):1<=(n0 n).length/\(n0 n).length<=2:=by unfold n0;split<;>simp
theorem jF(n:Nat)(h1:1<=n)(h2:n<=250):∀k∈n0 n,1<=k/\k<=223:=by
 unfold n0;intro k hk;split at hk
 ·simp at hk;omega
 ·simp at hk;omega
def atG(l:List Nat)(g:Nat):Nat:=bc (l.take g)+32*g
def szG(l:List Nat)(g:Nat):Nat:=l.getD g 0
theorem ry(l:List Nat)(g:Nat)(h:g<l.length):bc (l.take (g+1))=bc (l.take g)+szG l g:=by
 have e:l.take (g+1)=l.take g++[szG l g]:=by
  rw[List.take_add_one,List.getElem?_eq_getElem h];simp[szG,List.getD_eq_getElem?_getD,List.getElem?_eq_getElem h]
 rw[e,nf];simp
theorem eN(l:List Nat)(g:Nat)(h:g<l.length):atG l (g+1)=atG l g+(szG l g+32):=by
 unfold atG;rw[ry l g h];omega
theorem iF(l:List Nat):atG l 0=0:=by simp[atG]
theorem i6(l:List Nat)(g:Nat)(h:g<l.length):atG l g+(szG l g+32)<=bc l+32*l.length:=by
 have h1:=eN l g h;have h2:bc (l.take (g+1))<=bc l:=by
  have:=nf (l.take (g+1)) (l.drop (g+1));rw[List.take_append_drop]at this;omega
 have h3:atG l (g+1)=bc (l.take (g+1))+32*(g+1):=rfl;omega
def QR(d:BL):Nat->BL
 |0=>d++List.replicate 32 0
 |i+1=>mH (QR d i) (bZ 32) i (co (QR d i) i) 33
theorem QS(d:BL)(i:Nat)(h:i<=d.length):PR d (QR d i) i:=by
 induction i with
 |zero=>exact PR.start d
 |succ i ih=>exact(ih qO).step qO
def jk(d:BL):BL:=(QR d d.length).drop d.length
theorem rz(d:BL):(jk d).length=32/\IsCode (d++jk d):=(QS d d.length qN).done
@[simp] theorem sk(d:BL):(jk d).length=32:=(rz d).1
theorem xa{d r:BL}(h:IsCode (d++r))(hr:r.length=32)(hn:d.length<=223):r=jk d:=h.only (rz d).2 hr (sk d) hn
def blk(p:BL)(i:Nat):BL:=tab (fun j=>co p (8*i+j)) 8
@[simp] theorem eA(p:BL)(i:Nat):(blk p i).length=8:=by simp[blk]
theorem uh(p:BL)(i j:Nat)(h:j<8):co (blk p i) j=co p (8*i+j):=aT _ _ _ h
def bi(bs:L8)(i:Nat):BL:=bs.getD i []
theorem ui(a b:L8)(i:Nat):bi (a++b) i=if i<a.length then bi a i else bi b (i-a.length):=by
 unfold bi;by_cases h:i<a.length
 ·rw[if_pos h,List.getD_eq_getElem?_getD,List.getD_eq_getElem?_getD,List.getElem?_append_left h]
 ·rw[if_neg h,List.getD_eq_getElem?_getD,List.getD_eq_getElem?_getD,List.getElem?_append_right qO]
theorem kt(f:Nat->BL)(n i:Nat)(h:i<n):bi ((List.range n).map f) i=f i:=by
 simp[bi,List.getD_eq_getElem?_getD,h]
theorem tW(a:L8)(n i:Nat)(h:i<n):bi (a.take n) i=bi a i:=by
 unfold bi;rw[List.getD_eq_getElem?_getD,List.getD_eq_getElem?_getD,List.getElem?_take_of_lt h]
theorem GD(a:L8)(n i:Nat):bi (a.drop n) i=bi a (n+i):=by
 simp[bi,List.getD_eq_getElem?_getD]
theorem Uf{a b:L8}(hl:a.length=b.length)(h:∀i,i<a.length->bi a i=bi b i):a=b:=by
 apply List.ext_getElem hl;intro i h1 h2;have:=h i h1;simpa[bi,List.getD_eq_getElem?_getD,h1,h2]using this
def po(b:BL)(j:Nat):UInt8:=if b.length=8 then co b j else 0
def bu(bs:L8)(j:Nat):BL:=bs.map fun b=>po b j
@[simp] theorem dm(bs:L8)(j:Nat):(bu bs j).length=bs.length:=by simp[bu]
theorem mJ(bs:L8)(j i:Nat)(h:i<bs.length):co (bu bs j) i=po (bi bs i) j:=by
 simp[co,bu,bi,List.getD_eq_getElem?_getD,h]
theorem Lu(a b:L8)(j:Nat):bu (a++b) j=bu a j++bu b j:=by simp[bu]
def dat(p:BL)(a k:Nat):L8:=(List.range k).map fun i=>blk p (a+i)
@[simp] theorem bh(p:BL)(a k:Nat):(dat p a k).length=k:=by simp[dat]
theorem uj(p:BL)(a k i:Nat)(h:i<k):bi (dat p a k) i=blk p (a+i):=kt _ _ _ h
theorem Ac(p:BL)(a k:Nat):dat p a (k+1)=dat p a k++[blk p (a+k)]:=by simp[dat,List.range_succ]
theorem QT(p:BL)(a k m:Nat):dat p a (k+m)=dat p a k++dat p (a+k) m:=by
 refine Uf qS fun i hi=>?_
 rw[bh]at hi;rw[uj _ _ _ _ hi,ui,bh];split
 ·rename_i h;rw[uj _ _ _ _ h]
 ·rename_i h;rw[uj _ _ _ _ qO];congr 1;omega
def nD(D:L8):L8:=(List.range 32).map fun i=>tab (fun j=>co (jk (bu D j)) i) 8
@[simp] theorem kP(D:L8):(nD D).length=32:=by simp[nD]
theorem GF(D:L8)(i:Nat)(h:i<32):bi (nD D) i=tab (fun j=>co (jk (bu D j)) i) 8:=kt _ _ _ h
def jl(p:BL)(a k:Nat):L8:=dat p a k++nD (dat p a k)
@[simp] theorem sq(p:BL)(a k:Nat):(jl p a k).length=k+32:=by simp[jl]
def eW(p:BL):Nat->List Nat->L8
 |_,[]=>[]
 |a,k::t=>jl p a k++eW p (a+k) t
theorem Ad(p:BL)(l m:List Nat)(a:Nat):eW p a (l++m)=eW p a l++eW p (a+bc l) m:=by
 induction l generalizing a with
 |nil=>simp[eW]
 |cons k l ih=>simp[eW,ih,List.append_assoc,Nat.add_assoc]
theorem xc(p:BL)(l:List Nat)(k a:Nat):eW p a (l++[k])=eW p a l++jl p (a+bc l) k:=by
 rw[Ad];simp[eW]
theorem jG(p:BL)(l:List Nat)(a:Nat):(eW p a l).length=bc l+32*l.length:=by
 induction l generalizing a with
 |nil=>simp[eW]
 |cons k l ih=>simp[eW,ih];omega
def fl(f:BL):L8:=eW (jN f) 0 (shp f.length)
def gi(n:Nat):Nat:=n+32*(n0 n).length
theorem kQ(f:BL):(fl f).length=gi (nbk f.length):=by
 unfold fl gi shp;rw[jG,Ab]
theorem yp(n:Nat)(h:n<=250):gi n<=314:=by
 have:=GC n;unfold gi;omega
theorem DR(p:BL)(a k:Nat):∀b∈jl p a k,b.length=8:=by
 intro b hb;rcases List.mem_append.1 hb with h|h
 ·obtain⟨i,_,rfl⟩:=List.mem_map.1 h;exact eA _ _
 ·obtain⟨i,_,rfl⟩:=List.mem_map.1 h;exact dU _ _
theorem DT(p:BL)(l:List Nat)(a:Nat):∀b∈eW p a l,b.length=8:=by
 induction l generalizing a with
 |nil=>intro b hb;cases hb
 |cons k l ih=>
  intro b hb;rcases List.mem_append.1 hb with h|h
  ·exact DR _ _ _ b h
  ·exact ih _ b h
theorem Lv(p:BL)(a k j:Nat)(hj:j<8):IsCode (bu (jl p a k) j)/\bu (jl p a k) j=bu (dat p a k) j++jk (bu (dat p a k) j):=by
 have e:bu (nD (dat p a k)) j=jk (bu (dat p a k) j):=by
  refine aN qS fun i hi=>?_
  have hi:i<32:=by simpa using hi
  rw[mJ _ _ _ (by simpa using hi),GF _ _ hi];unfold po;rw[if_pos (dU _ _),aT _ _ _ hj]
 have e2:bu (jl p a k) j=bu (dat p a k) j++jk (bu (dat p a k) j):=by
  unfold jl;rw[Lu,e]
 exact⟨by rw[e2];exact(rz _).2,e2⟩
theorem fX:(Tryz.prog.info? 22).map (fun i=>(i.zero,i.size,i.bytes))=some (some (.slice none 0 0),1,24):=qK
theorem RowIs.part{W:World}{b off:Nat}{vs:List Value}{c:Nat}(h:RowIs W (some ⟨b,off,none⟩) vs c)(k m:Nat)(hm:k+m<=vs.length)(c':Nat)(hc:m<=c')(hc2:c'<=maxLen):RowIs W (some ⟨b,off+k,none⟩) ((vs.drop k).take m) c':=
 ⟨by simp;omega,hc2,(fun e=>by cases e),fun h0=>by
  have h0:0<m:=by simp at h0;omega
  obtain⟨b',off',e,hlt,hcell⟩:=h.cells qO;cases e
  refine⟨b,off+k,rfl,hlt,fun i v hv=>?_⟩;have hi:i<m:=by
   have:=(List.getElem?_eq_some_iff.1 hv).1;simp at this;omega
  rw[List.getElem?_take_of_lt hi,List.getElem?_drop]at hv;rw[Nat.add_assoc];exact hcell _ _ hv⟩
theorem RowIs.empty{W:World}(o:Option Addr)(c:Nat)(hc:c<=maxLen)(h:o=none->c=0):RowIs W o [] c:=⟨qS,hc,h,fun h=>by simp at h⟩
theorem cV{T:TypeId}{W:World}{n:Nat}{v:Value}{xs:List Value}{m:Nat}(h:W.ownsRow n T 1 v m xs)(hm:m=xs.length):∃o c,v=.slice o m c/\RowIs W o xs c:=by
 subst hm;have h00:=h;obtain⟨hl,hx⟩:=h;rcases hx with ⟨rfl,h0⟩|⟨g,cap,cur,rfl,hg,hh,h1,h2,hcur,htake⟩
 ·exact⟨none,0,by rw[h0],⟨qO,Nat.zero_le _,fun _=>rfl,fun h=>qO⟩⟩
 ·exact⟨_,cap,rfl,⟨by simpa using h1,h2,(fun e=>by cases e),fun _=>⟨g,0,rfl,(aE.1 hh).1,fun i u hu=>by
   have hi:=(List.getElem?_eq_some_iff.1 hu).1;rw[Nat.zero_add,World.ownsRow.cellAt h00 i qO];exact hu⟩⟩⟩
structure Els(W:World)(bs:L8)(xs:List Value):Prop where
 len:xs.length=bs.length
 at_:∀i x,xs[i]? =some x->RowV (bi bs i) x W
theorem Els.later{W W':World}{bs:L8}{xs:List Value}(h:Els W bs xs)(hb:Below W.heap.size W W'):Els W' bs xs:=⟨h.len,fun i x hx=>(h.at_ i x hx).later hb⟩
theorem Els.nil(W:World):Els W [] []:=⟨rfl,fun i x hx=>by simp at hx⟩
theorem Els.app{W:World}{a b:L8}{xs ys:List Value}(h:Els W a xs)(k:Els W b ys):Els W (a++b) (xs++ys):=
 ⟨by simp[h.len,k.len],fun i x hx=>by
  rw[ui];have hl:=h.len;by_cases hi:i<a.length
  ·rw[if_pos hi];rw[List.getElem?_append_left qO]at hx;exact h.at_ i x hx
  ·rw[if_neg hi,<-hl];rw[List.getElem?_append_right qO]at hx;exact k.at_ _ x hx⟩
theorem Els.one{W:World}{b:BL}{x:Value}(h:RowV b x W):Els W [b] [x]:=
 ⟨rfl,fun i y hy=>by
  match i,hy with
  |0,hy=>simp at hy;subst hy;exact h
  |i+1,hy=>simp at hy⟩
theorem Els.part{W:World}{a:L8}{xs:List Value}(h:Els W a xs)(k m:Nat):Els W ((a.drop k).take m) ((xs.drop k).take m):=
 ⟨by simp[h.len],fun i x hx=>by
  have hi:i<m:=by
   have:=(List.getElem?_eq_some_iff.1 hx).1;simp at this;omega
  rw[List.getElem?_take_of_lt hi,List.getElem?_drop]at hx;rw[tW _ _ _ hi,GD];exact h.at_ _ x hx⟩
theorem Els.ones{W:World}{a:L8}{xs:List Value}(h:Els W a xs):∀u∈xs,u.oneCell'=true:=fun u hu=>by
 obtain⟨i,hi,e⟩:=List.getElem_of_mem hu;obtain⟨o,c,rfl,_⟩:=h.at_ i u (by rw[List.getElem?_eq_getElem hi,e]);rfl
theorem Els.get{W:World}{a:L8}{xs:List Value}(h:Els W a xs)(i:Nat)(hi:i<a.length):∃x,xs[i]? =some x/\RowV (bi a i) x W:=by
 have hl:=h.len;exact⟨xs[i],List.getElem?_eq_getElem qO,h.at_ i _ (List.getElem?_eq_getElem qO)⟩
def RbIs(W:World)(o:Option Addr)(bs:L8)(c:Nat):Prop:=∃xs,RowIs W o xs c/\Els W bs xs
theorem RbIs.later{W W':World}{o:Option Addr}{bs:L8}{c:Nat}(h:RbIs W o bs c)(hb:Below W.heap.size W W'):RbIs W' o bs c:=by
 obtain⟨xs,h1,h2⟩:=h;exact⟨xs,h1.later hb,h2.later hb⟩
theorem RbIs.le{W:World}{o:Option Addr}{bs:L8}{c:Nat}(h:RbIs W o bs c):bs.length<=c/\c<=maxLen:=by
 obtain⟨xs,h1,h2⟩:=h;have:=h1.le;rw[h2.len]at this;exact⟨this,h1.cap⟩
theorem RbIs.cell{W:World}{o:Option Addr}{bs:L8}{c:Nat}(h:RbIs W o bs c)(i:Nat)(hi:i<bs.length):
  ∃b off p q,o=some ⟨b,off,none⟩/\b<W.heap.size/\W.cell? ⟨b,off+i,none⟩=some (.slice p (bi bs i).length q)/\RowIs W p (bytesV (bi bs i)) q:=by
 obtain⟨xs,h1,h2⟩:=h;have hl:=h2.len;obtain⟨b,off,e,hlt,hc⟩:=h1.cells qO;obtain⟨x,hx,p,q,rfl,hr⟩:=h2.get i hi;exact⟨b,off,p,q,e,hlt,hc i _ hx,hr⟩
theorem RbIs.part{W:World}{b off:Nat}{bs:L8}{c:Nat}(h:RbIs W (some ⟨b,off,none⟩) bs c)(k m:Nat)(hm:k+m<=bs.length)(c':Nat)(hc:m<=c')(hc2:c'<=maxLen):RbIs W (some ⟨b,off+k,none⟩) ((bs.drop k).take m) c':=by
 obtain⟨xs,h1,h2⟩:=h;exact⟨_,h1.part k m (by rw[h2.len];exact hm) c' hc hc2,h2.part k m⟩
theorem RbIs.empty{W:World}(o:Option Addr)(c:Nat)(hc:c<=maxLen)(h:o=none->c=0):RbIs W o [] c:=⟨[],RowIs.empty o c hc h,Els.nil W⟩
def RbV(bs:L8)(x:Value)(v:World):Prop:=∃o c,x=.slice o bs.length c/\RbIs v o bs c
theorem RbV.later{bs:L8}{x:Value}{v v':World}(h:RbV bs x v)(hb:Below v.heap.size v v'):RbV bs x v':=by
 obtain⟨o,c,e,h⟩:=h;exact⟨o,c,e,h.later hb⟩
theorem tX{W:World}{n:Nat}{v:Value}{xs:List Value}{bs:L8}{m:Nat}(h:W.ownsRow n 22 1 v m xs)(hm:m=bs.length)(he:Els W bs xs):RbV bs v W:=by
 obtain⟨o,c,e,hr⟩:=cV h (by rw[he.len,hm]);exact⟨o,c,by rw[e,hm],xs,hr,he⟩
theorem QU{T:TypeId}{W:World}{n:Nat}{v:Value}{xs:List Value}{m:Nat}(h:W.ownsRow n T 1 v m xs):∀k,v.ownBlock=some k->n<=k:=fun k e=>(World.ownsRow.lt h k e).1
theorem fM{T:TypeId}{w0 w w':World}{v:Value}{xs:List Value}{m:Nat}(hb:Below w0.heap.size w0 w)(h:w.ownsRow w0.heap.size T 1 v m xs)(hg:w.grownBy w' v.ownBlock):Below w0.heap.size w0 w':=
 hb.grown hg hb.size (fun k e=>QU h k e)
def KindB(base:Nat)(W:World)(x:Value):Prop:=∀ad l c,x=.slice (some ad) l c->0<l->ad.block<base∨∃cur,W.heap[ad.block]? =some (.cells cur 5 (0,0))
structure ElsB(base:Nat)(W:World)(bs:L8)(xs:List Value):Prop where
 els:Els W bs xs
 kind:∀x∈xs,KindB base W x
theorem KindB.later{base:Nat}{W W':World}{x:Value}(h:KindB base W x)(hb:Below W.heap.size W W'):KindB base W' x:=fun ad l c e h0=>by
 rcases h ad l c e h0 with h1|⟨cur,h1⟩
 ·exact .inl h1
 ·exact .inr ⟨cur,by rw[hb.block _ (aE.1 h1).1];exact h1⟩
theorem ElsB.later{base:Nat}{W W':World}{bs:L8}{xs:List Value}(h:ElsB base W bs xs)(hb:Below W.heap.size W W'):ElsB base W' bs xs:=⟨h.els.later hb,fun x hx=>(h.kind x hx).later hb⟩
theorem ElsB.nil(base:Nat)(W:World):ElsB base W [] []:=⟨Els.nil W,fun x hx=>by cases hx⟩
theorem ElsB.app{base:Nat}{W:World}{a b:L8}{xs ys:List Value}(h:ElsB base W a xs)(k:ElsB base W b ys):ElsB base W (a++b) (xs++ys):=
 ⟨h.els.app k.els,fun x hx=>by
  rcases List.mem_append.1 hx with hx|hx
  ·exact h.kind x hx
  ·exact k.kind x hx⟩
theorem ElsB.one{base:Nat}{W:World}{b:BL}{x:Value}(h:RowV b x W)(k:KindB base W x):ElsB base W [b] [x]:=⟨Els.one h,fun y hy=>by
 rw[List.mem_singleton]at hy;subst hy;exact k⟩
theorem Buf.kind{W:World}{g cap:Nat}{ys:BL}(h:Buf W g cap ys)(base:Nat):KindB base W (.slice (some ⟨g,0,none⟩) ys.length cap):=fun ad l c e h0=>by
 cases e
 exact .inr h.cells
theorem Els.old{W:World}{bs:L8}{xs:List Value}(h:Els W bs xs):ElsB W.heap.size W bs xs:=⟨h,fun x hx=>by
 obtain⟨i,hi,e⟩:=List.getElem_of_mem hx;obtain⟨o,c,rfl,hr⟩:=h.at_ i x (by rw[List.getElem?_eq_getElem hi,e]);intro ad l c' e2 h0;cases e2
 obtain⟨b,off,e3,hlt,_⟩:=hr.cells (by simpa using h0);cases e3
 exact .inl hlt⟩
theorem ElsB.part{base:Nat}{W:World}{a:L8}{xs:List Value}(h:ElsB base W a xs)(k m:Nat):ElsB base W ((a.drop k).take m) ((xs.drop k).take m):=
 ⟨h.els.part k m,fun x hx=>h.kind x (List.mem_of_mem_drop (List.mem_of_mem_take hx))⟩
theorem ElsB.keep{base:Nat}{W W':World}{bs:L8}{xs:List Value}{r:Option Nat}(h:ElsB base W bs xs)(hg:W.grownBy W' r)
  (hr:∀k,r=some k->base<=k/\∃cur T f,W.heap[k]? =some (.cells cur T f)/\T≠ 5):ElsB base W' bs xs:=by
 have hkeep:∀b,b<W.heap.size->(b<base∨∃cur,W.heap[b]? =some (.cells cur 5 (0,0)))->W'.heap[b]? =W.heap[b]? :=fun b hlt hk=>hg.block b hlt fun e=>by
  obtain⟨h1,cur2,T,f,h2,h3⟩:=hr b e.symm;rcases hk with hk|⟨cur,hk⟩
  ·omega
  ·rw[h2]at hk;injection hk with hk
   injection hk with _ hk _
   exact h3 hk
 refine⟨⟨h.els.len,fun i x hx=>?_⟩,fun x hx ad l c e h0=>?_⟩
 ·have hkd:=h.kind x (List.mem_of_getElem? hx);obtain⟨o,c,rfl,hr⟩:=h.els.at_ i x hx;refine⟨o,c,rfl,hr.le,hr.cap,hr.nil,fun h0=>?_⟩;obtain⟨b,off,rfl,hlt,hc⟩:=hr.cells h0;have hb:=hkeep b hlt (hkd _ _ _ rfl (by simpa using h0));refine⟨b,off,rfl,Nat.lt_of_lt_of_le hlt hg.size,fun j v hv=>?_⟩;have:=hc j v hv;unfold World.cell? at*;rw[hb];exact this
 ·obtain⟨i,hi,e2⟩:=List.getElem_of_mem hx;obtain⟨o,c',e3,hr⟩:=h.els.at_ i x (by rw[List.getElem?_eq_getElem hi,e2]);rw[e]at e3;cases e3
  obtain⟨b,off,e3,hlt,_⟩:=hr.cells (by simpa using h0);cases e3
  have hkd:=h.kind x hx _ _ _ e h0;have hb:=hkeep b hlt hkd;rcases hkd with h1|⟨cur,h1⟩
  ·exact .inl h1
  ·exact .inr ⟨cur,by rw[hb];exact h1⟩
theorem qv{T:TypeId}{W:World}{base n:Nat}{v:Value}{ys:List Value}(own:W.ownsRow base T 1 v n ys)(hT:T≠ 5):∀k,v.ownBlock=some k->base<=k/\∃cur T f,W.heap[k]? =some (.cells cur T f)/\T≠ 5:=fun k e=>by
 refine⟨(World.ownsRow.lt own k e).1,?_⟩;rcases own.2 with ⟨rfl,_⟩|⟨g,cap,cur2,rfl,_,h2,_⟩
 ·cases e
 ·cases e
  exact⟨cur2,_,_,h2,hT⟩
theorem ElsB.grown{base base' n:Nat}{W W':World}{bs:L8}{xs ys:List Value}{v:Value}(h:ElsB base W bs xs)(own:W.ownsRow base' 22 1 v n ys)(hg:W.grownBy W' v.ownBlock)(hbb:base<=base':=by exact Nat.le_refl _):ElsB base W' bs xs:=
 h.keep hg fun k e=>⟨by have:=(qv own qD k e).1;omega,(qv own qD k e).2⟩
theorem sA(w:World)(ty:TypeId)(base:Nat)(v:Value)(n:Nat)(zs:List Value)(hown:w.ownsRow base 22 1 v n zs)
  (ad:Addr) (c:Nat) (ys:List Value) (hrow:RowIs w (some ad) ys c) (hone:∀u∈ys,u.oneCell'=true) (hl:n+ys.length<=1000000) (hbase:base<=w.heap.size):
  ∃v' w',(Builtin.append_ #[27,27] ty #[v,.slice (some ad) ys.length c]).run Tryz.prog w=.ok v' w'/\w'.ownsRow base 22 1 v' (n+ys.length) (zs++ys)/\w.grownBy w' v.ownBlock:=by
 obtain⟨i0,hi,hz0,hz1,hz2⟩:=info_parts fX;obtain⟨v',w',h1,h2,h3,_⟩:=run_append_own_wide (P:= Tryz.prog) w base 27 ty 22 i0 (.slice none 0 0) 1 24 Tryz.underlying27 hi hz0 hz1 hz2 rfl qD v n zs hown ad ys.length c ys qS (hrow.adds ad rfl) hone (by unfold maxLen;omega) qO hbase;exact⟨v',w',h1,h2,h3⟩
theorem jX{ops:Array Oper}{rest:List Oper}{o:Oper}{a:Act}{Q:Exit->Act->World->Prop}{w:World}(hgd:o.guard=none)(s x:Operand)
  (ho:o.op=.call {callee:=.builtin .append,args:=#[s,x],argTypes:=#[27,27]})
  (base:Nat) (v:Value) (n:Nat) (zs:List Value) (hs:a.eval s=v) (hown:w.ownsRow base 22 1 v n zs)
  (ad:Option Addr) (m c:Nat) (ys:List Value) (hx:a.eval x=.slice ad m c) (hm:m=ys.length) (hrow:RowIs w ad ys c) (hone:∀u∈ys,u.oneCell'=true) (hl:n+m<=1000000) (hbase:base<=w.heap.size)
  (h:∀v' w',w'.ownsRow base 22 1 v' (n+m) (zs++ys)->w.grownBy w' v.ownBlock->wpList Tryz.prog ops Q rest (a.put o.dst v') w'):wpList Tryz.prog ops Q (o::rest) a w:=by
 obtain⟨i0,hi,hz0,hz1,hz2⟩:=info_parts fX;subst hm;cases ad with
 |none=>
  have h0:=hrow.nil rfl;have hle:=hrow.le;obtain rfl:ys=[]:=List.eq_nil_of_length_eq_zero qO;subst h0;refine wpList_append_own_none hgd s x 27 ho base 22 i0 1 Tryz.underlying27 hi v n zs hs hown hx ?_;exact h v w (by simpa using hown) ⟨rfl,rfl,rfl,Nat.le_refl _,fun _ _ _=>rfl⟩
 |some ad=>
  refine wpList_append_own_wide w hgd s x 27 ho base 22 i0 (.slice none 0 0) 1 24 Tryz.underlying27 hi hz0 hz1 hz2 rfl qD v n zs hs hown ad ys.length c ys hx qS (hrow.adds ad rfl) hone (by unfold maxLen;omega) qO hbase ?_;intro v' w' h1 h2 _;exact h v' w' h1 h2
structure Mat(W:World)(B gO capO N R:Nat)(Gb Gc:Nat->Nat)(m:Nat->Nat->UInt8):Prop where
 outer:W.ownsRow B 22 1 (.slice (some ⟨gO,0,none⟩) R capO) R ((List.range R).map fun i=>.slice (some ⟨Gb i,0,none⟩) N (Gc i))
 row:∀i,i<R->Buf W (Gb i) (Gc i) (tab (m i) N)/\B<=Gb i
 apart:∀i j,i<R->j<R->Gb i=Gb j->i=j
theorem Mat.lt{W:World}{B gO capO N R:Nat}{Gb Gc:Nat->Nat}{m:Nat->Nat->UInt8}(h:Mat W B gO capO N R Gb Gc m):B<=gO/\gO<W.heap.size:=World.ownsRow.lt h.outer gO rfl
theorem Mat.outCells{W:World}{B gO capO N R:Nat}{Gb Gc:Nat->Nat}{m:Nat->Nat->UInt8}(h:Mat W B gO capO N R Gb Gc m):∃cur,W.heap[gO]? =some (.cells cur 22 (0,0)):=by
 rcases h.outer.2 with ⟨h1,_⟩|⟨g,cap,cur,h1,_,h2,_⟩
 ·cases h1
 ·cases h1
  exact⟨cur,h2⟩
theorem Mat.ne{W:World}{B gO capO N R:Nat}{Gb Gc:Nat->Nat}{m:Nat->Nat->UInt8}(h:Mat W B gO capO N R Gb Gc m)(i:Nat)(hi:i<R):gO≠Gb i:=fun e=>by
 obtain⟨cur,h1⟩:=h.outCells;obtain⟨cur2,h2⟩:=(h.row i hi).1.cells;rw[<-e,h1]at h2;cases h2
theorem Mat.congr{W:World}{B gO capO N R:Nat}{Gb Gc:Nat->Nat}{m m':Nat->Nat->UInt8}(h:Mat W B gO capO N R Gb Gc m)(he:∀i j,i<R->j<N->m i j=m' i j):Mat W B gO capO N R Gb Gc m':=
 ⟨h.outer,fun i hi=>by
  have e:tab (m' i) N=tab (m i) N:=aN qS fun j hj=>by
   simp at hj;rw[aT _ _ _ hj,aT _ _ _ hj,he i j hi hj]
  rw[e];exact h.row i hi,h.apart⟩
theorem Mat.later{W W':World}{B gO capO N R:Nat}{Gb Gc:Nat->Nat}{m:Nat->Nat->UInt8}(h:Mat W B gO capO N R Gb Gc m)(hb:Below W.heap.size W W'):Mat W' B gO capO N R Gb Gc m:=
 ⟨World.ownsRow.kept (row:=none) h.outer ⟨hb.os,hb.tape,hb.output,hb.size,fun i hi _=>hb.block i hi⟩ (.inr (by simp[Value.ownBlock])),fun i hi=>⟨(h.row i hi).1.later hb,(h.row i hi).2⟩,h.apart⟩
theorem Mat.cell{W:World}{B gO capO N R:Nat}{Gb Gc:Nat->Nat}{m:Nat->Nat->UInt8}(h:Mat W B gO capO N R Gb Gc m)(i j:Nat)(hi:i<R)(hj:j<N):W.cell? ⟨Gb i,j,none⟩=some (.int .u8 ((m i j).toNat:Int)):=by
 have:=(h.row i hi).1.cell j (by simpa using hj);rwa[aT _ _ _ hj]at this
theorem Mat.frozen{W:World}{B gO capO N R:Nat}{Gb Gc:Nat->Nat}{m:Nat->Nat->UInt8}(h:Mat W B gO capO N R Gb Gc m)(i j:Nat)(hi:i<R):W.frozen? ⟨Gb i,j,none⟩=false:=(h.row i hi).1.frozen j
theorem Mat.hdr{W:World}{B gO capO N R:Nat}{Gb Gc:Nat->Nat}{m:Nat->Nat->UInt8}(h:Mat W B gO capO N R Gb Gc m)(i:Nat)(hi:i<R):W.cell? ⟨gO,i,none⟩=some (.slice (some ⟨Gb i,0,none⟩) N (Gc i)):=by
 rw[World.ownsRow.cellAt h.outer i qO];simp[hi]
theorem Mat.cap{W:World}{B gO capO N R:Nat}{Gb Gc:Nat->Nat}{m:Nat->Nat->UInt8}(h:Mat W B gO capO N R Gb Gc m):R<=capO/\capO<=maxLen:=by
 rcases h.outer.2 with ⟨h1,_⟩|⟨g,cap,cur,h1,_,_,h2,h3,_⟩
 ·cases h1
 ·cases h1
  exact⟨h2,h3⟩
def sB(m:Nat->Nat->UInt8)(i j:Nat)(x:UInt8)(a b:Nat):UInt8:=if a=i/\b=j then x else m a b
theorem Mat.store{W:World}{B gO capO N R:Nat}{Gb Gc:Nat->Nat}{m:Nat->Nat->UInt8}(h:Mat W B gO capO N R Gb Gc m)(i j:Nat)(hi:i<R)(hj:j<N)(x:UInt8):
  Mat (W.setCell ⟨Gb i,j,none⟩ (.int .u8 (x.toNat:Int))) B gO capO N R Gb Gc (sB m i j x)/\Only (Gb i) W (W.setCell ⟨Gb i,j,none⟩ (.int .u8 (x.toNat:Int))):=by
 have hs:=(h.row i hi).1.store j x;refine⟨⟨World.ownsRow.kept h.outer hs.2 (.inr fun e=>h.ne i hi (by cases e;rfl)),fun a ha=>?_,h.apart⟩,hs.2⟩;by_cases e:a=i
 ·subst e;have e2:tab (sB m a j x a) N=(tab (m a) N).set j x:=aN qS fun b hb=>by
   simp at hb;rw[aT _ _ _ hb,cj,aT _ _ _ hb];unfold sB;by_cases e3:j=b
   ·subst e3;rw[if_pos ⟨rfl,rfl⟩,if_pos ⟨rfl,by simpa using hb⟩]
   ·rw[if_neg (fun h=>e3 h.2.symm),if_neg (fun h=>e3 h.1)]
  rw[e2];exact⟨hs.1,(h.row a ha).2⟩
 ·have e2:tab (sB m i j x a) N=tab (m a) N:=aN qS fun b hb=>by
   simp at hb;rw[aT _ _ _ hb,aT _ _ _ hb];unfold sB;rw[if_neg (fun h=>e h.1)]
  rw[e2];refine⟨?_,(h.row a ha).2⟩;exact World.ownsRow.kept (h.row a ha).1 hs.2 (.inr fun e3=>e (h.apart a i ha hi (Option.some.inj (show some (Gb a)=some (Gb i) from e3))))
def ku(n:Int)(len:Nat):Nat:=if n<0 then 0 else if(len:Int)<n then len else n.toNat
theorem GG(n:Int)(len:Nat):ku n len<=len:=by
 unfold ku;split
 ·omega
 ·split<;>omega
theorem QV(p:BL)(n:Int)(o:Option Addr)(c:Nat)(w:World)(hP:RowIs w o (bytesV p) c)(hl:p.length<=1000000):
  Calls Tryz.prog 180 #[.slice o p.length c,.int .i64 n] w (Rows (tr (p.take (ku n p.length))) w):=by
 have h1:=hP.le;have h2:=hP.cap;simp only[bytesV_length]at h1;unfold maxLen at h2;have hlow:=GG n p.length;have hlen:(p.take (ku n p.length)).length=ku n p.length:=by simp;omega
 have hcal:=qp (p.take (ku n p.length)) o c w (hP.take _) qO;rw[hlen]at hcal;have HCAL:=Lh hcal;clear hP hcal hlen;by_cases hn:n<0
 ·have e:ku n p.length=0:=by unfold ku;rw[if_pos hn]
  rw[e]at HCAL⊢;clear e hlow;go_enter Tryz.func180,Tryz.ntmps180
  go_wp2_with fail;refine HCAL.out.mono ?_;rintro e w1 ⟨x,rfl,hr,hb⟩;have HR:=Lh hr;have HB:=Lh hb;clear hr hb HCAL;go_wp2_with fail;go_ret;exact⟨x,rfl,HR.out,HB.out⟩
 ·by_cases hm:(p.length:Int)<n
  ·have e:ku n p.length=p.length:=by unfold ku;rw[if_neg hn,if_pos hm]
   rw[e]at HCAL⊢;have hn0:¬(0:Int)>n:=qO;have hn2:¬n<0:=hn;clear e hlow;go_enter Tryz.func180,Tryz.ntmps180
   go_wp2_with fail;refine HCAL.out.mono ?_;rintro e w1 ⟨x,rfl,hr,hb⟩;have HR:=Lh hr;have HB:=Lh hb;clear hr hb HCAL;go_wp2_with fail;go_ret;exact⟨x,rfl,HR.out,HB.out⟩
  ·obtain⟨k,rfl⟩:=Int.eq_ofNat_of_zero_le (show 0<=n by omega);have e:ku (k:Int) p.length=k:=by unfold ku;rw[if_neg hn,if_neg hm];rfl
   rw[e]at HCAL⊢;have hk:k<=p.length:=qO;clear e hlow hn;go_enter Tryz.func180,Tryz.ntmps180
   go_wp2_with fail;refine HCAL.out.mono ?_;rintro e w1 ⟨x,rfl,hr,hb⟩;have HR:=Lh hr;have HB:=Lh hb;clear hr hb HCAL;go_wp2_with fail;go_ret;exact⟨x,rfl,HR.out,HB.out⟩
def shN(n:Int):Nat:=if n<0 then 0 else if 1000<n then 1000 else n.toNat
theorem uk(p:BL)(k m:Nat)(hm:m=k+p.length):tr (splice (List.replicate m 0) k p)=tr (dV p k):=ed fun i=>by
 rw[j7 _ _ _ _ (by simp;omega),IF,cw];unfold Gf.ps;by_cases h:k<=i
 ·rw[if_pos h];by_cases h2:i<k+p.length
  ·rw[if_pos ⟨h,h2⟩]
  ·rw[if_neg (fun g=>h2 g.2),aZ qO]
 ·rw[if_neg h,if_neg (fun g=>h g.1)]
theorem DU(n:Int)(o:Option Addr)(c:Nat)(w:World)(p:BL)(hP:RowIs w o (bytesV p) c)(hl:p.length<=1000000)(hp0:¬p.length=0):
  Calls Tryz.prog 189 #[.slice o p.length c,.int .i64 n] w (Rows (tr (dV p (shN n))) w):=by
 obtain⟨i0,hi,hz0,hz1,hz2⟩:=info_parts ao;have h1:=hP.le;have h2:=hP.cap;simp only[bytesV_length]at h1;unfold maxLen at h2;have HP:=Lh hP;have HPOS:Hid (∀w1,Below w.heap.size w w1->0<(bytesV p).length->∃ad,o=some ad/\∀j v,(bytesV p)[j]? =some v->w1.cell? (ad.add j)=some v):=Lh fun w1 hb h0=>by
  have hr:=HP.out.later hb;obtain⟨b,off,rfl,_,_⟩:=hr.cells h0;exact⟨_,rfl,hr.adds _ rfl⟩
 clear hP;by_cases hn:n<0
 ·have e:shN n=0:=by unfold shN;rw[if_pos hn]
  rw[e];clear e;go_enter Tryz.func189,Tryz.ntmps189
  go_wp2_with (at_make;refine wpList_make_full _ rfl _ _ 22 rfl 0 5 i0 (.int .u8 0) 1 Tryz.underlying22 hi hz0 hz1 _ _ _ _ (p.length) rfl rfl qO qO (by rw[hz2];omega) (by unfold maxLen;omega) (Nat.zero_le _) ?_)
  intro w1 hown hgrow;have hb1:Below w.heap.size w w1:=qB.grown hgrow qN (fun k h=>by cases h);have HB1:=Lh hb1;have HF1:=Lh ((bK hown).full qS:Full w1 w.heap.size (List.replicate (p.length) 0));clear hown hgrow hb1;go_wp2_with (refine wpList_copy_splice rfl (.tmp 16) (.tmp 17) 22 22 rfl 5 Tryz.underlying22 (by rw[hi];simp[hz1]) _ _ _ _ _ _ rfl rfl w.heap.size 0 (bytesV (List.replicate (p.length) 0)) 5 HF1.out (bytesV p) (by simp only[bytesV_length];exact(Nat.min_eq_left qO).symm) (fun h0=>⟨rfl,HPOS.out _ HB1.out h0⟩) (by rw[bytesV_length,bytesV_length,List.length_replicate];omega) (aG p) w.heap.size w HB1.out qN ?_)
  intro w2 hfull2 hb2;have hl:(splice (List.replicate (p.length) (0:UInt8)) 0 p).length=p.length:=by rw[length_splice _ _ _ (by simp only[List.length_replicate];omega)];simp
  have hbuf:Buf w2 w.heap.size (p.length) (splice (List.replicate (p.length) 0) 0 p):=by
   have h:Full w2 w.heap.size (splice (List.replicate (p.length) 0) 0 p):=by unfold Full;rw[<-dM];exact hfull2
   have:=h.buf (by rw[hl];unfold maxLen;omega);rw[hl]at this;exact this
  have hcut:=dl _ _ _ w2 hbuf.row;rw[hl,uk _ _ _ qO]at hcut;have HB2:=Lh hb2;clear hfull2 hb2 hbuf hl;have HCUT:=Lh hcut;clear hcut;go_wp2_with fail;refine HCUT.out.mono ?_;rintro e w3 ⟨rfl,hb3,hr3⟩;have HB3:=Lh (Ks HB2.out hb3);have HR3:=Lh hr3;clear hb3 hr3 HCUT;go_wp2_with fail;go_ret;exact⟨_,rfl,⟨_,_,rfl,HR3.out⟩,HB3.out⟩
 ·by_cases hm:1000<n
  ·have e:shN n=1000:=by unfold shN;rw[if_neg hn,if_pos hm]
   rw[e];clear e;have hn0:¬(0:Int)>n:=qO;go_enter Tryz.func189,Tryz.ntmps189
   go_wp2_with (at_make;refine wpList_make_full _ rfl _ _ 22 rfl 0 5 i0 (.int .u8 0) 1 Tryz.underlying22 hi hz0 hz1 _ _ _ _ (1000+p.length) rfl rfl qO qO (by rw[hz2];omega) (by unfold maxLen;omega) (Nat.zero_le _) ?_)
   intro w1 hown hgrow;have hb1:Below w.heap.size w w1:=qB.grown hgrow qN (fun k h=>by cases h);have HB1:=Lh hb1;have HF1:=Lh ((bK hown).full qS:Full w1 w.heap.size (List.replicate (1000+p.length) 0));clear hown hgrow hb1;go_wp2_with (refine wpList_copy_splice rfl (.tmp 16) (.tmp 17) 22 22 rfl 5 Tryz.underlying22 (by rw[hi];simp[hz1]) _ _ _ _ _ _ rfl rfl w.heap.size 1000 (bytesV (List.replicate (1000+p.length) 0)) 5 HF1.out (bytesV p) (by simp only[bytesV_length];exact(Nat.min_eq_left qO).symm) (fun h0=>⟨rfl,HPOS.out _ HB1.out h0⟩) (by rw[bytesV_length,bytesV_length,List.length_replicate];omega) (aG p) w.heap.size w HB1.out qN ?_)
   intro w2 hfull2 hb2;have hl:(splice (List.replicate (1000+p.length) (0:UInt8)) 1000 p).length=1000+p.length:=by rw[length_splice _ _ _ (by simp only[List.length_replicate];omega)];simp
   have hbuf:Buf w2 w.heap.size (1000+p.length) (splice (List.replicate (1000+p.length) 0) 1000 p):=by
    have h:Full w2 w.heap.size (splice (List.replicate (1000+p.length) 0) 1000 p):=by unfold Full;rw[<-dM];exact hfull2
    have:=h.buf (by rw[hl];unfold maxLen;omega);rw[hl]at this;exact this
   have hcut:=dl _ _ _ w2 hbuf.row;rw[hl,uk _ _ _ qO]at hcut;have HB2:=Lh hb2;clear hfull2 hb2 hbuf hl;have HCUT:=Lh hcut;clear hcut;go_wp2_with fail;refine HCUT.out.mono ?_;rintro e w3 ⟨rfl,hb3,hr3⟩;have HB3:=Lh (Ks HB2.out hb3);have HR3:=Lh hr3;clear hb3 hr3 HCUT;go_wp2_with fail;go_ret;exact⟨_,rfl,⟨_,_,rfl,HR3.out⟩,HB3.out⟩
  ·obtain⟨k,rfl⟩:=Int.eq_ofNat_of_zero_le (show 0<=n by omega);have e:shN (k:Int)=k:=by unfold shN;rw[if_neg hn,if_neg hm];rfl
   rw[e];have hk:k<=1000:=qO;clear e hn;go_enter Tryz.func189,Tryz.ntmps189
   go_wp2_with (at_make;refine wpList_make_full _ rfl _ _ 22 rfl 0 5 i0 (.int .u8 0) 1 Tryz.underlying22 hi hz0 hz1 _ _ _ _ (k+p.length) rfl rfl qO qO (by rw[hz2];omega) (by unfold maxLen;omega) (Nat.zero_le _) ?_)
   intro w1 hown hgrow;have hb1:Below w.heap.size w w1:=qB.grown hgrow qN (fun k h=>by cases h);have HB1:=Lh hb1;have HF1:=Lh ((bK hown).full qS:Full w1 w.heap.size (List.replicate (k+p.length) 0));clear hown hgrow hb1;go_wp2_with (refine wpList_copy_splice rfl (.tmp 16) (.tmp 17) 22 22 rfl 5 Tryz.underlying22 (by rw[hi];simp[hz1]) _ _ _ _ _ _ rfl rfl w.heap.size k (bytesV (List.replicate (k+p.length) 0)) 5 HF1.out (bytesV p) (by simp only[bytesV_length];exact(Nat.min_eq_left qO).symm) (fun h0=>⟨rfl,HPOS.out _ HB1.out h0⟩) (by rw[bytesV_length,bytesV_length,List.length_replicate];omega) (aG p) w.heap.size w HB1.out qN ?_)
   intro w2 hfull2 hb2;have hl:(splice (List.replicate (k+p.length) (0:UInt8)) k p).length=k+p.length:=by rw[length_splice _ _ _ (by simp only[List.length_replicate];omega)];simp
   have hbuf:Buf w2 w.heap.size (k+p.length) (splice (List.replicate (k+p.length) 0) k p):=by
    have h:Full w2 w.heap.size (splice (List.replicate (k+p.length) 0) k p):=by unfold Full;rw[<-dM];exact hfull2
    have:=h.buf (by rw[hl];unfold maxLen;omega);rw[hl]at this;exact this
   have hcut:=dl _ _ _ w2 hbuf.row;rw[hl,uk _ _ _ qO]at hcut;have HB2:=Lh hb2;clear hfull2 hb2 hbuf hl;have HCUT:=Lh hcut;clear hcut;go_wp2_with fail;refine HCUT.out.mono ?_;rintro e w3 ⟨rfl,hb3,hr3⟩;have HB3:=Lh (Ks HB2.out hb3);have HR3:=Lh hr3;clear hb3 hr3 HCUT;go_wp2_with fail;go_ret;exact⟨_,rfl,⟨_,_,rfl,HR3.out⟩,HB3.out⟩
theorem DV(n:Int)(o:Option Addr)(c:Nat)(w:World)(h2:c<=9223372036854775807):
  Calls Tryz.prog 189 #[.slice o 0 c,.int .i64 n] w (Rows (tr (dV [] (shN n))) w):=by
 obtain⟨i0,hi,hz0,hz1,hz2⟩:=info_parts ao;by_cases hn:n<0
 ·have e:shN n=0:=by unfold shN;rw[if_pos hn]
  rw[e];clear e;go_enter Tryz.func189,Tryz.ntmps189
  go_wp2_with (at_make;refine wpList_make_full _ rfl _ _ 22 rfl 0 5 i0 (.int .u8 0) 1 Tryz.underlying22 hi hz0 hz1 _ _ _ _ (0) rfl rfl qO qO (by rw[hz2];omega) (by unfold maxLen;omega) (Nat.zero_le _) ?_)
  intro w1 hown hgrow;have hb1:Below w.heap.size w w1:=qB.grown hgrow qN (fun k h=>by cases h);have HB1:=Lh hb1;have hbuf:=bK hown;have hcut:=dl _ _ _ w1 hbuf.row;rw[List.length_replicate,show List.replicate (0) (0:UInt8)=dV [] (0) by simp[dV]]at hcut;have HB2:=Lh hb1;clear hown hgrow hb1 hbuf;go_wp2_with (refine wpList_copy_nothing rfl (.tmp 16) (.tmp 17) 22 22 rfl 5 Tryz.underlying22 (by rw[hi];simp[hz1]) _ _ _ _ _ _ rfl rfl rfl ?_)
  have HCUT:=Lh hcut;clear hcut;go_wp2_with fail;refine HCUT.out.mono ?_;rintro e w3 ⟨rfl,hb3,hr3⟩;have HB3:=Lh (Ks HB2.out hb3);have HR3:=Lh hr3;clear hb3 hr3 HCUT;go_wp2_with fail;go_ret;exact⟨_,rfl,⟨_,_,rfl,HR3.out⟩,HB3.out⟩
 ·by_cases hm:1000<n
  ·have e:shN n=1000:=by unfold shN;rw[if_neg hn,if_pos hm]
   rw[e];clear e;have hn0:¬(0:Int)>n:=qO;go_enter Tryz.func189,Tryz.ntmps189
   go_wp2_with (at_make;refine wpList_make_full _ rfl _ _ 22 rfl 0 5 i0 (.int .u8 0) 1 Tryz.underlying22 hi hz0 hz1 _ _ _ _ (1000) rfl rfl qO qO (by rw[hz2];omega) (by unfold maxLen;omega) (Nat.zero_le _) ?_)
   intro w1 hown hgrow;have hb1:Below w.heap.size w w1:=qB.grown hgrow qN (fun k h=>by cases h);have HB1:=Lh hb1;have hbuf:=bK hown;have hcut:=dl _ _ _ w1 hbuf.row;rw[List.length_replicate,show List.replicate (1000) (0:UInt8)=dV [] (1000) by simp[dV]]at hcut;have HB2:=Lh hb1;clear hown hgrow hb1 hbuf;go_wp2_with (refine wpList_copy_nothing rfl (.tmp 16) (.tmp 17) 22 22 rfl 5 Tryz.underlying22 (by rw[hi];simp[hz1]) _ _ _ _ _ _ rfl rfl rfl ?_)
   have HCUT:=Lh hcut;clear hcut;go_wp2_with fail;refine HCUT.out.mono ?_;rintro e w3 ⟨rfl,hb3,hr3⟩;have HB3:=Lh (Ks HB2.out hb3);have HR3:=Lh hr3;clear hb3 hr3 HCUT;go_wp2_with fail;go_ret;exact⟨_,rfl,⟨_,_,rfl,HR3.out⟩,HB3.out⟩
  ·obtain⟨k,rfl⟩:=Int.eq_ofNat_of_zero_le (show 0<=n by omega);have e:shN (k:Int)=k:=by unfold shN;rw[if_neg hn,if_neg hm];rfl
   rw[e];have hk:k<=1000:=qO;clear e hn;go_enter Tryz.func189,Tryz.ntmps189
   go_wp2_with (at_make;refine wpList_make_full _ rfl _ _ 22 rfl 0 5 i0 (.int .u8 0) 1 Tryz.underlying22 hi hz0 hz1 _ _ _ _ (k) rfl rfl qO qO (by rw[hz2];omega) (by unfold maxLen;omega) (Nat.zero_le _) ?_)
   intro w1 hown hgrow;have hb1:Below w.heap.size w w1:=qB.grown hgrow qN (fun k h=>by cases h);have HB1:=Lh hb1;have hbuf:=bK hown;have hcut:=dl _ _ _ w1 hbuf.row;rw[List.length_replicate,show List.replicate (k) (0:UInt8)=dV [] (k) by simp[dV]]at hcut;have HB2:=Lh hb1;clear hown hgrow hb1 hbuf;go_wp2_with (refine wpList_copy_nothing rfl (.tmp 16) (.tmp 17) 22 22 rfl 5 Tryz.underlying22 (by rw[hi];simp[hz1]) _ _ _ _ _ _ rfl rfl rfl ?_)
   have HCUT:=Lh hcut;clear hcut;go_wp2_with fail;refine HCUT.out.mono ?_;rintro e w3 ⟨rfl,hb3,hr3⟩;have HB3:=Lh (Ks HB2.out hb3);have HR3:=Lh hr3;clear hb3 hr3 HCUT;go_wp2_with fail;go_ret;exact⟨_,rfl,⟨_,_,rfl,HR3.out⟩,HB3.out⟩
theorem I1(p:BL)(n:Int)(o:Option Addr)(c:Nat)(w:World)(hP:RowIs w o (bytesV p) c)(hl:p.length<=1000000):
  Calls Tryz.prog 189 #[.slice o p.length c,.int .i64 n] w (Rows (tr (dV p (shN n))) w):=by
 by_cases h0:p.length=0
 ·obtain rfl:p=[]:=List.eq_nil_of_length_eq_zero h0;exact DV n o c w (by have:=hP.cap;unfold maxLen at this;omega)
 ·exact DU n o c w p hP hl h0
