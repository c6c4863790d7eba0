/- Ins -/
import Derived.Test.YteldgablpehcpaaGreatDoorGn
import Derived.BigRegion
import Derived.Test.YteldgablpehcpaaGreatDoorErr
import Derived.Stop.BytesEq
import Derived.Laws.ResultCell
set_option linter.unusedVariables false
set_option linter.unusedSimpArgs false
set_option maxRecDepth 100000
set_option maxHeartbeats 8000000
namespace Go.Proofs.YteldgablpehcpaaGreatDoor
open Go.RowKit
def alL(n:Nat):BL:=tab Gf.al n
theorem Uv(p:BL)(r:UInt8)(m:Nat):co (bB p [r,1]) m=Gf.gm (co p m) r^^^(if m=0 then 0 else co p (m-1)):=by
 rw[bY];cases m with
 |zero=>
  rw[if_pos rfl];show 0^^^Gf.gm (co p 0) r=_;rw[UInt8.zero_xor,UInt8.xor_zero]
 |succ m=>
  rw[if_neg qO,Nat.add_sub_cancel];show(Gf.sm _ m^^^Gf.gm (co p m) (co [r,1] (m+1-m)))^^^Gf.gm (co p (m+1)) (co [r,1] (m+1-(m+1)))=_;rw[show m+1-m=1 by omega,Nat.sub_self,show co [r,1] 1=1 from rfl,show co [r,1] 0=r from rfl,Gf.cd];rw[show Gf.sm (fun i=>Gf.gm (co p i) (co [r,1] (m+1-i))) m=0 from Gf.bU fun i hi=>by
   rw[show co [r,1] (m+1-i)=0 from aZ (by show 2<=_;omega),Gf.aO]]
  rw[UInt8.zero_xor,UInt8.xor_comm]
theorem MR(z:BL)(n k:Nat)(hz:∀j,j<n->co z j=Gf.al j)(h:k<=n)(m:Nat):co (cD (fun r=>[r,1]) z k) m=co (bZ k) m:=by
 induction k generalizing m with
 |zero=>rfl
 |succ k ih=>
  rw[cD,bZ,Uv,GB,hz k qO,ih qO,ih qO]
theorem D3(k:Nat):tr (bZ k)=bZ k:=xX fun _=>by
 rw[br,Nat.add_sub_cancel,yo];decide
theorem Q5:tr (cD (fun r=>[r,1]) (alL 32) 32)=bZ 32:=by
 rw[<-D3 32];exact ed fun m=>MR (alL 32) 32 32 (fun j hj=>aT _ _ _ hj) qN m
def Zo(w:World)(g:Nat)(i:Value)(wr:World):Prop:=
 ∃k:Nat,k<=32/\i=.int .i64 k/\(∃ys:BL,ys.length=32/\(∀j,j<k->co ys j=Gf.al j)/\wr.heap[g]? =some (.cells (bytesV ys).toArray 28 (0,0)))/\Below w.heap.size w wr
theorem sF{X:World}{A:Nat}{z:BL}{T:TypeId}(h:X.heap[A]? =some (.cells (bytesV z).toArray T (0,0)))(hm:z.length<=maxLen):RowIs X (some ⟨A,0,none⟩) (bytesV z) z.length:=
 ⟨qS,hm,fun h=>(by cases h),fun h0=>⟨A,0,rfl,(aE.1 h).1,fun i v hv=>by
  unfold World.cell?;rw[h];show(bytesV z).toArray[0+i]? =_;rw[Nat.zero_add,List.getElem?_toArray];exact hv⟩⟩
theorem Q6(Z:Array Value)(hZ:Z=(bytesV bL).toArray)(hzs:∀w,Sem.run Tryz.prog (zeroValue 28) w=.ok (.agg Z) w)(w:World):
  Calls Tryz.prog 191 #[] w (Rows (bZ 32) w):=by
 have hg1:(w.alloc (.cells Z 28)).heap[w.heap.size]? =some (.cells (bytesV bL).toArray 28 (0,0)):=by
  rw[hZ];exact World.alloc_heap_new w _
 have hb1:Below w.heap.size w (w.alloc (.cells Z 28)):=qB.alloc qN _;have HG1:=Lh hg1;have HB1:=Lh hb1;have HGE:Hid (w.heap.size=w.heap.size):=Lh rfl;clear hg1 hb1 hZ;go_enter Tryz.func191,Tryz.ntmps191
 go_wp2_with fail;go_loopw [2,3,5] (fun _ i _ wr=>Zo w w.heap.size i wr) (fun _ i _ _=>32-(intOf i).toNat)
 case atStart=>exact⟨0,Nat.zero_le _,rfl,⟨bL,by simp[bL],fun j h=>absurd h qO,HG1.out⟩,HB1.out⟩
 case round=>
  rename World=>W1
  obtain⟨k,hk,rfl,⟨ys,hys,hco,hg⟩,hb⟩:=hrel;have HCO:=Lh hco;have HG:=Lh hg;have HB:=Lh hb;clear hco hg hb;by_cases hlt:k<32
  ·have hd1:decide ((k:Int)<32)=true:=by simpa using (by omega:(k:Int)<32)
   have hal:=Gf.jM k;obtain⟨s,hs⟩:=qM (Gf.al k);have hsl:=UInt8.toNat_lt s;have E:Hid (∀w,Calls Tryz.prog 217 #[.int .i64 (k:Int)] w fun e w'=>e=.returned (.int .u8 (s.toNat:Int))/\w=w'):=Lh fun w=>by
    have h:=Fv (k:Int) w;rw[show((k:Int) % 255).toNat=k by omega,<-hal,hs]at h;exact h
   have hce:W1.cell? ⟨w.heap.size,k,none⟩=some (.int .u8 ((co ys k).toNat:Int)):=by
    unfold World.cell?;rw[HG.out];show(bytesV ys).toArray[k]? =_;rw[List.getElem?_toArray];exact aB ys k qO
   have hfr:W1.frozen? ⟨w.heap.size,k,none⟩=false:=by
    unfold World.frozen?;rw[HG.out];rfl
   obtain⟨w4,hw4⟩:=qM (W1.setCell ⟨w.heap.size,k,none⟩ (.int .u8 (s.toNat:Int)));have hset:=setCell_eq_setRow W1 w.heap.size k _ _ _ (.int .u8 (s.toNat:Int)) HG.out;rw[hw4,rx]at hset;have hg4:w4.heap[w.heap.size]? =some (.cells (bytesV (ys.set k s)).toArray 28 (0,0)):=by rw[hset];exact setRow_heap _ _ _ _ _ _ HG.out
   have hb4:Below w.heap.size w w4:=by rw[hset];exact HB.out.trans (below_setRow qN)
   have HG4:=Lh hg4;have HB4:=Lh hb4;have HW4:=Lh hw4;have HS:=Lh hs;clear hs hw4 hset hg4 hb4 hal;have hk0:(0:Int)<=(k:Int):=qO;have hk1:(k:Int)<32:=qO;go_wp2_with fail;refine(E.out _).mono ?_;rintro e w' ⟨rfl,rfl⟩;go_wp2_with fail;rw[HW4.out];go_roundw
   case rel=>
    refine⟨k+1,qO,by go_num,⟨ys.set k s,by simp[hys],fun j hj=>?_,HG4.out⟩,HB4.out⟩;rw[cj];by_cases e:k=j
    ·subst e;rw[if_pos ⟨rfl,qO⟩,HS.out]
    ·rw[if_neg (fun h=>e h.1)];exact HCO.out j qO
   case measure=>simp[intOf];omega
  ·obtain rfl:k=32:=qO;have hye:ys=alL 32:=aN (by simp[hys,alL]) fun j hj=>by
    rw[HCO.out j qO];exact(aT Gf.al 32 j qO).symm
   subst hye;clear HCO;have hro:RowIs W1 (some ⟨w.heap.size,0,none⟩) (bytesV (alL 32)) (alL 32).length:=sF HG.out (by rw[hys];unfold maxLen;omega);have hcl:=xV (alL 32) _ _ W1 (by rw[hys];omega) hro;rw[hys,Q5]at hcl;have HCL:=Lh hcl;clear hro hcl;go_wp2_with fail;refine HCL.out.mono ?_;rintro e w1 ⟨g,cap,rfl,hg,hb,hr⟩;have HB5:=Lh (HB.out.trans (hb.mono HB.out.size));have HR:=Lh hr;clear hb hr HCL;go_wp2_with fail;go_ret;exact⟨_,rfl,⟨_,_,rfl,HR.out⟩,HB5.out⟩
theorem Ao(w:World):Calls Tryz.prog 191 #[] w (Rows (bZ 32) w):=Q6 _ rfl qu w
theorem Ap(n:Int)(w:World):Calls Tryz.prog 171 #[.int .i64 n] w fun e w'=>e=.returned (.bool (decide (33<=n/\n<=255)))/\w'=w:=by
 by_cases h1:32<n
 ·have hd1:decide (32<n)=true:=decide_eq_true h1;by_cases h2:n<=255
  ·have hd2:decide (n<=255)=true:=decide_eq_true h2;have H:Hid (decide (33<=n/\n<=255)=true):=Lh (decide_eq_true ⟨h1,h2⟩);clear h1 h2;go_enter Tryz.func171,Tryz.ntmps171
   go_wp2
   go_ret;exact⟨by rw[H.out];rfl,rfl⟩
  ·have hd2:decide (n<=255)=false:=decide_eq_false h2;have H:Hid (decide (33<=n/\n<=255)=false):=Lh (decide_eq_false fun h=>h2 h.2);clear h1 h2;go_enter Tryz.func171,Tryz.ntmps171
   go_wp2
   go_ret;exact⟨by rw[H.out];rfl,rfl⟩
 ·have hd1:decide (32<n)=false:=decide_eq_false h1;have H:Hid (decide (33<=n/\n<=255)=false):=Lh (decide_eq_false fun h=>h1 h.1);clear h1;go_enter Tryz.func171,Tryz.ntmps171
  go_wp2
  go_ret;exact⟨by rw[H.out];rfl,rfl⟩
def pwv(n p:Int):UInt8:=if 33<=n/\n<=255/\0<=p/\p<n then Gf.al (n-1-p).toNat else 0
theorem sH(n:Int)(h:33<=n/\n<=255)(w:World):Calls Tryz.prog 171 #[.int .i64 n] w fun e w'=>e=.returned (.bool true)/\w'=w:=by
 have:=Ap n w;rwa[decide_eq_true h]at this
theorem pu(n:Int)(h:¬(33<=n/\n<=255))(w:World):Calls Tryz.prog 171 #[.int .i64 n] w fun e w'=>e=.returned (.bool false)/\w'=w:=by
 have:=Ap n w;rwa[decide_eq_false h]at this
theorem mQ(n p:Int)(w:World):Calls Tryz.prog 200 #[.int .i64 n,.int .i64 p] w fun e w'=>e=.returned (.int .u8 ((pwv n p).toNat:Int))/\w'=w:=by
 by_cases h1:33<=n/\n<=255
 ·have C:Hid (∀w,Calls Tryz.prog 171 #[.int .i64 n] w fun e w'=>e=.returned (.bool true)/\w'=w):=Lh (sH n h1);by_cases h2:p<0
  ·have hd2:decide (p<0)=true:=decide_eq_true h2;have H:Hid (pwv n p=0):=Lh (if_neg qO);clear h1 h2;go_enter Tryz.func200,Tryz.ntmps200
   go_wp2_with fail;refine(C.out _).mono ?_;rintro e w' ⟨rfl,rfl⟩;go_wp2_with fail;go_ret;exact⟨by rw[H.out];rfl,rfl⟩
  ·have hd2:decide (p<0)=false:=decide_eq_false h2;by_cases h3:n<=p
   ·have hd3:decide (n<=p)=true:=decide_eq_true h3;have H:Hid (pwv n p=0):=Lh (if_neg qO);clear h1 h2 h3;go_enter Tryz.func200,Tryz.ntmps200
    go_wp2_with fail;refine(C.out _).mono ?_;rintro e w' ⟨rfl,rfl⟩;go_wp2_with fail;go_ret;exact⟨by rw[H.out];rfl,rfl⟩
   ·have hd3:decide (n<=p)=false:=decide_eq_false h3;have H:Hid (pwv n p=Gf.al (n-1-p).toNat):=Lh (if_pos qO);have E:Hid (∀w,Calls Tryz.prog 217 #[.int .i64 (n-1-p)] w fun e w'=>e=.returned (.int .u8 ((pwv n p).toNat:Int))/\w=w'):=Lh fun w=>by
     have h:=Fv (n-1-p) w;rw[show((n-1-p) % 255).toNat=(n-1-p).toNat by omega,<-Gf.jM,<-H.out]at h;exact h
    have hp0:0<=p:=qO;have hp1:p<n:=qO;have hn1:33<=n:=h1.1;have hn2:n<=255:=h1.2;clear h1 h2 h3;go_enter Tryz.func200,Tryz.ntmps200
    go_wp2_with fail;refine(C.out _).mono ?_;rintro e w' ⟨rfl,rfl⟩;go_wp2_with fail;refine(E.out _).mono ?_;rintro e w' ⟨rfl,rfl⟩;go_wp2_with fail;go_ret;exact⟨rfl,rfl⟩
 ·have C:Hid (∀w,Calls Tryz.prog 171 #[.int .i64 n] w fun e w'=>e=.returned (.bool false)/\w'=w):=Lh (pu n h1);have H:Hid (pwv n p=0):=Lh (if_neg qO);clear h1;go_enter Tryz.func200,Tryz.ntmps200
  go_wp2_with fail;refine(C.out _).mono ?_;rintro e w' ⟨rfl,rfl⟩;go_wp2_with fail;go_ret;exact⟨by rw[H.out];rfl,rfl⟩
theorem nh:(Tryz.prog.info? 3).map (fun i=>(i.zero,i.size,i.bytes))=some (some (.int .i64 0),1,8):=qK
def IntsV(z:List Int)(x:Value)(v:World):Prop:=∃o c,x=.slice o z.length c/\RowIs v o (aF z) c
theorem IntsV.later{z:List Int}{x:Value}{v v':World}(h:IntsV z x v)(hb:Below v.heap.size v v'):IntsV z x v':=by
 obtain⟨o,c,e,h⟩:=h;exact⟨o,c,e,h.later hb⟩
theorem bD{W:World}{n:Nat}{v:Value}{z:List Int}{m:Nat}(h:W.ownsRow n 3 1 v m (aF z))(hm:m=z.length):IntsV z v W:=by
 subst hm;have h00:=h;obtain⟨hl,hx⟩:=h;rcases hx with ⟨rfl,h0⟩|⟨g,cap,cur,rfl,hg,hh,h1,h2,hcur,htake⟩
 ·refine⟨none,0,by rw[h0],⟨by simp[h0],Nat.zero_le _,fun _=>rfl,fun h=>?_⟩⟩;simp[h0]at h
 ·exact⟨_,cap,rfl,⟨by simpa using h1,h2,(fun e=>by cases e),fun _=>⟨g,0,rfl,(aE.1 hh).1,fun i u hu=>by
   have hi:=(List.getElem?_eq_some_iff.1 hu).1;rw[Nat.zero_add,World.ownsRow.cellAt h00 i (by simp at hi;omega)];exact hu⟩⟩⟩
theorem aw{w0 w w':World}{v:Value}{xs:List Value}{m:Nat}(hb:Below w0.heap.size w0 w)(h:w.ownsRow w0.heap.size 3 1 v m xs)(hg:w.grownBy w' v.ownBlock):Below w0.heap.size w0 w':=
 hb.grown hg hb.size (fun k e=>(World.ownsRow.lt h k e).1)
theorem bC{ops:Array Oper}{rest:List Oper}{o:Oper}{a:Act}{Q:Exit->Act->World->Prop}{w:World}(hgd:o.guard=none)(s x:Operand)
  (ho:o.op=.call {callee:=.builtin .append,args:=#[s,x],argTypes:=#[37,37]})
  (base:Nat) (v:Value) (n:Nat) (z:List Int) (hs:a.eval s=v) (hown:w.ownsRow base 3 1 v n (aF z))
  (g:Nat) (y:Int) (hx:a.eval x=.slice (some ⟨g,0,none⟩) 1 1) (hg:w.cell? ⟨g,0,none⟩=some (.int .i64 y)) (hl:n<=10000000) (hbase:base<=w.heap.size)
  (h:∀v' w',w'.ownsRow base 3 1 v' (n+1) (aF (z++[y]))->w.grownBy w' v.ownBlock->wpList Tryz.prog ops Q rest (a.put o.dst v') w'):wpList Tryz.prog ops Q (o::rest) a w:=by
 obtain⟨i0,hi,hz0,hz1,hz2⟩:=info_parts nh;have e:aF (z++[y])=aF z++[.int .i64 y]:=by simp[aF]
 rw[e]at h;refine wpList_append_own_wide w hgd s x 37 ho base 3 i0 (.int .i64 0) 1 8 Tryz.underlying37 hi hz0 hz1 hz2 rfl qD v n (aF z) hs hown ⟨g,0,none⟩ 1 1 [.int .i64 y] hx qS (fun j u hj=>?_) (fun u hu=>?_) (by unfold maxLen;omega) qO hbase ?_
 ·have h1:=(List.getElem?_eq_some_iff.1 hj).1;simp at h1;subst h1;simp at hj;subst hj;exact hg
 ·simp at hu;subst hu;rfl
 ·intro v' w' h1 h2 _;exact h v' w' h1 h2
def dfL(a b:BL):Nat->List Int
 |0=>[]
 |k+1=>if co a k=co b k then dfL a b k else dfL a b k++[(k:Int)]
theorem jq(a b:BL)(k:Nat):(dfL a b k).length<=k:=by
 induction k with
 |zero=>exact Nat.le_refl _
 |succ k ih=>
  rw[dfL];split
  ·omega
  ·simp;omega
def Zq(a b:BL)(w:World)(v i:Value)(wr:World):Prop:=
 ∃k:Nat,k<=a.length/\i=.int .i64 k/\wr.ownsRow w.heap.size 3 1 v (dfL a b k).length (aF (dfL a b k))/\Below w.heap.size w wr
theorem ux(a b:BL)(o o2:Option Addr)(c c2:Nat)(w:World)(hA:RowIs w o (bytesV a) c)(hB:RowIs w o2 (bytesV b) c2)(hl:a.length=b.length)(hn:a.length<=100000):
  Calls Tryz.prog 147 #[.slice o a.length c,.slice o2 b.length c2] w fun e w'=>∃x,e=.returned x/\w'.ownsRow w.heap.size 3 1 x (dfL a b a.length).length (aF (dfL a b a.length))/\Below w.heap.size w w':=by
 have h1:=hA.le;have h2:=hA.cap;have h3:=hB.le;have h4:=hB.cap;simp only[bytesV_length]at h1 h3;unfold maxLen at h2 h4;have HA:=Lh hA;have HB:=Lh hB;have HOWN:Hid (w.ownsRow w.heap.size 3 1 (.slice none 0 0) 0 (aF [])):=Lh (World.ownsRow_nil _ _ _ _);rw[<-hl];have HL:=Lh hl;clear hA hB hl h3;go_enter Tryz.func147,Tryz.ntmps147
 go_wp2_with fail;go_loopw [5,6,14] (fun v _ i wr=>Zq a b w v i wr) (fun _ _ i _=>a.length-(intOf i).toNat)
 case atStart=>exact⟨0,Nat.zero_le _,rfl,HOWN.out,Below.refl _ _⟩
 case round=>
  obtain⟨k,hk,rfl,hv,hb⟩:=hrel;have HV:=Lh hv;have HB1:=Lh hb;by_cases hlt:k<a.length
  ·obtain⟨b1,off1,rfl,hb1,hcell⟩:=(HA.out.later hb).cells (by simp;omega);have hc1:wr.cell? ⟨b1,off1+k,none⟩=some (.int .u8 ((co a k).toNat:Int)):=hcell k _ (aB a k hlt);have hltb:k<b.length:=by have:=HL.out;omega
   obtain⟨b2,off2,rfl,hb2,hcell2⟩:=(HB.out.later hb).cells (by simp;omega);have hc2:wr.cell? ⟨b2,off2+k,none⟩=some (.int .u8 ((co b k).toNat:Int)):=hcell2 k _ (aB b k hltb);have hk0:(0:Int)<=(k:Int):=qO;have hk1:(k:Int)<(a.length:Int):=qO;have hxl:=UInt8.toNat_lt (co a k);have hyl:=UInt8.toNat_lt (co b k);have hlen:=jq a b k;clear hcell hcell2 hv hb;by_cases he:co a k=co b k
   ·have HD:Hid (dfL a b (k+1)=dfL a b k):=Lh (if_pos he);rw[<-he]at hc2;generalize co a k=x at*;clear he;go_wp2_with fail;go_quiet (fail)
    go_wp2_with fail;go_roundw
    case rel=>exact⟨k+1,qO,by go_num,by rw[HD.out];exact HV.out,HB1.out.trans ⟨rfl,rfl,rfl,Nat.le_refl _,fun _ _=>rfl⟩⟩
    case measure=>simp[intOf];omega
   ·have HD:Hid (dfL a b k++[(k:Int)]=dfL a b (k+1)):=Lh (if_neg he).symm;have hne:¬(co a k).toNat=(co b k).toNat:=fun e=>he (Gf.bR e)
    generalize co a k=x at*;generalize co b k=y at*;have hnb:((x.toNat:Int)==(y.toNat:Int))=false:=beq_false_of_ne qO;have hnd:decide ((x.toNat:Int)=(y.toNat:Int))=false:=decide_eq_false qO;have hnt:((x.toNat:Int) !=(y.toNat:Int))=true:=by rw[bne_iff_ne];omega
    have HLE:=Lh hlen;have HE:Hid (∀n,((wr.drewN n).alloc (.cells (#[.int .i64 (k:Int)]) 3)).ownsRow w.heap.size 3 1 _ (dfL a b k).length (aF (dfL a b k))):=Lh fun n=>World.ownsRow.alloc (show(wr.drewN n).ownsRow w.heap.size 3 1 _ (dfL a b k).length (aF (dfL a b k)) from HV.out) _
    have HBE:Hid (∀n,Below w.heap.size w ((wr.drewN n).alloc (.cells (#[.int .i64 (k:Int)]) 3))):=Lh fun n=>(Kit.dn HB1.out n).alloc HB1.out.size _
    have HCE:Hid (∀n,((wr.drewN n).alloc (.cells (#[.int .i64 (k:Int)]) 3)).cell? ⟨wr.heap.size,0,none⟩=some (.int .i64 (k:Int))):=Lh fun n=>cell_of_row _ _ 0 _ _ _ (show((wr.drewN n).alloc (.cells (#[.int .i64 (k:Int)]) 3)).heap[wr.heap.size]? =_ from World.alloc_heap_new (wr.drewN n) _)
    clear he hne hlen;go_wp2_with fail;go_quiet (fail)
    rename_i nq;go_wp2_with (at_builtin;refine bC rfl (.tmp 26) (.tmp 28) rfl w.heap.size _ (dfL a b k).length (dfL a b k) rfl (HE.out nq) _ (k:Int) rfl (HCE.out nq) (by have:=HLE.out;omega) (HBE.out nq).size ?_)
    intro v' w2 hv hg;have hv2:w2.ownsRow w.heap.size 3 1 v' (dfL a b (k+1)).length (aF (dfL a b (k+1))):=by
     rw[<-HD.out];simpa using hv
    have HV2:=Lh hv2;have HB2:=Lh (aw (HBE.out nq) (HE.out nq) hg);clear hv hg hv2;go_wp2_with fail;go_roundw
    case rel=>exact⟨k+1,qO,by go_num,HV2.out,HB2.out⟩
    case measure=>simp[intOf];omega
  ·obtain rfl:k=a.length:=qO;have HR:=Lh hv;clear hv hb;go_wp2_with fail;go_ret;exact⟨_,rfl,HR.out,HB1.out⟩
def ci(z:List Int)(k:Nat):Int:=z.getD k 0
def xsL(n:Nat)(z:List Int):BL:=z.map fun p=>Gf.al (n-1-p.toNat)
theorem MU(n:Nat)(z:List Int)(k:Nat)(h:k<z.length):co (xsL n z) k=Gf.al (n-1-(ci z k).toNat):=by
 simp[co,xsL,ci,List.getD_eq_getElem?_getD,h]
def Zx(z:BL)(x:UInt8)(w:World)(s i:Value)(wr:World):Prop:=
 ∃k:Nat,k<=z.length/\i=.int .i64 k/\s=.int .u8 ((Gf.hv x (z.take k)).toNat:Int)/\Kit.Dn w wr
theorem D8(z:BL)(x:UInt8)(T:Nat)(C:Array Value)(o:Option Addr)(c:Nat)(w:World)(hR:RowIs w o (bytesV z) c)(hT:TabAt w T C):
  Calls Tryz.prog 173 #[.pointer (some ⟨T,0,none⟩),.slice o z.length c,.int .u8 (x.toNat:Int)] w fun e w'=>e=.returned (.int .u8 ((Gf.hv x z).toNat:Int))/\Kit.Dn w w':=by
 have h1:=hR.le;have h2:=hR.cap;simp only[bytesV_length]at h1;unfold maxLen at h2;have HR:=Lh hR;have HT:=Lh hT;clear hR hT;go_enter Tryz.func173,Tryz.ntmps173
 go_wp2_with fail;go_loopw [7,9,12] (fun s _ i wr=>Zx z x w s i wr) (fun _ _ i _=>z.length-(intOf i).toNat)
 case atStart=>exact⟨0,Nat.zero_le _,rfl,rfl,Kit.Dn.refl _⟩
 case round=>
  obtain⟨k,hk,rfl,rfl,hd⟩:=hrel;have HD:=Lh hd;clear hd;by_cases hlt:k<z.length
  ·obtain⟨b1,off1,rfl,hb1,hcell⟩:=(HR.out.later HD.out.below).cells (by simp;omega);have hc1:wr.cell? ⟨b1,off1+k,none⟩=some (.int .u8 ((co z k).toNat:Int)):=hcell k _ (aB z k hlt);have HH:Hid (Gf.gm (Gf.hv x (z.take k)) x^^^co z k=Gf.hv x (z.take (k+1))):=Lh (by rw[ru z k hlt,Gf.iD]);generalize Gf.hv x (z.take k)=s at*;generalize co z k=t at*;have hx:=UInt8.toNat_lt x;have hs:=UInt8.toNat_lt s;have ht:=UInt8.toNat_lt t;have MC:Hid (∀n,Calls Tryz.prog 195 #[.pointer (some ⟨T,0,none⟩),.int .u8 (s.toNat:Int),.int .u8 (x.toNat:Int)] (wr.drewN n) fun e w'=>e=.returned (.int .u8 ((Gf.gm s x).toNat:Int))/\∃m,w'=(wr.drewN n).drewN m):=Lh fun n=>qj s x T C _ ((HT.out.later HD.out.below).later (Kit.dn' _ n))
   generalize hg:Gf.gm s x=u at*;have hu:=UInt8.toNat_lt u;have AC:Hid (∀v:World,Calls Tryz.prog 184 #[.int .u8 (u.toNat:Int),.int .u8 (t.toNat:Int)] v fun e w'=>e=.returned (.int .u8 ((u^^^t).toNat:Int))/\w'=v):=Lh fun v=>nU u t v
   generalize hr:u^^^t=r at*;have HG:=Lh hg;have HE:=Lh hr;have MC0:Hid (Calls Tryz.prog 195 #[.pointer (some ⟨T,0,none⟩),.int .u8 (s.toNat:Int),.int .u8 (x.toNat:Int)] wr fun e w'=>e=.returned (.int .u8 (u.toNat:Int))/\∃m,w'=wr.drewN m):=Lh (MC.out 0);clear hcell hg hr MC;go_wp2_with fail;refine MC0.out.mono ?_;rintro e v1 ⟨rfl,m,rfl⟩;go_wp2_with fail;refine(AC.out _).mono ?_;rintro e v2 ⟨rfl,rfl⟩;go_wp2_with fail;go_roundw
   case rel=>exact⟨k+1,qO,by go_num,by rw[HH.out],HD.out.add m⟩
   case measure=>simp[intOf];omega
  ·obtain rfl:k=z.length:=qO;rw[List.take_length];go_wp2
   go_ret;exact⟨rfl,HD.out⟩
theorem Q7(k:Nat)(hk:k<255)(B:Nat)(C:Array Value)(w:World)(hT:TabAt w B C):
  Calls Tryz.prog 174 #[.pointer (some ⟨B,0,none⟩),.int .i64 (k:Int)] w fun e w'=>e=.returned (.int .u8 ((Gf.al k).toNat:Int))/\∃n,w'=w.drewN n:=by
 have h:=Lj (k:Int) B C w hT;rw[show((k:Int) % 255).toNat=k by omega,<-Gf.jM k]at h;exact h
theorem Ib:(Tryz.prog.info? 232).map (·.size)=some 32:=qK
theorem bT: Tryz.prog.underlying 232=some (.array 32 5):=qK
theorem fZ(w:World):Sem.run Tryz.prog (zeroValue 232) w=.ok (.agg (bytesV bL).toArray) w:=qK
theorem cU{ys:BL}(h:ys.length=32):(Tryz.prog.info? 232).map (·.size)=some (bytesV ys).toArray.size:=by
 rw[Ib];simp[h]
theorem sI(s:BL)(hs:s.length=32)(w:World):Calls Tryz.prog 181 #[.agg (bytesV s).toArray] w (Rows (tr s) w):=by
 have HG:=Lh (World.alloc_heap_new w (.cells (bytesV s).toArray 232));have HB:=Lh ((Below.refl w.heap.size w).alloc qN (.cells (bytesV s).toArray 232));have ht:=qp s (some ⟨w.heap.size,0,none⟩) s.length _ (sF HG.out (by rw[hs];unfold maxLen;omega)) qO;rw[hs]at ht;have HT:=Lh ht;have h1:=one_cell s;obtain⟨C,hC⟩:=qM ((bytesV s).toArray);rw[hC]at HG HB HT h1⊢;have hu:=bT;clear ht;go_enter Tryz.func181,Tryz.ntmps181
 go_wp2_with fail;refine HT.out.mono ?_;rintro e w2 ⟨x,rfl,hr,hb⟩;have HR:=Lh hr;have HB2:=Lh (Ks HB.out hb);clear hr hb HT;go_wp2_with fail;go_ret;exact⟨x,rfl,HR.out,HB2.out⟩
theorem aD{P:Program}{fn:Func}{p u:Tmp}{ty:TypeId}(h:fn.results=#[.cell p ty,.tmp u])(tmps:Array Value)(w:World)(g:Nat)(t:TypeId)(cs:Array Value)(fr:Nat×Nat)(d:TypeDesc)
  (hp:tmps.getD p undef=.pointer (some ⟨g,0,none⟩)) (hg:w.heap[g]? =some (.cells cs t fr))
  (hu:P.underlying ty=some d) (hd:(match d with| .struct _| .array _ _=>true|_=>false)=true) (hi:(P.info? ty).map (·.size)=some cs.size):
  (results fn tmps).run P w=.ok (.tuple #[.agg cs,tmps.getD u undef]) w:=by
 rw[results_cell_tmp h,hp];simp[asAddr,run_loadVar_row w g t ty cs fr d hg hu hd hi]
def Zy(z:BL)(w:World)(g0 T g:Nat)(C:Array Value)(i:Value)(wr:World):Prop:=
 ∃k:Nat,k<=32/\i=.int .i64 k/\(∃ys:BL,ys.length=32/\(∀j,j<k->co ys j=Gf.hv (Gf.al j) z)/\wr.heap[g]? =some (.cells (bytesV ys).toArray 232 (0,0)))/\
  wr.heap[g0]? =some (.cells (bytesV bL).toArray 232 (0,0))/\TabAt wr T C/\Below w.heap.size w wr
theorem Ie(Z:Array Value)(hZ:Z=(bytesV bL).toArray)(hzs:∀w,Sem.run Tryz.prog (zeroValue 232) w=.ok (.agg Z) w)(z:BL)(o:Option Addr)(c:Nat)(w:World)(hP:RowIs w o (bytesV z) c)(h33:33<=z.length/\z.length<=255):
  Calls Tryz.prog 144 #[.slice o z.length c] w fun e w'=>e=.returned (.tuple #[.agg (bytesV (a7 z)).toArray,.nilIface])/\Below w.heap.size w w':=by
 have h1:=hP.le;have h2:=hP.cap;simp only[bytesV_length]at h1;unfold maxLen at h2;have HP:=Lh hP;have HZ:=Lh hZ;have hb1:Below w.heap.size w (w.alloc (.cells Z 232)):=qB.alloc qN _;have hg1:=World.alloc_heap_new w (.cells Z 232);have F:Hid (∀w,Calls Tryz.prog 171 #[.int .i64 (z.length:Int)] w fun e w'=>e=.returned (.bool true)/\w'=w):=Lh (sH z.length qO);have HG1:=Lh hg1;have HB1:=Lh hb1;have HSZ1:Hid ((w.alloc (.cells Z 232)).heap.size=w.heap.size+1):=Lh (World.size_alloc _ _);clear hP hZ hg1 hb1;go_enter Tryz.func144,Tryz.ntmps144
 go_wp2_with fail;refine(F.out _).mono ?_;rintro e w1 ⟨rfl,hw1⟩;rw[<-hw1]at HG1 HB1 HSZ1;clear hw1 F;go_wp2_with fail;refine(jE _).mono ?_;rintro e w2 ⟨n,C,hC,rfl,hw2⟩;have hT2:TabAt w2 w1.heap.size C:=by rw[hw2];exact TabAt.made hC
 have hb2:Below w1.heap.size w1 w2:=by rw[hw2];exact fL
 have hs2:w2.heap.size=w1.heap.size+1:=by
  rw[hw2];have:∀n,((w1.alloc (.cells C 282)).drewN n).heap.size=w1.heap.size+1:=fun n=>by
   rw[show((w1.alloc (.cells C 282)).drewN n).heap=(w1.alloc (.cells C 282)).heap from rfl];exact World.size_alloc _ _
  exact this n
 obtain⟨g0,hg0⟩:=qM w.heap.size;have e1:w1.heap.size=g0+1:=by rw[HSZ1.out,hg0]
 have e2:w2.heap.size=g0+2:=qO;obtain⟨w3,hw3⟩:=qM (w2.alloc (.cells Z 232));have hb3:Below w2.heap.size w2 w3:=by rw[<-hw3];exact qB.alloc qN _
 have hgZ:w3.heap[g0+2]? =some (.cells (bytesV bL).toArray 232 (0,0)):=by
  rw[<-hw3,<-e2,<-HZ.out];exact World.alloc_heap_new _ _
 have hgR:w3.heap[g0]? =some (.cells (bytesV bL).toArray 232 (0,0)):=by
  rw[hb3.block g0 qO,hb2.block g0 qO,<-hg0,HG1.out,HZ.out]
 have hT3:TabAt w3 (g0+1) C:=by rw[<-e1];exact hT2.later hb3
 have hB3:Below w.heap.size w w3:=Ks (Ks HB1.out hb2) hb3;have HGZ:=Lh hgZ;have HGR:=Lh hgR;have HT3:=Lh hT3;have HB3:=Lh hB3;have HW3:=Lh hw3;have HGE:=Lh hg0;have HE2:=Lh e2;rw[hg0,e1];clear hw2 hT2 hb2 hs2 hb3 hgZ hgR hT3 hB3 hw3 hg0 HG1 HB1 HSZ1 hC e1 e2;go_wp2_with fail;rw[HW3.out,HE2.out];go_loopw [6,14] (fun _ i wr=>Zy z w g0 (g0+1) (g0+2) C i wr) (fun _ i _=>32-(intOf i).toNat)
 case atStart=>exact⟨0,Nat.zero_le _,rfl,⟨bL,by simp[bL],fun j h=>absurd h qO,HGZ.out⟩,HGR.out,HT3.out,HB3.out⟩
 case round=>
  rename World=>W1
  obtain⟨k,hk,rfl,⟨ys,hys,hco,hg⟩,hg0,hT,hb⟩:=hrel;by_cases hlt:k<32
  ·have hd1:decide ((k:Int)<32)=true:=by simpa using (by omega:(k:Int)<32)
   have EX:=Lh (Q7 k qO (g0+1) C W1 hT);have VC:Hid (∀n,Calls Tryz.prog 173 #[.pointer (some ⟨g0+1,0,none⟩),.slice o z.length c,.int .u8 ((Gf.al k).toNat:Int)] (W1.drewN n) fun e w'=>e=.returned (.int .u8 ((Gf.hv (Gf.al k) z).toNat:Int))/\Kit.Dn W1 w'):=Lh fun n=>by
    refine(D8 z (Gf.al k) (g0+1) C o c (W1.drewN n) ((HP.out.later hb).later (Kit.dn' _ n)) (hT.later (Kit.dn' _ n))).mono ?_;rintro e w' ⟨rfl,m,rfl⟩;exact⟨rfl,n+m,by rw[World.drewN_drewN]⟩
   obtain⟨x,hx⟩:=qM (Gf.al k);rw[hx]at EX VC;obtain⟨s,hs⟩:=qM (Gf.hv x z);rw[hs]at VC;have hxl:=UInt8.toNat_lt x;have hsl:=UInt8.toNat_lt s;have HCO:=Lh hco;have HG:=Lh hg;have HG0:=Lh hg0;have HT:=Lh hT;have HB:=Lh hb;have HS:Hid (Gf.hv (Gf.al k) z=s):=Lh (by rw[hx,hs]);clear hco hg hg0 hT hb hx hs;have hk0:(0:Int)<=(k:Int):=qO;have hk1:(k:Int)<32:=qO;go_wp2_with fail;refine EX.out.mono ?_;rintro e v1 ⟨rfl,n1,rfl⟩;go_wp2_with fail;refine(VC.out n1).mono ?_;rintro e v2 ⟨rfl,hd⟩;have hgv:v2.heap[g0+2]? =_:=(A9 hd (g0+2)).trans HG.out;have hg0v:v2.heap[g0]? =_:=(A9 hd g0).trans HG0.out;have hTv:TabAt v2 (g0+1) C:=HT.out.later hd.below;have hBv:Below w.heap.size w v2:=Ks HB.out hd.below;have hce:v2.cell? ⟨g0+2,k,none⟩=some (.int .u8 ((co ys k).toNat:Int)):=by
    unfold World.cell?;rw[hgv];show(bytesV ys).toArray[k]? =_;rw[List.getElem?_toArray];exact aB ys k qO
   have hfr:v2.frozen? ⟨g0+2,k,none⟩=false:=by
    unfold World.frozen?;rw[hgv];rfl
   obtain⟨w4,hw4⟩:=qM (v2.setCell ⟨g0+2,k,none⟩ (.int .u8 (s.toNat:Int)));have hset:=setCell_eq_setRow v2 (g0+2) k _ _ _ (.int .u8 (s.toNat:Int)) hgv;rw[hw4,rx]at hset;have hg4:w4.heap[g0+2]? =some (.cells (bytesV (ys.set k s)).toArray 232 (0,0)):=by rw[hset];exact setRow_heap _ _ _ _ _ _ hgv
   have hg5:w4.heap[g0]? =some (.cells (bytesV bL).toArray 232 (0,0)):=by rw[hset,setRow_other _ _ _ _ qO];exact hg0v
   have hT5:TabAt w4 (g0+1) C:=⟨by rw[hset,setRow_other _ _ _ _ qO];exact hTv.block,hTv.tab⟩;have hb4:Below w.heap.size w w4:=by rw[hset];exact hBv.trans (below_setRow (by have:=HGE.out;omega))
   have HG4:=Lh hg4;have HG5:=Lh hg5;have HT5:=Lh hT5;have HB4:=Lh hb4;have HW4:=Lh hw4;clear hw4 hset hg4 hg5 hT5 hb4 hgv hg0v hTv hBv hd EX VC;go_wp2_with fail;rw[HW4.out];go_roundw
   case rel=>
    refine⟨k+1,qO,by go_num,⟨ys.set k s,by simp[hys],fun j hj=>?_,HG4.out⟩,HG5.out,HT5.out,HB4.out⟩;rw[cj];by_cases e:k=j
    ·subst e;rw[if_pos ⟨rfl,qO⟩,HS.out]
    ·rw[if_neg (fun h=>e h.1)];exact HCO.out j qO
   case measure=>simp[intOf];omega
  ·obtain rfl:k=32:=qO;have hye:ys=a7 z:=aN (by simp[hys]) fun j hj=>by
    rw[hco j qO];exact(aT (fun j=>Gf.hv (Gf.al j) z) 32 j qO).symm
   subst hye;have hsz:=cU (ys:=a7 z) hys;have hst:=one_cell (a7 z);have HSZ:=Lh hsz;have HST:=Lh hst;have HOL:Hid ((bytesV bL).toArray.size=(bytesV (a7 z)).toArray.size):=Lh (by simp[bL]);obtain⟨S,hS⟩:=qM ((bytesV (a7 z)).toArray);rw[hS]at hg HSZ HST HOL;have HG:=Lh hg;have HG0:=Lh hg0;have HCE:=Lh hS;have HGW:Hid ((W1.setRow g0 S).heap[g0]? =some (.cells S 232 (0,0))):=Lh (setRow_heap _ _ _ _ _ _ hg0);have HBW:Hid (Below w.heap.size w (W1.setRow g0 S)):=Lh (hb.trans (below_setRow (by have:=HGE.out;omega)));clear hsz hst hS hg hg0 hb hT hco;go_wp2_with (first|refine wpList_load_row rfl 232 (.tmp 5) rfl (g0+2) rfl 232 S (0,0) _ HG.out bT rfl HSZ.out ?_|refine wpList_store_row rfl 232 (.tmp 2) (.tmp 26) rfl g0 S rfl rfl 232 (bytesV bL).toArray HG0.out HSZ.out HOL.out HST.out ?_)
   refine bodyPost_ret (aD rfl _ _ g0 232 S (0,0) _ rfl HGW.out bT rfl HSZ.out) rfl ?_;exact⟨by rw[HCE.out];rfl,HBW.out⟩
theorem yt(z:BL)(o:Option Addr)(c:Nat)(w:World)(hP:RowIs w o (bytesV z) c)(h33:33<=z.length/\z.length<=255):
  Calls Tryz.prog 144 #[.slice o z.length c] w fun e w'=>e=.returned (.tuple #[.agg (bytesV (a7 z)).toArray,.nilIface])/\Below w.heap.size w w':=
 Ie _ rfl fZ z o c w hP h33
