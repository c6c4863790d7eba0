/- Mu -/
import Derived.Test.YteldgablpehcpaaGreatDoorRg
import Derived.Test.YteldgablpehcpaaGreatDoorSl
import Derived.Test.YteldgablpehcpaaGreatDoorFwm
import Derived.Deep.RegionHeld3
import Derived.Laws.CopyOwn
set_option linter.unusedVariables false
set_option linter.unusedSimpArgs false
set_option maxRecDepth 100000
set_option maxHeartbeats 8000000
namespace Go.Proofs.YteldgablpehcpaaGreatDoor
open Go.RowKit
section
open Go.Shelf
theorem makes{P:Program}(fn:Fn)(first cap:Array Value)(w:World):(Instr.makeFunc fn first cap).run P w=.ok (.func fn first cap) w:=qK
theorem RowIs.nc{B:Nat}{X X':World}{o:Option Addr}{vs:List Value}{c:Nat}(h:RowIs X o vs c)(k:Rf.NC B X X'):RowIs X' o vs c:=
 ⟨h.le,h.cap,h.nil,fun h0=>by
  obtain⟨b,off,e,hlt,hc⟩:=h.cells h0;exact⟨b,off,e,Nat.lt_of_lt_of_le hlt k.size,fun i v hv=>k.cell (hc i v hv)⟩⟩
theorem RowIs.uniq{X:World}{o:Option Addr}{a b:BL}{c d:Nat}(h:RowIs X o (bytesV a) c)(k:RowIs X o (bytesV b) d)(hl:a.length=b.length):a=b:=by
 by_cases h0:0<a.length
 ·obtain⟨p,off,rfl,_,hc⟩:=h.cells (by simpa using h0);obtain⟨p',off',e,_,kc⟩:=k.cells (by simp;omega);injection e with e
  injection e with e1 e2
  subst e1;subst e2;refine aN hl fun i hi=>?_
  have h1:=hc i _ (aB a i hi);have h2:=kc i _ (aB b i qO);rw[h1]at h2;have h3:(((a.getD i 0).toNat:Int))=((b.getD i 0).toNat:Int):=by
   injection h2 with h2
   injection h2
  exact Gf.bR (Int.ofNat.inj h3)
 ·rw[List.eq_nil_of_length_eq_zero (show a.length=0 by omega),List.eq_nil_of_length_eq_zero (show b.length=0 by omega)]
theorem rp(o:Option Addr)(n c:Nat)(w:World):
  Calls Tryz.prog 203 #[.slice o n c] w fun e w'=>e=.returned (.func (.func 226) #[] #[.pointer (some ⟨w.heap.size,0,none⟩)])/\w'=w.alloc (.cells #[.slice o n c] 22):=by
 have hmf:= @makes Tryz.prog;go_enter Tryz.func203,Tryz.ntmps203
 go_wp2
 go_ret;exact⟨rfl,rfl⟩
section
attribute [local go_sem] Oper.semAt_some
theorem uc(l:Nat)(I:Nat->World->Prop)(B Bx:World->Prop)(o:Option Addr)(n c Q:Nat)(w:World)
  (hI:∀i X,I i X->X.cell? ⟨Q,0,none⟩=some (.slice o n c)/\∃z:BL,z.length=n/\RowIs X o (bytesV z) c)
  (hskip:∀i X(z:BL),I (i+1) X->i<n->RowIs X o (bytesV z) c->z.length=n->co z i=0->I i X)
  (hturn:∀i(b:UInt8) X,I (i+1) X->B X->i<n->(∃z:BL,z.length=n/\RowIs X o (bytesV z) c/\co z i=b)->b≠0->
   YieldAt Fence.wide 0 Tryz.prog l #[.int .i64 i,.int .u8 (b.toNat:Int)] X fun e X'=>(e=.returned (.bool true)/\I i X'/\B X')∨(e=.returned (.bool false)/\Bx X'))
  (h0:I n w) (hB:B w):
  Calls Tryz.prog 226 #[.func (.yield l) #[] #[],.pointer (some ⟨Q,0,none⟩)] w fun e X=>(∃v,e=.returned v)/\((I 0 X/\B X)∨Bx X):=by
 refine(callsIn_wide (n:=0)).1 (callsIn_of_wp Tryz.func226 rfl trivial ?_ rfl);simp only[Tryz.ntmps226,List.size_toArray,List.length_cons,List.length_nil,Nat.reduceAdd,Nat.reduceSub,Array.replicate_succ,Array.replicate_zero,List.push_toArray,List.append_toArray,List.nil_append,List.cons_append];obtain⟨hq,z0,hz0,hr0⟩:=hI _ _ h0;have hn:n<=9223372036854775807:=by
  have h1:=hr0.le;have h2:=hr0.cap;simp only[bytesV_length]at h1;unfold maxLen at h2;omega
 clear hz0 hr0;gi_wp2
 gi_loopw [3] (fun p wr=>∃k:Nat,k<=n/\p=.int .i64 ((k:Int)-1)/\I k wr/\B wr) (fun p wr=>(intOf p+1).toNat)
 case atStart=>exact⟨n,Nat.le_refl _,by go_num,h0,hB⟩
 case round=>
  obtain⟨k,hk,rfl,hi,hb⟩:=hrel;obtain⟨hq2,z,hz,hr⟩:=hI _ _ hi;cases k with
  |zero=>
   gi_wp2
   go_end0
   exact⟨⟨_,rfl⟩,.inl ⟨hi,hb⟩⟩
  |succ k=>
   have hm:=hr.cap;have hle:=hr.le;simp only[bytesV_length]at hle;unfold maxLen at hm;obtain⟨b1,off1,rfl,hb1,hcell⟩:=hr.cells (by simp;omega);have hc1:wr.cell? ⟨b1,off1+k,none⟩=some (.int .u8 ((co z k).toNat:Int)):=hcell k _ (aB z k qO);have hx:=UInt8.toNat_lt (co z k);by_cases h0:co z k=0
   ·have hnext:=hskip k wr z hi qO hr hz h0;rw[h0]at hc1;gi_wp2
    refine⟨fun _ h=>(by cases h),?_⟩;gi_wp2
    go_roundw
    case rel=>exact⟨k,qO,by go_num,hnext,hb⟩
    case measure=>simp[intOf]
   ·have h00:¬(co z k).toNat=0:=fun e=>h0 (Gf.bR e)
    have t1:(((co z k).toNat:Int)==0)=false:=by simpa using h00
    have t2:(((co z k).toNat:Int) !=0)=true:=by simp[bne,t1]
    obtain⟨fn,tmps,assign,body,hy,hR⟩:=hturn k (co z k) wr hi hb qO ⟨z,hz,hr,rfl⟩ h0;gi_wp2
    refine⟨rfl,hR.mono ?_⟩;rintro e W3 (⟨rfl,hi3,hb3⟩|⟨rfl,hx3⟩)
    ·gi_wp2
     go_roundw
     case rel=>exact⟨k,qO,by go_num,hi3,hb3⟩
     case measure=>simp[intOf]
    ·gi_wp2
     refine bodyPost_ret (results_none rfl _ _ _) rfl ?_;exact⟨⟨_,rfl⟩,.inr hx3⟩
theorem qg(o:Option Addr)(z:BL)(c:Nat)(w:World)(h:RowIs w o (bytesV z) c):
  Calls Tryz.prog 178 #[.slice o z.length c] w fun e w'=>e=.returned (.int .i64 ((tl z z.length:Int)-1))/\Below w.heap.size w w':=by
 refine Rf.dh Tryz.func178 rfl ?_;simp only[Tryz.ntmps178,List.size_toArray,List.length_cons,List.length_nil,Nat.reduceAdd,Nat.reduceSub,Array.replicate_succ,Array.replicate_zero,List.push_toArray,List.append_toArray,List.nil_append,List.cons_append];go_wp2_with fail;refine(rp o z.length c _).mono ?_;rintro e w1 ⟨rfl,hw1⟩;go_wp2_with fail;have hb0:Below w.heap.size w w1:=by rw[hw1];exact((Below.refl _ w).alloc qN _).alloc qS _
 have hc0:w1.cell? ⟨w.heap.size,0,none⟩=some (.int .i64 0):=by rw[hw1];simp
 have hf0:w1.frozen? ⟨w.heap.size,0,none⟩=false:=by rw[hw1];simp
 have hq0:w1.cell? ⟨w.heap.size+1,0,none⟩=some (.slice o z.length c):=by rw[hw1];simp
 have hs0:w1.heap.size=w.heap.size+2:=by rw[hw1];simp
 rw[<-hw1];refine Rf.jd (α:=Nat×UInt8) (σ:=Nat) rfl (enters_of Tryz.func226 qK rfl) (fun x=> #[.int .i64 x.1,.int .u8 (x.2.toNat:Int)]) (fun _=>rfl)
  (fun i X=>tl z z.length<=i/\i<=z.length/\w1.heap.size<=X.heap.size/\Rf.NC w1.heap.size w1 X)
  (fun c X=>c=.ret/\X.cell? ⟨w.heap.size,0,none⟩=some (.int .i64 ((tl z z.length:Int)-1))/\tl z z.length≠0/\Below w.heap.size w X)
  (fun s x s' X=>tl z z.length=s/\s=x.1+1)
  z.length (fun s=>tl z z.length=0) ?hI ?hIx ?hV ?h0 ?hseq
  ?round ?done ?stop
 case hI=>exact fun s X X' h k=>⟨h.1,h.2.1,Nat.le_trans h.2.2.1 k.size,h.2.2.2.trans k⟩
 case hIx=>exact fun c X X' h k=>⟨h.1,k.cell h.2.1,h.2.2.1,h.2.2.2.trans (k.below qO h.2.2.2.size)⟩
 case hV=>exact fun s x s' X X' h k=>h
 case h0=>exact⟨uR _ _,Nat.le_refl _,Nat.le_refl _,Rf.NC.refl _ _⟩
 case round=>
  rintro l s x s' X Z To ⟨h1,h2,h3,h4⟩ ⟨h5,h6⟩ HN HR HE;have hc:=h4.cell hc0;have hf:=(h4.frozen hc0).trans hf0;gi_wp2
  refine HR.out _ _ (KeepsOthers.setCell _ _ _) ⟨by trivial,?_,qO,?_⟩
  ·rw[World.cell?_setCell_same' _ _ _ (by rw[hc];rfl),h5,h6];exact congrArg some (by go_num)
  ·exact(hb0.trans (h4.below qO qO:Below w.heap.size w1 X)).setCell (p:=⟨w.heap.size,0,none⟩) qN _
 case done=>
  rintro D s X hD hE ⟨h1,h2,h3,h4⟩ hK;have hc:=h4.cell hc0;have hf:=(h4.frozen hc0).trans hf0;go_wp2
  have hK':=(KeepsOthers.setCell X ⟨w.heap.size,0,none⟩ (.int .i64 (-1))).same D _ hK rfl;refine Rf.leaves (v:=.int .i64 (-1)) hK' ?_ ?_
  ·have hc5:=cell_kept (World.cell?_setCell_same' X ⟨w.heap.size,0,none⟩ (.int .i64 (-1)) (by rw[hc];rfl)) (grownBy_putObj' _ D (.deferred none)) (fun r e=>by cases e;exact⟨_,hK',rfl⟩);simp[results,Tryz.f178,go_sem,hc5]
  ·have hb1:Below w.heap.size w X:=hb0.trans (h4.below qO qO);refine⟨by rw[hE];rfl,(hb1.setCell (p:=⟨w.heap.size,0,none⟩) qN _).trans (belowK_b (w:=w) qN _ D _ _ qO hK' rfl rfl)⟩
 case stop=>
  rintro D c X hD ⟨rfl,hc,h0,hb⟩ hK;go_wp2
  refine Rf.leaves (v:=.int .i64 ((tl z z.length:Int)-1)) hK ?_ ?_
  ·have hc5:=cell_kept hc (grownBy_putObj' X D (.deferred none)) (fun r e=>by cases e;exact⟨_,hK,rfl⟩);simp[results,Tryz.f178,go_sem,hc5]
  ·exact⟨rfl,hb.trans (belowK_b (w:=w) qN X D _ _ qO hK rfl rfl)⟩
 case hseq=>
  have hr1:=h.later hb0;intro l B Bx X hnc hi hB hk ht;refine(uc l (fun i X=>tl z z.length<=i/\i<=z.length/\w1.heap.size<=X.heap.size/\Rf.NC w1.heap.size w1 X) B Bx o z.length c (w.heap.size+1) X ?_ ?_ ?_ hi hB).mono ?_
  ·exact fun i X h=>⟨h.2.2.2.cell hq0,z,rfl,hr1.nc h.2.2.2⟩
  ·rintro i X z' ⟨h1,h2,h3,h4⟩ hlt hr hl h0;obtain rfl:=RowIs.uniq (hr1.nc h4) hr hl.symm;refine⟨?_,qO,h3,h4⟩;have:=nQ z z.length;by_cases e:tl z z.length=i+1
   ·rw[e]at this;exact absurd h0 (this qO)
   ·omega
  ·rintro i b X hI hB hlt ⟨z',hl,hr,rfl⟩ hb;obtain⟨h1,h2,h3,h4⟩:=hI;obtain rfl:=RowIs.uniq (hr1.nc h4) hr hl.symm;have e:tl z z.length=i+1:=by
    by_cases e:tl z z.length<=i
    ·exact absurd (tU z z.length i e hlt) hb
    ·omega
   exact ht (i+1) (i,co z i) i X ⟨h1,h2,h3,h4⟩ hB ⟨e,rfl⟩
  ·rintro e X' ⟨hv,(⟨h,hB⟩|hx)⟩
   ·exact⟨hv,.inl ⟨0,qO,h,hB⟩⟩
   ·exact⟨hv,.inr hx⟩
theorem RowIs.take{W:World}{o:Option Addr}{z:BL}{c:Nat}(h:RowIs W o (bytesV z) c)(n:Nat):RowIs W o (bytesV (z.take n)) c:=
 ⟨by have:=h.le;simp at*;omega,h.cap,h.nil,fun h0=>by
  obtain⟨b,off,e,hlt,hc⟩:=h.cells (by simp at*;omega);refine⟨b,off,e,hlt,fun i v hv=>hc i v ?_⟩;have hi:=(List.getElem?_eq_some_iff.1 hv).1;simp only[bytesV_length,List.length_take]at hi;rw[<-hv];unfold bytesV;rw[List.map_take,List.getElem?_take_of_lt qO]⟩
theorem dl(o:Option Addr)(z:BL)(c:Nat)(w:World)(h:RowIs w o (bytesV z) c):
  Calls Tryz.prog 214 #[.slice o z.length c] w fun e w'=>e=.returned (.slice o (tr z).length c)/\Below w.heap.size w w'/\RowIs w' o (bytesV (tr z)) c:=by
 have hm:=h.cap;have hle:=h.le;simp only[bytesV_length]at hle;unfold maxLen at hm;have ht:=uR z z.length;have HL:=Lh (cL z);have HR:=Lh h;clear h;have hd:=qg o z c w HR.out;generalize tl z z.length=m at*;have HD:=Lh hd;clear hd;go_enter Tryz.func214,Tryz.ntmps214
 go_wp2_with fail;refine HD.out.mono ?_;rintro e w1 ⟨rfl,hb⟩;have HB:=Lh hb;clear hb;go_wp2_with fail;go_ret;exact⟨by rw[HL.out];rfl,HB.out,(HR.out.later HB.out).take _⟩
end
end
def Buf(W:World)(g cap:Nat)(ys:BL):Prop:=W.ownsRow 0 5 1 (.slice (some ⟨g,0,none⟩) ys.length cap) ys.length (bytesV ys)
theorem Buf.lt{W:World}{g cap:Nat}{ys:BL}(h:Buf W g cap ys):g<W.heap.size:=(World.ownsRow.lt h g rfl).2
theorem Buf.le{W:World}{g cap:Nat}{ys:BL}(h:Buf W g cap ys):ys.length<=cap/\cap<=maxLen:=by
 obtain⟨hl,hx⟩:=h;rcases hx with ⟨h,_⟩|⟨g',cap',cur,h,_,hh,h1,h2,hcur,htake⟩
 ·cases h
 ·injection h with _ _ h3
  subst h3;exact⟨h1,h2⟩
theorem Buf.later{W W':World}{g cap:Nat}{ys:BL}(h:Buf W g cap ys)(hb:Below W.heap.size W W'):Buf W' g cap ys:=by
 have hlt:=h.lt;obtain⟨hl,hx⟩:=h;refine⟨hl,?_⟩;rcases hx with hx|⟨g',cap',cur,h,h0,hh,h4⟩
 ·exact .inl hx
 ·injection h with h1 h2 h3
  injection h1 with h1
  injection h1 with h1
  subst h1;exact .inr ⟨g,cap',cur,by rw[h3],h0,by rw[hb.block g hlt];exact hh,h4⟩
theorem Buf.nc{B:Nat}{X X':World}{g cap:Nat}{ys:BL}(h:Buf X g cap ys)(k:Rf.NC B X X'):Buf X' g cap ys:=k.owns h
theorem Buf.cells{W:World}{g cap:Nat}{ys:BL}(h:Buf W g cap ys):∃cur,W.heap[g]? =some (.cells cur 5 (0,0)):=by
 obtain⟨hl,hx⟩:=h;rcases hx with ⟨h,_⟩|⟨g',cap',cur,h,_,hh,h1,h2,hcur,htake⟩
 ·cases h
 ·injection h with h1 _ _
  injection h1 with h1
  injection h1 with h1
  subst h1;exact⟨cur,hh⟩
theorem Buf.cell{W:World}{g cap:Nat}{ys:BL}(h:Buf W g cap ys)(i:Nat)(hi:i<ys.length):W.cell? ⟨g,i,none⟩=some (.int .u8 ((co ys i).toNat:Int)):=by
 have:=World.ownsRow.cellAt h i qO;rw[this];exact aB ys i hi
theorem Buf.frozen{W:World}{g cap:Nat}{ys:BL}(h:Buf W g cap ys)(i:Nat):W.frozen? ⟨g,i,none⟩=false:=World.ownsRow.frozenAt h i
theorem ud(ys:BL)(i:Nat)(b:UInt8):(bytesV ys).set i (.int .u8 (b.toNat:Int))=bytesV (ys.set i b):=by
 simp[bytesV,List.map_set]
theorem Buf.store{W:World}{g cap:Nat}{ys:BL}(h:Buf W g cap ys)(i:Nat)(b:UInt8):
  Buf (W.setCell ⟨g,i,none⟩ (.int .u8 (b.toNat:Int))) g cap (ys.set i b)/\W.grownBy (W.setCell ⟨g,i,none⟩ (.int .u8 (b.toNat:Int))) (some g):=by
 have:=World.ownsRow.stored h i (.int .u8 (b.toNat:Int));refine⟨?_,this.2⟩;have h1:=this.1;rw[ud]at h1;unfold Buf;rw[List.length_set];exact h1
theorem Buf.row{W:World}{g cap:Nat}{ys:BL}(h:Buf W g cap ys):RowIs W (some ⟨g,0,none⟩) (bytesV ys) cap:=
 ⟨by have:=h.le;simp;omega,h.le.2,(fun e=>by cases e),fun h0=>⟨g,0,rfl,h.lt,fun i v hv=>by
  have hi:=(List.getElem?_eq_some_iff.1 hv).1;rw[Nat.zero_add,World.ownsRow.cellAt h i (by simp at hi;omega)];exact hv⟩⟩
def Only(g:Nat)(W W':World):Prop:=W.grownBy W' (some g)
theorem Only.refl(g:Nat)(W:World):Only g W W:=⟨rfl,rfl,rfl,Nat.le_refl _,fun _ _ _=>rfl⟩
theorem Only.trans{g:Nat}{a b c:World}(h:Only g a b)(k:Only g b c):Only g a c:=
 ⟨k.os.trans h.os,k.tape.trans h.tape,k.output.trans h.output,Nat.le_trans h.size k.size,fun i hi hn=>(k.block i (Nat.lt_of_lt_of_le hi h.size) hn).trans (h.block i hi hn)⟩
theorem Only.of_below{g:Nat}{a b:World}(h:Below a.heap.size a b):Only g a b:=⟨h.os,h.tape,h.output,h.size,fun i hi _=>h.block i hi⟩
theorem Only.below{g n:Nat}{a b:World}(h:Only g a b)(hg:n<=g)(hn:n<=a.heap.size):Below n a b:=(Below.refl n a).grown h hn (fun k e=>by cases e;exact hg)
theorem Only.keeps{g cap:Nat}{ys:BL}{a b:World}(h:Only g a b)(hb:Buf a g cap ys):KeepsOthers a b:=by
 obtain⟨cur,hc⟩:=hb.cells;refine KeepsOthers.of_grownBy h (fun j o e hj=>?_);cases e
 rw[hc]at hj;cases hj
 rfl
theorem Only.cell{g:Nat}{a b:World}(h:Only g a b){p:Addr}{v:Value}(hp:p.block≠g)(hv:a.cell? p=some v):b.cell? p=some v:=World.grownBy.cell h hv (fun e=>hp (by cases e;rfl))
theorem RowIs.apart{w:World}{o:Option Addr}{vs:List Value}{c:Nat}(hr:RowIs w o vs c){g:Nat}(hg:w.heap.size<=g):0<vs.length->∀p,o=some p->p.block≠g:=fun h0 p e=>by
 obtain⟨b,off,e2,hlt,_⟩:=hr.cells h0;rw[e]at e2;cases e2
 show b≠g;omega
theorem Only.row{g:Nat}{a b:World}(h:Only g a b){o:Option Addr}{vs:List Value}{c:Nat}(hr:RowIs a o vs c)(hne:0<vs.length->∀p,o=some p->p.block≠g):RowIs b o vs c:=
 ⟨hr.le,hr.cap,hr.nil,fun h0=>by
  obtain⟨p,off,e,hlt,hc⟩:=hr.cells h0;exact⟨p,off,e,Nat.lt_of_lt_of_le hlt h.size,fun i v hv=>h.cell (p:=⟨p,off+i,none⟩) (show p≠g from hne h0 _ e) (hc i v hv)⟩⟩
theorem Only.tab{g T:Nat}{C:Array Value}{a b:World}(h:Only g a b)(ht:TabAt a T C)(hne:T≠g):TabAt b T C:=
 ⟨by rw[h.block T (aE.1 ht.block).1 (fun e=>hne (by cases e;rfl))];exact ht.block,ht.tab⟩
theorem bn{a b:World}(h:Below a.heap.size a b):KeepsOthers a b:=
 ⟨h.size,fun k o hk _=>by rw[h.block k (aE.1 hk).1];exact hk⟩
theorem cj(ys:BL)(i j:Nat)(b:UInt8):co (ys.set i b) j=if i=j/\i<ys.length then b else co ys j:=by
 unfold co;rw[List.getD_eq_getElem?_getD,List.getD_eq_getElem?_getD,List.getElem?_set];by_cases e:i=j
 ·subst e;by_cases h:i<ys.length
  ·simp[h]
  ·simp[h]
 ·simp[e]
def mix(ys:BL)(off:Nat)(z:BL)(a:UInt8):BL:=tab (fun i=>co ys i^^^Gf.ps off (fun j=>Gf.gm (co z j) a) i) ys.length
@[simp] theorem ji(ys:BL)(off:Nat)(z:BL)(a:UInt8):(mix ys off z a).length=ys.length:=by simp[mix]
theorem kq(ys:BL)(off:Nat)(z:BL)(a:UInt8)(i:Nat)(h:i<ys.length):co (mix ys off z a) i=co ys i^^^Gf.ps off (fun j=>Gf.gm (co z j) a) i:=aT _ _ _ h
theorem nS(ys:BL)(off:Nat)(z:BL)(a:UInt8):mix ys off (z.take 0) a=ys:=by
 refine aN qS fun i hi=>?_
 rw[kq _ _ _ _ _ (by simpa using hi)];unfold Gf.ps;split
 ·show co ys i^^^Gf.gm (co (z.take 0) (i-off)) a=_;rw[jU,if_neg qO,Gf.aK,UInt8.xor_zero]
 ·rw[UInt8.xor_zero]
theorem nT(ys:BL)(off:Nat)(z:BL)(a:UInt8)(k:Nat)(hk:k<z.length)(hl:off+z.length<=ys.length):
  (mix ys off (z.take k) a).set (off+k) (co (mix ys off (z.take k) a) (off+k)^^^Gf.gm (co z k) a)=mix ys off (z.take (k+1)) a:=by
 refine aN qS fun i hi=>?_
 have hi2:i<ys.length:=by simpa using hi
 rw[cj,kq _ _ _ _ i hi2,kq _ _ _ _ i hi2,kq _ _ _ _ (off+k) qO];by_cases e:off+k=i
 ·subst e;rw[if_pos ⟨rfl,by simp;omega⟩];unfold Gf.ps;rw[if_pos qO,if_pos qO,Nat.add_sub_cancel_left];dsimp only;rw[jU,jU,if_neg qO,if_pos qO,Gf.aK,UInt8.xor_zero]
 ·rw[if_neg (fun h=>e h.1)];unfold Gf.ps;split
  ·dsimp only;rw[jU,jU];by_cases h2:i-off<k
   ·rw[if_pos h2,if_pos qO]
   ·rw[if_neg h2,if_neg qO]
  ·rfl
theorem bK{W:World}{g n:Nat}(h:W.ownsRow 0 5 1 (.slice (some ⟨g,0,none⟩) n n) n (madeCells #[.int .u8 0] n).toList):Buf W g n (List.replicate n 0):=by
 unfold Buf;have e:(madeCells #[.int .u8 0] n).toList=bytesV (List.replicate n 0):=by
  rw[toList_madeCells_one];simp[bytesV]
 rw[e]at h;rw[List.length_replicate];exact h
structure Bt(g B:Nat)(X X':World):Prop where
 os:X'.os=X.os
 tape:X'.tape=X.tape
 output:X'.output=X.output
 size:X.heap.size<=X'.heap.size
 same:∀k o,k≠g->X.heap[k]? =some o->o.isCells=true∨k<B->X'.heap[k]? =some o
theorem Bt.refl(g B:Nat)(X:World):Bt g B X X:=⟨rfl,rfl,rfl,Nat.le_refl _,fun _ _ _ h _=>h⟩
theorem Bt.trans{g B:Nat}{X Y Z:World}(h:Bt g B X Y)(k:Bt g B Y Z):Bt g B X Z:=
 ⟨k.os.trans h.os,k.tape.trans h.tape,k.output.trans h.output,Nat.le_trans h.size k.size,fun i o hg hi ho=>k.same i o hg (h.same i o hg hi ho) ho⟩
theorem Bt.of_nc{g B B':Nat}{X Y:World}(h:Rf.NC B' X Y)(hB:B<=B'):Bt g B X Y:=⟨h.os,h.tape,h.output,h.size,fun i o _ hi ho=>h.same i o hi (ho.imp id (fun h=>qO))⟩
theorem Bt.of_only{g B:Nat}{X Y:World}(h:Only g X Y):Bt g B X Y:=
 ⟨h.os,h.tape,h.output,h.size,fun i o hg hi _=>(h.block i (aE.1 hi).1 (fun e=>hg (by cases e;rfl))).trans hi⟩
theorem Bt.cell{g B:Nat}{X Y:World}(h:Bt g B X Y){p:Addr}{v:Value}(hp:p.block≠g)(hv:X.cell? p=some v):Y.cell? p=some v:=by
 obtain⟨o,ho,hc⟩:=cells_of_cell hv;exact(World.cell?_of_block ((h.same _ o hp ho (.inl hc)).trans ho.symm)).trans hv
theorem Bt.row{g B:Nat}{a b:World}(h:Bt g B a b){o:Option Addr}{vs:List Value}{c:Nat}(hr:RowIs a o vs c)(hne:0<vs.length->∀p,o=some p->p.block≠g):RowIs b o vs c:=
 ⟨hr.le,hr.cap,hr.nil,fun h0=>by
  obtain⟨p,off,e,hlt,hc⟩:=hr.cells h0;exact⟨p,off,e,Nat.lt_of_lt_of_le hlt h.size,fun i v hv=>h.cell (p:=⟨p,off+i,none⟩) (show p≠g from hne h0 _ e) (hc i v hv)⟩⟩
theorem Bt.tab{g B T:Nat}{C:Array Value}{a b:World}(h:Bt g B a b)(ht:TabAt a T C)(hne:T≠g):TabAt b T C:=⟨h.same T _ hne ht.block (.inl rfl),ht.tab⟩
theorem Bt.boxed{g B k:Nat}{t:TypeId}{v:Value}{a b:World}(h:Bt g B a b)(ht:Boxed a k t v)(hne:k≠g):Boxed b k t v:=h.same k _ hne ht (.inl rfl)
theorem Bt.below{g B n:Nat}{X X':World}(h:Bt g B X X')(hg:n<=g)(hn:n<=B)(hx:n<=X.heap.size):Below n X X':=
 ⟨h.os,h.tape,h.output,h.size,fun k hk=>by
  have hlt:k<X.heap.size:=qO;rw[Array.getElem?_eq_getElem hlt];exact h.same k _ qO (Array.getElem?_eq_getElem hlt) (.inr qO)⟩
theorem aC{k:Nat}{t:TypeId}{v:Value}{a b:World}(ht:Boxed a k t v)(h:Below a.heap.size a b):Boxed b k t v:=by
 unfold Boxed at*;rw[h.block k (aE.1 ht).1];exact ht
theorem Fy{ys:BL}{i:Nat}(h:co ys i≠0):i<ys.length:=by
 by_cases e:i<ys.length
 ·exact e
 ·exact absurd (aZ qO) h
def part(p q:BL)(i:Nat):BL:=tab (fun k=>Gf.sm (fun j=>Gf.gm (co p (i+j)) (Gf.ps (i+j) (co q) k)) (p.length-i)) (p.length+q.length)
@[simp] theorem A4(p q:BL)(i:Nat):(part p q i).length=p.length+q.length:=by simp[part]
theorem tV(p q:BL)(i k:Nat)(h:k<p.length+q.length):co (part p q i) k=Gf.sm (fun j=>Gf.gm (co p (i+j)) (Gf.ps (i+j) (co q) k)) (p.length-i):=aT _ _ _ h
theorem DJ(p q:BL):part p q p.length=List.replicate (p.length+q.length) 0:=by
 refine aN qS fun i hi=>?_
 rw[tV _ _ _ _ (by simpa using hi),Nat.sub_self];show(0:UInt8)=_;simp[co,List.getD_eq_getElem?_getD,List.getElem?_replicate];split<;>rfl
theorem IO(p q:BL):part p q 0=bB p q:=by
 refine aN (by simp[bB]) fun i hi=>?_
 rw[tV _ _ _ _ (by simpa using hi),ir,Nat.sub_zero];exact Gf.aW fun j _=>by rw[Nat.zero_add]
theorem xU(p q:BL)(i k:Nat)(hi:i<p.length)(hk:k<p.length+q.length):co (part p q i) k=Gf.gm (co p i) (Gf.ps i (co q) k)^^^co (part p q (i+1)) k:=by
 rw[tV _ _ _ _ hk,tV _ _ _ _ hk,show p.length-i=(p.length-(i+1))+1 by omega,Gf.iB,Nat.add_zero];congr 1
 exact Gf.aW fun j _=>by rw[show i+(j+1)=i+1+j by omega]
theorem IP(p q:BL)(i:Nat)(hi:i<p.length)(h:co p i=0):part p q i=part p q (i+1):=by
 refine aN qS fun k hk=>?_
 rw[xU p q i k hi (by simpa using hk),h,Gf.aK,UInt8.zero_xor]
theorem Ll(p q:BL)(i:Nat)(hi:i<p.length):mix (part p q (i+1)) i q (co p i)=part p q i:=by
 refine aN qS fun k hk=>?_
 have hk2:k<p.length+q.length:=by simpa using hk
 rw[kq _ _ _ _ _ (by simpa using hk2),xU p q i k hi hk2,UInt8.xor_comm];congr 1
 unfold Gf.ps;split
 ·exact Gf.aX _ _
 ·rw[Gf.aO]
def Z3(w:World)(ys z:BL)(a:UInt8)(off g cap:Nat)(i:Value)(wr:World):Prop:=
 ∃k:Nat,k<=z.length/\i=.int .i64 k/\Buf wr g cap (mix ys off (z.take k) a)/\Only g w wr
theorem jV{w a:World}(h:Kit.Dn w a):Kit.Dn w a.drew:=h.add 1
theorem kr(ys z:BL)(a:UInt8)(off g cap T:Nat)(C:Array Value)(o:Option Addr)(c:Nat)(w:World)
  (hB:Buf w g cap ys) (hR:RowIs w o (bytesV z) c) (hT:TabAt w T C) (hTg:T≠g) (hne:0<(bytesV z).length->∀p,o=some p->p.block≠g) (hl:off+z.length<=ys.length) (m d:Nat) (hm:z.length<=m) (hd:m<=d) (hdm:d<=maxLen):
  Calls Tryz.prog 216 #[.pointer (some ⟨T,0,none⟩),.slice (some ⟨g,off,none⟩) m d,.slice o z.length c,.int .u8 (a.toNat:Int)] w fun e w'=>(∃v,e=.returned v)/\Buf w' g cap (mix ys off z a)/\Only g w w':=by
 have h1:=hR.le;have h2:=hR.cap;simp only[bytesV_length]at h1;unfold maxLen at h2 hdm;have hle:=hB.le;unfold maxLen at hle;have H0:Hid (z.take z.length=z):=Lh (List.take_length);have HB0:Hid (Buf w g cap (mix ys off (z.take 0) a)):=Lh (by rw[nS];exact hB);have HR:=Lh hR;have HT:=Lh hT;have HN:=Lh hne;clear hB hR hT hne;go_enter Tryz.func216,Tryz.ntmps216
 go_wp2
 go_loopw [8,9,12] (fun _ _ i wr=>Z3 w ys z a off g cap i wr) (fun _ _ i _=>z.length-(intOf i).toNat)
 case atStart=>exact⟨0,Nat.zero_le _,rfl,HB0.out,Only.refl _ _⟩
 case round=>
  obtain⟨k,hk,rfl,hb,ho⟩:=hrel;by_cases hlt:k<z.length
  ·have hr:=ho.row HR.out HN.out;obtain⟨b1,off1,rfl,hb1,hcell⟩:=hr.cells (by simp;omega);have hc1:wr.cell? ⟨b1,off1+k,none⟩=some (.int .u8 ((co z k).toNat:Int)):=hcell k _ (aB z k hlt);have hc2:=hb.cell (off+k) (by simp;omega);have hf2:=hb.frozen (off+k);have HMX:=Lh (nT ys off z a k hlt hl);have mc:∀v:World,TabAt v T C->Calls Tryz.prog 195 #[.pointer (some ⟨T,0,none⟩),.int .u8 ((co z k).toNat:Int),.int .u8 (a.toNat:Int)] v fun e w'=>e=.returned (.int .u8 ((Gf.gm (co z k) a).toNat:Int))/\∃n,w'=v.drewN n:=by
    intro v hv;rw[Gf.eL];exact A1 _ _ (UInt8.toNat_lt _) (UInt8.toNat_lt _) T C v hv
   have ac:∀v:World,Calls Tryz.prog 184 #[.int .u8 ((co (mix ys off (z.take k) a) (off+k)).toNat:Int),.int .u8 ((Gf.gm (co z k) a).toNat:Int)] v fun e w'=>e=.returned (.int .u8 ((co (mix ys off (z.take k) a) (off+k)^^^Gf.gm (co z k) a).toNat:Int))/\v=w':=by
    intro v;rw[UInt8.toNat_xor];exact Fs _ _ (UInt8.toNat_lt _) (UInt8.toNat_lt _) v
   have HTW:=Lh (ho.tab HT.out hTg);generalize co (mix ys off (z.take k) a) (off+k)=s at*;generalize Gf.gm (co z k) a=t at*;generalize s^^^t=r at*;generalize co z k=x at*;have hx:=UInt8.toNat_lt x;have hs:=UInt8.toNat_lt s;have ha:=UInt8.toNat_lt a;have HB:=Lh hb;have HO:=Lh ho;have MC:=Lh mc;have AC:=Lh ac;clear hcell hb ho mc ac hr;have hi0:(0:Int)<=(k:Int):=qO;have hi1:(k:Int)<(m:Int):=qO;go_wp2
   go_region_with (first|(go_at_call 195;refine(MC.out _ (HTW.out.later (jV (Kit.Dn.refl _)).below)).mono ?_;rintro e w' ⟨rfl,n',rfl⟩)|(go_at_call 184;refine(AC.out _).mono ?_;rintro e w' ⟨rfl,rfl⟩))
   all_goals
    go_wp2
    go_roundw
    case rel=>
     have hs:=(HB.out.later (Kit.dn' wr (1+n'))).store (off+k) r;exact⟨k+1,qO,by go_num,by rw[<-HMX.out];exact hs.1,HO.out.trans ((Only.of_below (Kit.dn' wr (1+n'))).trans hs.2)⟩
    case measure=>simp[intOf];omega
  ·obtain rfl:k=z.length:=qO;rw[H0.out]at hb;go_wp2
   go_end0
   exact⟨⟨_,rfl⟩,hb,ho⟩
section
attribute [local go_sem] Oper.semAt_some
theorem qh(p q:BL)(o o2:Option Addr)(c c2 T:Nat)(C:Array Value)(w:World)
  (hP:RowIs w o (bytesV p) c) (hQ:RowIs w o2 (bytesV q) c2) (hT:TabAt w T C) (hl:p.length+q.length<=1000000):
  Calls Tryz.prog 204 #[.pointer (some ⟨T,0,none⟩),.slice o p.length c,.slice o2 q.length c2] w fun e w'=>∃g cap,e=.returned (.slice (some ⟨g,0,none⟩) (tr (bB p q)).length cap)/\w.heap.size<=g/\Below w.heap.size w w'/\RowIs w' (some ⟨g,0,none⟩) (bytesV (tr (bB p q))) cap:=by
 have h1:=hP.le;have h2:=hP.cap;have h3:=hQ.le;have h4:=hQ.cap;simp only[bytesV_length]at h1 h3;unfold maxLen at h2 h4;have HP:=Lh hP;have HQ:=Lh hQ;have HT:=Lh hT;clear hP hQ hT;refine Rf.dh Tryz.func204 rfl ?_;simp only[Tryz.ntmps204,List.size_toArray,List.length_cons,List.length_nil,Nat.reduceAdd,Nat.reduceSub,Array.replicate_succ,Array.replicate_zero,List.push_toArray,List.append_toArray,List.nil_append,List.cons_append];go_wp2_with fail;obtain⟨w0,hw0⟩:=qM ((w.alloc (.cells #[.pointer (some ⟨T,0,none⟩)] 263)).alloc (.cells #[.slice o2 q.length c2] 22));have hb0:Below w.heap.size w w0:=by rw[<-hw0];exact((Below.refl _ w).alloc qN _).alloc qS _
 have hx1:Boxed w0 w.heap.size 263 (.pointer (some ⟨T,0,none⟩)):=by rw[<-hw0];exact(Boxed.new w _ _).alloc _
 have hx2:Boxed w0 (w.heap.size+1) 22 (.slice o2 q.length c2):=by
  rw[<-hw0];have:=Boxed.new (w.alloc (.cells #[.pointer (some ⟨T,0,none⟩)] 263)) 22 (.slice o2 q.length c2);rwa[World.size_alloc]at this
 have hs0:w0.heap.size=w.heap.size+2:=by rw[<-hw0];simp
 rw[hw0];have HB0:=Lh hb0;have HX1:=Lh hx1;have HX2:=Lh hx2;have hc2:=hx2.cell;have hf2:=hx2.frozen;have HW:=Lh hw0;have HP0:=Lh (HP.out.later hb0);have HQ0:=Lh (HQ.out.later hb0);clear hb0 hx1 hx2 hw0;refine Code.wp_mono (Q:=fun e a W=>e=.normal/\a={tmps:=#[.pointer (some ⟨T,0,none⟩),.slice o (tr p).length c,.slice o2 q.length c2,.pointer (some ⟨w.heap.size,0,none⟩),undef,.pointer (some ⟨w.heap.size+1,0,none⟩),.slice none 0 0,undef,undef,undef,.slice o p.length c,.slice o (tr p).length c,.slice o2 q.length c2,.slice o2 (tr q).length c2,undef,undef,undef,undef,undef,undef,undef,undef,undef,undef,undef,undef,undef,undef,undef,undef,undef,undef,undef],defers:=[]}/\∃v,Below w0.heap.size w0 v/\W=v.setCell ⟨w.heap.size+1,0,none⟩ (.slice o2 (tr q).length c2)) ?rest ?reg
 case reg=>
  refine wp_region_noPanic ?_;go_region_with (go_at_call 214;refine(dl _ _ _ _ (by first|exact HP0.out.later qB.drew|exact HQ0.out.later qB.drew|exact(HP0.out.later qB.drew).later (by assumption)|exact(HQ0.out.later qB.drew).later (by assumption))).mono ?_;rintro e w' ⟨rfl,hb,hr⟩;have hx':Boxed w' (w.heap.size+1) 22 (.slice o2 q.length c2):=(by first|exact aC HX2.out (Below.trans (qB.drew) hb)|exact aC (by assumption) hb);have hc':=hx'.cell;have hf':=hx'.frozen)
  all_goals first|exact⟨rfl,rfl,_,Ks (Ks qB.drew (by assumption)) (by assumption),rfl⟩|skip
 case rest=>
  rintro e a W ⟨rfl,rfl,v,hv,rfl⟩;obtain⟨w1,hw1⟩:=qM (v.setCell ⟨w.heap.size+1,0,none⟩ (.slice o2 (tr q).length c2));have hb1:Below w.heap.size w w1:=by rw[<-hw1];exact(Ks HB0.out hv).setCell (p:=⟨w.heap.size+1,0,none⟩) qS _
  have hx1:Boxed w1 w.heap.size 263 (.pointer (some ⟨T,0,none⟩)):=by rw[<-hw1];exact(aC HX1.out hv).other qO _
  have hx2:Boxed w1 (w.heap.size+1) 22 (.slice o2 (tr q).length c2):=by rw[<-hw1];exact(aC HX2.out hv).set _
  have hs1:=hx2.lt;rw[hw1];have HB1:=Lh hb1;have HX11:=Lh hx1;have HX21:=Lh hx2;have hc1:=hx2.cell;clear hc2 hf2 hw1 hv hb1 hx1 hx2;have htp:=iR p;have htq:=iR q;have hR1:=Lh ((HP.out.later HB1.out).take (tl p p.length));have hR2:=Lh ((HQ.out.later HB1.out).take (tl q q.length));have hT1:=Lh (HT.out.later HB1.out);have hbl:o2=none∨True:=.inr trivial;obtain⟨i0,hi,hz0,hz1,hz2⟩:=info_parts ao;go_wp2_with (at_make;refine wpList_make_full _ rfl _ _ 22 rfl 0 5 i0 (.int .u8 0) 1 Tryz.underlying22 hi hz0 hz1 _ _ _ _ ((tr p).length+(tr q).length) rfl rfl qO qO (by rw[hz2];omega) (by unfold maxLen;omega) (Nat.zero_le _) ?_)
  intro w2 hown hgrow;have hb2:Below w1.heap.size w1 w2:=qB.grown hgrow qN (fun k h=>by cases h);have hbuf:Buf w2 w1.heap.size ((tr p).length+(tr q).length) (part (tr p) (tr q) (tr p).length):=by
   rw[DJ];exact bK hown
  have hs2:w1.heap.size<w2.heap.size:=hbuf.lt;have HB2:=Lh hb2;have HBUF:=Lh hbuf;clear hown hgrow hb2 hbuf;go_wp2_with fail;refine(rp o (tr p).length c _).mono ?_;rintro e w4 ⟨rfl,hw4⟩;obtain⟨n,hn⟩:=qM ((tr p).length+(tr q).length);obtain⟨g,hg⟩:=qM w1.heap.size;have hX7:Boxed w4 w2.heap.size 22 (.slice (some ⟨g,0,none⟩) n n):=by rw[hw4,<-hn,<-hg];exact(Boxed.new w2 _ _).alloc _
  have hb24:Below w2.heap.size w2 w4:=by rw[hw4];exact(qB.alloc qN _).alloc qS _
  have hXt:Boxed w4 (w2.heap.size+1) 22 (.slice o (tr p).length c):=by
   rw[hw4];have:=Boxed.new (w2.alloc (.cells #[.slice (some ⟨w1.heap.size,0,none⟩) ((tr p).length+(tr q).length) ((tr p).length+(tr q).length)] 22)) 22 (.slice o (tr p).length c);rwa[World.size_alloc]at this
  have hb14:=Ks HB2.out hb24;have hB4:=Ks HB1.out hb14;have hX1:=aC HX11.out hb14;have hX2:=aC HX21.out hb14;have hBuf:=HBUF.out.later hb24;have hP4:=hR1.out.later hb14;have hQ4:=hR2.out.later hb14;have hT4:=hT1.out.later hb14;have hapP:=hR1.out.apart (Nat.le_of_eq hg);have hapQ:=hR2.out.apart (Nat.le_of_eq hg);have hTlt:T<w1.heap.size:=(aE.1 hT1.out.block).1;have hXtl:=hXt.lt;rw[hn]at hBuf;rw[hg]at hBuf;have hsz:(w2.alloc (Obj.cells #[Value.slice (some ⟨w1.heap.size,0,none⟩) ((tr p).length+(tr q).length) ((tr p).length+(tr q).length)] 22)).heap.size=w2.heap.size+1:=qS;rw[hsz];clear hs0 HB0 HX1 HX2 HW HP0 HQ0 hbl hi hz0 hz1 hz2 hc1 HB2 HBUF HX11 HX21;have HX1:=Lh hX1;have HX2:=Lh hX2;have HX7:=Lh hX7;have HXt:=Lh hXt;have HP4:=Lh hP4;have HQ4:=Lh hQ4;have HT4:=Lh hT4;have HBUF:=Lh hBuf;have HB4:=Lh hB4;have HAP:=Lh hapP;have HAQ:=Lh hapQ;have HW4:=Lh hw4;clear hX1 hX2 hX7 hXt hP4 hQ4 hT4 hBuf hB4 hapP hapQ hw4 hR1 hR2 hT1 hb14 hb24 hsz HP HQ HT HB1;have hgw:w.heap.size+1<g:=qO;have hg4:g<w4.heap.size:=qO;go_wp2_with fail;refine Rf.jd (α:=Nat×UInt8) (σ:=Nat) rfl (enters_of Tryz.func226 qK rfl) (fun x=> #[.int .i64 x.1,.int .u8 (x.2.toNat:Int)]) (fun _=>rfl)
   (fun i X=>i<=(tr p).length/\Buf X g n (part (tr p) (tr q) i)/\Bt g w4.heap.size w4 X)
   (fun c X=>False)
   (fun s x s' X=>s=x.1+1/\s'=x.1/\x.1<(tr p).length/\co (tr p) x.1=x.2)
   (tr p).length (fun s=>s=0) ?hI ?hIx ?hV ?h0 ?hseq ?round ?done ?stop
  case hI=>exact fun s X X' h k=>⟨h.1,h.2.1.nc k,h.2.2.trans (Bt.of_nc k qN)⟩
  case hIx=>exact fun c X X' h k=>h
  case hV=>exact fun s x s' X X' h k=>h
  case h0=>exact⟨Nat.le_refl _,HBUF.out,Bt.refl _ _ _⟩
  case hseq=>
   intro l B Bx X hnc hi hB hk ht;refine(uc l (fun i X=>i<=(tr p).length/\Buf X g n (part (tr p) (tr q) i)/\Bt g w4.heap.size w4 X) B Bx o (tr p).length c (w2.heap.size+1) X ?_ ?_ ?_ hi hB).mono ?_
   ·exact fun i X h=>⟨(h.2.2.boxed HXt.out qO).cell,tr p,rfl,h.2.2.row HP4.out HAP.out⟩
   ·rintro i X z' ⟨h1,h2,h3⟩ hlt hr hl h0;obtain rfl:tr p=z':=RowIs.uniq (h3.row HP4.out HAP.out) hr hl.symm;exact⟨qO,by rw[IP _ _ i hlt h0];exact h2,h3⟩
   ·rintro i b X ⟨h1,h2,h3⟩ hB hlt ⟨z',hl,hr,rfl⟩ hb;obtain rfl:tr p=z':=RowIs.uniq (h3.row HP4.out HAP.out) hr hl.symm;exact((ht (i+1) (i,co (tr p) i) i X ⟨h1,h2,h3⟩ hB ⟨rfl,rfl,hlt,rfl⟩).mono fun e X' h=>h.imp (fun h=>⟨h.1,h.2.1,h.2.2⟩) id)
   ·rintro e X' ⟨hv,(⟨h,hB⟩|hx)⟩
    ·exact⟨hv,.inl ⟨0,rfl,h,hB⟩⟩
    ·exact⟨hv,.inr hx⟩
  case round=>
   rintro l s ⟨x,b⟩ s' X Z To ⟨h1,h2,h3⟩ ⟨e1,e2,hx,e3⟩ HN HR HE;dsimp only at e1 e2 hx e3;subst e1;subst e2;subst e3;have c1:=(h3.boxed HX1.out qO).cell;have c2':=(h3.boxed HX2.out qO).cell;have c7:=(h3.boxed HX7.out qO).cell;have hmix: Tryz.prog.follows .mixedOrders=true:=qK;have hns1:s'<n:=qO;have hns2:¬n=s':=qO;have hnm:n-s'<=maxLen:=by unfold maxLen;omega
   have hcal:=kr (part (tr p) (tr q) (s'+1)) (tr q) (co (tr p) s') s' g n T C o2 c2 X.drew (h2.later qB.drew) ((h3.row HQ4.out HAQ.out).later qB.drew) ((h3.tab HT4.out qO).later qB.drew) qO HAQ.out (by simp;omega) (n-s') (n-s') qO qN hnm;have HCAL:=Lh hcal;have FIN:Hid (∀W3,Buf W3 g n (mix (part (tr p) (tr q) (s'+1)) s' (tr q) (co (tr p) s'))->Only g X.drew W3->KeepsOthers X W3/\s'<=(tr p).length/\Buf W3 g n (part (tr p) (tr q) s')/\Bt g w4.heap.size w4 W3):=Lh fun W3 hb5 ho5=>by
    have ho:Only g X W3:=(Only.of_below qB.drew).trans ho5;refine⟨ho.keeps h2,qO,?_,h3.trans (Bt.of_only ho)⟩;rw[Ll _ _ _ hx]at hb5;exact hb5
   clear hcal hnm h2 h3;gi_wp2
   refine⟨trivial,?_⟩;gi_wp2
   refine Rf.gj hmix qK ?_;refine wpAnyIn_take (i:=2) (v:=.int .i64 (s':Int)) rfl rfl qK qK qK qI ⟨Or.inl ⟨by rfl,fun w=>by go_simp⟩,fun _=>rfl⟩ ?_;refine wpAnyIn_take (i:=5) (v:=.int .u8 ((co (tr p) s').toNat:Int)) rfl rfl qK qK qK qI ⟨Or.inl ⟨by rfl,fun w=>by go_simp⟩,fun _=>rfl⟩ ?_;refine wpAnyIn_ready (rs:=[0,1,4]) qK qS ?_;refine AllReadyIn.cons rfl (fun K hK=>?_) ?_
   ·go_simp;refine hK _ _ ?_;clear hK K;refine wpAnyIn_ready (rs:=[1,4]) qK qS ?_;refine AllReadyIn.cons rfl (fun K hK=>?_) ?_
    ·go_simp;refine hK _ _ ?_;clear hK K;refine wpAnyIn_take (i:=3) (v:=.slice (some ⟨g,s',none⟩) (n-s') (n-s')) rfl rfl qK qK qK qI ⟨Or.inl ⟨by rfl,fun w=>by go_simp;intro hh;exact absurd hh qO⟩,fun _=>rfl⟩ ?_;refine wpAnyIn_ready (rs:=[4]) qK qS ?_;refine AllReadyIn.cons rfl (fun K hK=>?_) ?_
     ·go_simp;refine hK _ _ ?_;clear hK K;refine wpAnyIn_ready (rs:=[6]) qK qS ?_;refine AllReadyIn.cons rfl (fun K hK=>?_) AllReadyIn.nil;go_simp;refine⟨trivial,rfl,?_⟩;refine((callsIn_wide (n:=0)).2 HCAL.out).mono ?_;rintro e W3 ⟨⟨v3,rfl⟩,hb5,ho5⟩;refine hK _ _ ?_;clear hK K;refine wpAnyIn_done qK ?_ _;exact HN.out _ _ (FIN.out W3 hb5 ho5).1 (FIN.out W3 hb5 ho5).2
     exact AllReadyIn.nil
    refine AllReadyIn.cons rfl (fun K hK=>?_) ?_
    ·go_simp;refine hK _ _ ?_;clear hK K;refine wpAnyIn_ready (rs:=[1]) qK qS ?_;refine AllReadyIn.cons rfl (fun K hK=>?_) ?_
     ·go_simp;refine hK _ _ ?_;clear hK K;refine wpAnyIn_take (i:=3) (v:=.slice (some ⟨g,s',none⟩) (n-s') (n-s')) rfl rfl qK qK qK qI ⟨Or.inl ⟨by rfl,fun w=>by go_simp;intro hh;exact absurd hh qO⟩,fun _=>rfl⟩ ?_;refine wpAnyIn_ready (rs:=[6]) qK qS ?_;refine AllReadyIn.cons rfl (fun K hK=>?_) AllReadyIn.nil;go_simp;refine⟨trivial,rfl,?_⟩;refine((callsIn_wide (n:=0)).2 HCAL.out).mono ?_;rintro e W3 ⟨⟨v3,rfl⟩,hb5,ho5⟩;refine hK _ _ ?_;clear hK K;refine wpAnyIn_done qK ?_ _;exact HN.out _ _ (FIN.out W3 hb5 ho5).1 (FIN.out W3 hb5 ho5).2
     exact AllReadyIn.nil
    exact AllReadyIn.nil
   refine AllReadyIn.cons rfl (fun K hK=>?_) ?_
   ·go_simp;refine hK _ _ ?_;clear hK K;refine wpAnyIn_take (i:=3) (v:=.slice (some ⟨g,s',none⟩) (n-s') (n-s')) rfl rfl qK qK qK qI ⟨Or.inl ⟨by rfl,fun w=>by go_simp;intro hh;exact absurd hh qO⟩,fun _=>rfl⟩ ?_;refine wpAnyIn_ready (rs:=[0,4]) qK qS ?_;refine AllReadyIn.cons rfl (fun K hK=>?_) ?_
    ·go_simp;refine hK _ _ ?_;clear hK K;refine wpAnyIn_ready (rs:=[4]) qK qS ?_;refine AllReadyIn.cons rfl (fun K hK=>?_) ?_
     ·go_simp;refine hK _ _ ?_;clear hK K;refine wpAnyIn_ready (rs:=[6]) qK qS ?_;refine AllReadyIn.cons rfl (fun K hK=>?_) AllReadyIn.nil;go_simp;refine⟨trivial,rfl,?_⟩;refine((callsIn_wide (n:=0)).2 HCAL.out).mono ?_;rintro e W3 ⟨⟨v3,rfl⟩,hb5,ho5⟩;refine hK _ _ ?_;clear hK K;refine wpAnyIn_done qK ?_ _;exact HN.out _ _ (FIN.out W3 hb5 ho5).1 (FIN.out W3 hb5 ho5).2
     exact AllReadyIn.nil
    refine AllReadyIn.cons rfl (fun K hK=>?_) ?_
    ·go_simp;refine hK _ _ ?_;clear hK K;refine wpAnyIn_ready (rs:=[0]) qK qS ?_;refine AllReadyIn.cons rfl (fun K hK=>?_) ?_
     ·go_simp;refine hK _ _ ?_;clear hK K;refine wpAnyIn_ready (rs:=[6]) qK qS ?_;refine AllReadyIn.cons rfl (fun K hK=>?_) AllReadyIn.nil;go_simp;refine⟨trivial,rfl,?_⟩;refine((callsIn_wide (n:=0)).2 HCAL.out).mono ?_;rintro e W3 ⟨⟨v3,rfl⟩,hb5,ho5⟩;refine hK _ _ ?_;clear hK K;refine wpAnyIn_done qK ?_ _;exact HN.out _ _ (FIN.out W3 hb5 ho5).1 (FIN.out W3 hb5 ho5).2
     exact AllReadyIn.nil
    exact AllReadyIn.nil
   refine AllReadyIn.cons rfl (fun K hK=>?_) ?_
   ·go_simp;refine hK _ _ ?_;clear hK K;refine wpAnyIn_ready (rs:=[0,1]) qK qS ?_;refine AllReadyIn.cons rfl (fun K hK=>?_) ?_
    ·go_simp;refine hK _ _ ?_;clear hK K;refine wpAnyIn_ready (rs:=[1]) qK qS ?_;refine AllReadyIn.cons rfl (fun K hK=>?_) ?_
     ·go_simp;refine hK _ _ ?_;clear hK K;refine wpAnyIn_take (i:=3) (v:=.slice (some ⟨g,s',none⟩) (n-s') (n-s')) rfl rfl qK qK qK qI ⟨Or.inl ⟨by rfl,fun w=>by go_simp;intro hh;exact absurd hh qO⟩,fun _=>rfl⟩ ?_;refine wpAnyIn_ready (rs:=[6]) qK qS ?_;refine AllReadyIn.cons rfl (fun K hK=>?_) AllReadyIn.nil;go_simp;refine⟨trivial,rfl,?_⟩;refine((callsIn_wide (n:=0)).2 HCAL.out).mono ?_;rintro e W3 ⟨⟨v3,rfl⟩,hb5,ho5⟩;refine hK _ _ ?_;clear hK K;refine wpAnyIn_done qK ?_ _;exact HN.out _ _ (FIN.out W3 hb5 ho5).1 (FIN.out W3 hb5 ho5).2
     exact AllReadyIn.nil
    refine AllReadyIn.cons rfl (fun K hK=>?_) ?_
    ·go_simp;refine hK _ _ ?_;clear hK K;refine wpAnyIn_take (i:=3) (v:=.slice (some ⟨g,s',none⟩) (n-s') (n-s')) rfl rfl qK qK qK qI ⟨Or.inl ⟨by rfl,fun w=>by go_simp;intro hh;exact absurd hh qO⟩,fun _=>rfl⟩ ?_;refine wpAnyIn_ready (rs:=[0]) qK qS ?_;refine AllReadyIn.cons rfl (fun K hK=>?_) ?_
     ·go_simp;refine hK _ _ ?_;clear hK K;refine wpAnyIn_ready (rs:=[6]) qK qS ?_;refine AllReadyIn.cons rfl (fun K hK=>?_) AllReadyIn.nil;go_simp;refine⟨trivial,rfl,?_⟩;refine((callsIn_wide (n:=0)).2 HCAL.out).mono ?_;rintro e W3 ⟨⟨v3,rfl⟩,hb5,ho5⟩;refine hK _ _ ?_;clear hK K;refine wpAnyIn_done qK ?_ _;exact HN.out _ _ (FIN.out W3 hb5 ho5).1 (FIN.out W3 hb5 ho5).2
     exact AllReadyIn.nil
    exact AllReadyIn.nil
   exact AllReadyIn.nil
  case done=>
   rintro D s X hD rfl ⟨h1,h2,h3⟩ hK;have c7:=(h3.boxed HX7.out qO).cell;have hcut:=dl (some ⟨g,0,none⟩) (part (tr p) (tr q) 0) n X h2.row;rw[A4,hn,IO]at hcut;have HCUT:=Lh hcut;clear hcut;go_wp2_with fail;refine HCUT.out.mono ?_;rintro e w5 ⟨rfl,hb5,hr5⟩;have e5:tr (bB (tr p) (tr q))=tr (bB p q):=ed (eU (eR p) (eR q));rw[e5]at hr5;rw[e5];have hB5:Below w.heap.size w w5:=(HB4.out.trans (h3.below qO qO qO)).trans (hb5.mono (by have:=h3.size;omega));have hK5:w5.heap[D]? =some (.deferred (some [])):=by rw[hb5.block D (aE.1 hK).1];exact hK
   clear HCUT;go_wp2_with fail;refine Rf.leaves hK5 (results_tmp rfl _ _ _) ?_;refine⟨g,n,rfl,qO,hB5.trans (belowK_b (w:=w) qN w5 D _ _ (by have:=HB4.out.size;omega) hK5 rfl rfl),?_⟩;exact hr5.nc (Rf.NC.put (B:=0) _ (Nat.zero_le _) hK5 rfl)
  case stop=>exact fun D c X hD h=>h.elim
end
section
attribute [local go_sem] Oper.semAt_some
theorem DK(l:Nat)(I:Nat->World->Prop)(B Bx:World->Prop)(o:Option Addr)(z:BL)(c Q:Nat)(w:World)
  (hI:∀i X,I i X->Boxed X Q 22 (.slice o z.length c)/\RowIs X o (bytesV z) c)
  (hA:∀i X ob,I i X->I i (X.alloc ob)) (hBk:∀X X',B X->KeepsOthers X X'->B X')
  (hturn:∀i A X,I i X->B X->i<z.length->X.heap[A]? =some (.cells #[.int .u8 ((co z i).toNat:Int),.int .u8 1] 5 (0,0))->
   YieldAt Fence.wide 0 Tryz.prog l #[.slice (some ⟨A,0,none⟩) 2 2] X fun e X'=>(e=.returned (.bool true)/\I (i+1) X'/\B X')∨(e=.returned (.bool false)/\Bx X'))
  (h0:I 0 w) (hB:B w):
  Calls Tryz.prog 229 #[.func (.yield l) #[] #[],.pointer (some ⟨Q,0,none⟩)] w fun e X=>(∃v,e=.returned v)/\((I z.length X/\B X)∨Bx X):=by
 refine(callsIn_wide (n:=0)).1 (callsIn_of_wp Tryz.func229 rfl trivial ?_ rfl);simp only[Tryz.ntmps229,List.size_toArray,List.length_cons,List.length_nil,Nat.reduceAdd,Nat.reduceSub,Array.replicate_succ,Array.replicate_zero,List.push_toArray,List.append_toArray,List.nil_append,List.cons_append];have hq:=(hI _ _ h0).1.cell;have hr0:=(hI _ _ h0).2;have hn:z.length<=9223372036854775807:=by
  have h1:=hr0.le;have h2:=hr0.cap;simp only[bytesV_length]at h1;unfold maxLen at h2;omega
 clear hr0;gi_wp2
 gi_loopw [4,7] (fun _ p wr=>∃k:Nat,k<=z.length/\p=.int .i64 (k:Int)/\I k wr/\B wr) (fun _ p wr=>z.length-(intOf p).toNat)
 case atStart=>exact⟨0,Nat.zero_le _,rfl,h0,hB⟩
 case round=>
  obtain⟨k,hk,rfl,hi,hb⟩:=hrel;obtain⟨hq2,hr⟩:=hI _ _ hi;by_cases hlt:k<z.length
  ·have hm:=hr.cap;have hle:=hr.le;simp only[bytesV_length]at hle;unfold maxLen at hm;obtain⟨b1,off1,rfl,hb1,hcell⟩:=hr.cells (by simp;omega);have hc1:wr.cell? ⟨b1,off1+k,none⟩=some (.int .u8 ((co z k).toNat:Int)):=hcell k _ (aB z k qO);have hx:=UInt8.toNat_lt (co z k);obtain⟨fn,tmps,assign,body,hy,hR⟩:=hturn k wr.heap.size (wr.alloc (.cells #[.int .u8 ((co z k).toNat:Int),.int .u8 1] 5)) (hA _ _ _ hi) (hBk _ _ hb (KeepsOthers.alloc _ _)) hlt (World.alloc_heap_new _ _);have HI:=Lh hI;have HT:=Lh hturn;clear hcell hI hturn;gi_wp2
   refine⟨rfl,hR.mono ?_⟩;rintro e W3 (⟨rfl,hi3,hb3⟩|⟨rfl,hx3⟩)
   ·gi_wp2
    go_roundw
    case rel=>exact⟨k+1,qO,by go_num,hi3,hb3⟩
    case measure=>simp[intOf];omega
   ·gi_wp2
    refine bodyPost_ret (results_none rfl _ _ _) rfl ?_;exact⟨⟨_,rfl⟩,.inr hx3⟩
  ·obtain rfl:k=z.length:=qO;gi_wp2
   go_end0
   exact⟨⟨_,rfl⟩,.inl ⟨hi,hb⟩⟩
end
section
attribute [local go_sem] Oper.semAt_some
def cD(F:UInt8->BL)(z:BL):Nat->BL
 |0=>[1]
 |n+1=>bB (cD F z n) (F (co z n))
theorem qi(F:UInt8->BL)(z:BL)(hF:∀x,(F x).length=2)(n:Nat):(cD F z n).length=1+2*n:=by
 induction n with
 |zero=>rfl
 |succ n ih=>simp[cD,bB,ih,hF];omega
def SoFar(b B:Nat)(m:BL)(X:World):Prop:=∃g cap,B<=g/\g≠b/\Boxed X b 22 (.slice (some ⟨g,0,none⟩) (tr m).length cap)/\RowIs X (some ⟨g,0,none⟩) (bytesV (tr m)) cap
theorem SoFar.nc{b B B':Nat}{m:BL}{X X':World}(h:SoFar b B m X)(k:Rf.NC B' X X'):SoFar b B m X':=by
 obtain⟨g,cap,h1,h2,h3,h4⟩:=h;exact⟨g,cap,h1,h2,k.cells h3,h4.nc k⟩
theorem bp{X:World}{A:Nat}{z:BL}(h:X.heap[A]? =some (.cells (bytesV z).toArray 5 (0,0)))(hm:z.length<=maxLen):RowIs X (some ⟨A,0,none⟩) (bytesV z) z.length:=
 ⟨qS,hm,(fun e=>by cases e),fun h0=>⟨A,0,rfl,(aE.1 h).1,fun i v hv=>by
  rw[Nat.zero_add];simp only[World.cell?,h];simpa using hv⟩⟩
theorem DL:tr [1]=[1]:=qD
def yl(k:Nat)(F:UInt8->BL)(z:BL)(o:Option Addr)(c Q:Nat):Prop:=
 ∀(l:Nat)(I:Nat->World->Prop)(B Bx:World->Prop)(w:World)
  (hI:∀i X,I i X->Boxed X Q 22 (.slice o z.length c)/\RowIs X o (bytesV z) c)
  (hA:∀i X ob,I i X->I i (X.alloc ob)) (hBk:∀X X',B X->KeepsOthers X X'->B X')
  (hturn:∀i A X,I i X->B X->i<z.length->X.heap[A]? =some (.cells (bytesV (F (co z i))).toArray 5 (0,0))->
   YieldAt Fence.wide 0 Tryz.prog l #[.slice (some ⟨A,0,none⟩) 2 2] X fun e X'=>(e=.returned (.bool true)/\I (i+1) X'/\B X')∨(e=.returned (.bool false)/\Bx X'))
  (h0:I 0 w) (hB:B w),
  Calls Tryz.prog k #[.func (.yield l) #[] #[],.pointer (some ⟨Q,0,none⟩)] w fun e X=>(∃v,e=.returned v)/\((I z.length X/\B X)∨Bx X)
theorem wj(z:BL)(o:Option Addr)(c Q:Nat):yl 229 (fun r=>[r,1]) z o c Q:=
 fun l I B Bx w hI hA hBk hturn h0 hB=>DK l I B Bx o z c Q w hI hA hBk (fun i A X a b d e=>hturn i A X a b d e) h0 hB
theorem Fz(k:Nat)(F:UInt8->BL)(hF:∀x,(F x).length=2)(z:BL)(o:Option Addr)(c Q:Nat)(w:World)
  (ek:∀args w,(callFunc k args).run Tryz.prog w=.ok (.enter k args) w) (hf:yl k F z o c Q) (hl:z.length<=1000) (hQ:Boxed w Q 22 (.slice o z.length c)) (hR:RowIs w o (bytesV z) c):
  Calls Tryz.prog 220 #[.func (.func k) #[] #[.pointer (some ⟨Q,0,none⟩)]] w fun e w'=>∃g cap,e=.returned (.slice (some ⟨g,0,none⟩) (tr (cD F z z.length)).length cap)/\w.heap.size<=g/\Below w.heap.size w w'/\RowIs w' (some ⟨g,0,none⟩) (bytesV (tr (cD F z z.length))) cap:=by
 have HF:=Lh hf;have HEK:=Lh ek;have HFL:=Lh hF;have HQ:=Lh hQ;have HR:=Lh hR;clear hf ek hF hQ hR;refine Rf.dh Tryz.func220 rfl ?_;simp only[Tryz.ntmps220,List.size_toArray,List.length_cons,List.length_nil,Nat.reduceAdd,Nat.reduceSub,Array.replicate_succ,Array.replicate_zero,List.push_toArray,List.append_toArray,List.nil_append,List.cons_append];go_wp2_with fail;refine(jE _).mono ?_;rintro e w1 ⟨n,C,hC,rfl,hw1⟩;have hT1:TabAt w1 w.heap.size C:=by rw[hw1];exact TabAt.made hC
 have hb1:Below w.heap.size w w1:=by rw[hw1];exact fL
 have hs1:w.heap.size<w1.heap.size:=(aE.1 hT1.block).1;have HT1:=Lh hT1;have HB1:=Lh hb1;have HC:=Lh hC;have HW1:=Lh hw1;clear hC hT1 hb1 hw1;go_wp2_with fail;obtain⟨w2,hw2⟩:=qM (((w1.alloc (.cells #[.int .u8 1] 5)).alloc (.cells #[.pointer (some ⟨w.heap.size,0,none⟩)] 263)).alloc (.cells #[.slice (some ⟨w1.heap.size,0,none⟩) 1 1] 22));have hb2:Below w1.heap.size w1 w2:=by rw[<-hw2];exact((qB.alloc qN _).alloc qS _).alloc (by simp;omega) _
 have hX3:Boxed w2 (w1.heap.size+1) 263 (.pointer (some ⟨w.heap.size,0,none⟩)):=by
  rw[<-hw2];have:=Boxed.new (w1.alloc (.cells #[.int .u8 1] 5)) 263 (.pointer (some ⟨w.heap.size,0,none⟩));rw[World.size_alloc]at this;exact this.alloc _
 have hX4:Boxed w2 (w1.heap.size+1+1) 22 (.slice (some ⟨w1.heap.size,0,none⟩) 1 1):=by
  rw[<-hw2];have:=Boxed.new ((w1.alloc (.cells #[.int .u8 1] 5)).alloc (.cells #[.pointer (some ⟨w.heap.size,0,none⟩)] 263)) 22 (.slice (some ⟨w1.heap.size,0,none⟩) 1 1);rw[World.size_alloc,World.size_alloc]at this;exact this
 have hone:w2.heap[w1.heap.size]? =some (.cells (bytesV [1]).toArray 5 (0,0)):=by
  rw[<-hw2];exact((Boxed.new w1 5 (.int .u8 1)).alloc _).alloc _
 have hs2:=hX4.lt;have hT2:=HT1.out.later hb2;have hQ2:=aC HQ.out (Ks HB1.out hb2);have hR2:=HR.out.later (Ks HB1.out hb2);have hB2:=Ks HB1.out hb2;have hQlt:=HQ.out.lt;rw[hw2];have HX3:=Lh hX3;have HT2:=Lh hT2;have HQ2:=Lh hQ2;have HR2:=Lh hR2;have HB2:=Lh hB2;have HAP:=Lh (HR.out.apart (g:=w1.heap.size+1+1) qO);have HI0:Hid (SoFar (w1.heap.size+1+1) w.heap.size (cD F z 0) w2):=Lh ⟨w1.heap.size,1,qO,qO,by
  show Boxed w2 _ _ (.slice _ (tr [1]).length 1);rw[DL];exact hX4,by
  show RowIs w2 _ (bytesV (tr [1])) 1;rw[DL];exact bp hone (by unfold maxLen;simp)⟩
 clear hX3 hT2 hQ2 hR2 hB2 hX4 hone hw2 hb2;refine Rf.jd (α:=Nat) (σ:=Nat) rfl HEK.out (fun x=> #[.slice (some ⟨x,0,none⟩) 2 2]) (fun _=>rfl)
  (fun s X=>s<=z.length/\SoFar (w1.heap.size+1+1) w.heap.size (cD F z s) X/\Bt (w1.heap.size+1+1) w2.heap.size w2 X)
  (fun c X=>False)
  (fun s x s' X=>s'=s+1/\s<z.length/\X.heap[x]? =some (.cells (bytesV (F (co z s))).toArray 5 (0,0)))
  0 (fun s=>s=z.length) ?hI ?hIx ?hV ?h0 ?hseq ?round ?done ?stop
 case hI=>exact fun s X X' h k=>⟨h.1,h.2.1.nc k,h.2.2.trans (Bt.of_nc k qN)⟩
 case hIx=>exact fun c X X' h k=>h
 case hV=>exact fun s x s' X X' h k=>⟨h.1,h.2.1,k.cells h.2.2⟩
 case h0=>exact⟨Nat.zero_le _,HI0.out,Bt.refl _ _ _⟩
 case hseq=>
  intro l B Bx X hnc hi hB hk ht;refine(HF.out l (fun s X=>s<=z.length/\SoFar (w1.heap.size+1+1) w.heap.size (cD F z s) X/\Bt (w1.heap.size+1+1) w2.heap.size w2 X) B Bx X ?_ ?_ hk ?_ hi hB).mono ?_
  ·exact fun i X h=>⟨h.2.2.boxed HQ2.out qO,h.2.2.row HR2.out HAP.out⟩
  ·exact fun i X ob h=>⟨h.1,h.2.1.nc (Rf.NC.alloc (B:=0) X ob),h.2.2.trans (Bt.of_nc (Rf.NC.alloc (B:=w2.heap.size) X ob) qN)⟩
  ·intro i A X h hB hlt hA;exact(ht i A (i+1) X h hB ⟨rfl,hlt,hA⟩).mono fun e X' h=>h.imp (fun h=>⟨h.1,h.2.1,h.2.2⟩) id
  ·rintro e X' ⟨hv,(⟨h,hB⟩|hx)⟩
   ·exact⟨hv,.inl ⟨z.length,rfl,h,hB⟩⟩
   ·exact⟨hv,.inr hx⟩
 case round=>
  rintro l s x s' X Z To ⟨h1,⟨g,cap,h2,h3,h4,h5⟩,h6⟩ ⟨rfl,hlt,hA⟩ HN HR HE;have hrow:=bp hA (by rw[HFL.out];unfold maxLen;omega);have htl:=iR (cD F z s);rw[qi F z HFL.out]at htl;have hcal:=qh (tr (cD F z s)) (F (co z s)) (some ⟨g,0,none⟩) (some ⟨x,0,none⟩) cap (F (co z s)).length w.heap.size C X h5 hrow (h6.tab HT2.out qO) (by rw[HFL.out];omega);have e1:tr (bB (tr (cD F z s)) (F (co z s)))=tr (cD F z (s+1)):=ed (eU (eR _) (fun _=>rfl));rw[e1,HFL.out]at hcal;have c3:=(h6.boxed HX3.out qO).cell;have c4:=h4.cell;have hblt:=h4.lt;have HCAL:=Lh hcal;have FIN:Hid (∀g' cap' X1,X.heap.size<=g'->Below X.heap.size X X1->RowIs X1 (some ⟨g',0,none⟩) (bytesV (tr (cD F z (s+1)))) cap'->
    KeepsOthers X (X1.setCell ⟨w1.heap.size+1+1,0,none⟩ (.slice (some ⟨g',0,none⟩) (tr (cD F z (s+1))).length cap'))/\s+1<=z.length/\SoFar (w1.heap.size+1+1) w.heap.size (cD F z (s+1)) (X1.setCell ⟨w1.heap.size+1+1,0,none⟩ (.slice (some ⟨g',0,none⟩) (tr (cD F z (s+1))).length cap'))/\Bt (w1.heap.size+1+1) w2.heap.size w2 (X1.setCell ⟨w1.heap.size+1+1,0,none⟩ (.slice (some ⟨g',0,none⟩) (tr (cD F z (s+1))).length cap'))):=Lh fun g' cap' X1 hg hb hr=>by
   have ho:Only (w1.heap.size+1+1) X1 (X1.setCell ⟨w1.heap.size+1+1,0,none⟩ (.slice (some ⟨g',0,none⟩) (tr (cD F z (s+1))).length cap')):=grownBy_setCell' _ _ _;refine⟨(bn hb).trans (KeepsOthers.setCell _ _ _),qO,⟨g',cap',by have:=HB2.out.size;have:=h6.size;omega,qO,(aC h4 hb).set _,ho.row hr (fun _ p e=>by cases e;show g'≠_;omega)⟩,h6.trans (Bt.of_only ((Only.of_below hb).trans ho))⟩
  have F4:Hid (∀X1,Below X.heap.size X X1->Boxed X1 (w1.heap.size+1+1) 22 (.slice (some ⟨g,0,none⟩) (tr (cD F z s)).length cap)):=Lh fun X1 hb=>aC h4 hb
  clear hcal hrow h5 h6 hA htl;gi_wp2
  refine⟨trivial,?_⟩;gi_wp2
  refine⟨trivial,rfl,?_⟩;refine(CallsIn.inRound l ((callsIn_wide (n:=0)).2 HCAL.out)).mono ?_;rintro e X1 ⟨g',cap',rfl,hg',hb',hr'⟩;have b4:=F4.out X1 hb';have d4:=b4.cell;have f4:=b4.frozen;have FI:=Lh (FIN.out g' cap' X1 hg' hb' hr');clear b4 hr' HCAL FIN F4;gi_wp2
  exact HN.out _ _ FI.out.1 FI.out.2
 case done=>
  rintro D s X hD rfl ⟨h1,⟨g,cap,h2,h3,h4,h5⟩,h6⟩ hK;have c4:=h4.cell;have H5:=Lh h5;have H6:=Lh h6;clear h5 h6;go_wp2_with fail;refine Rf.leaves hK (results_tmp rfl _ _ _) ?_;refine⟨g,cap,rfl,h2,(HB2.out.trans (H6.out.below qO (by have:=HB2.out.size;omega) HB2.out.size)).trans (belowK_b (w:=w) qN X D _ _ (by have:=HB2.out.size;omega) hK rfl rfl),?_⟩;exact H5.out.nc (Rf.NC.put (B:=0) _ (Nat.zero_le _) hK rfl)
 case stop=>exact fun D c X hD h=>h.elim
theorem xV(z:BL)(o:Option Addr)(c:Nat)(w:World)(hl:z.length<=1000)(hR:RowIs w o (bytesV z) c):
  Calls Tryz.prog 218 #[.slice o z.length c] w fun e w'=>∃g cap,e=.returned (.slice (some ⟨g,0,none⟩) (tr (cD (fun r=>[r,1]) z z.length)).length cap)/\w.heap.size<=g/\Below w.heap.size w w'/\RowIs w' (some ⟨g,0,none⟩) (bytesV (tr (cD (fun r=>[r,1]) z z.length))) cap:=by
 have hmf:= @makes Tryz.prog;have hcal:=Fz 229 (fun r=>[r,1]) (fun _=>rfl) z o c w.heap.size (w.alloc (.cells #[.slice o z.length c] 22)) (enters_of Tryz.func229 qK rfl) (wj z o c _) hl (Boxed.new w _ _) (hR.later (qB.alloc qN _));have HCAL:=Lh hcal;clear hcal hR;go_enter Tryz.func218,Tryz.ntmps218
 go_wp2_with fail;refine HCAL.out.mono ?_;rintro e w1 ⟨g,cap,rfl,hg,hb,hr⟩;have HB:=Lh hb;have HR:=Lh hr;have hg2:w.heap.size<=g:=by simp at hg;omega
 clear hb hr hg HCAL hmf;go_wp2_with fail;go_ret;exact⟨g,cap,rfl,hg2,((Below.refl w.heap.size w).alloc qN _).trans (HB.out.mono qS),HR.out⟩
end
def XJ(z:BL)(x:UInt8)(w:World)(s i:Value)(wr:World):Prop:=
 ∃k:Nat,k<=z.length/\i=.int .i64 ((z.length:Int)-k-1)/\s=.int .u8 ((Gf.horner (co z) x k (z.length-k)).toNat:Int)/\Kit.Dn w wr
theorem qj(x y:UInt8)(B:Nat)(C:Array Value)(v:World)(hT:TabAt v B C):
  Calls Tryz.prog 195 #[.pointer (some ⟨B,0,none⟩),.int .u8 (x.toNat:Int),.int .u8 (y.toNat:Int)] v fun e w'=>e=.returned (.int .u8 ((Gf.gm x y).toNat:Int))/\∃n,w'=v.drewN n:=by
 rw[Gf.eL];exact A1 _ _ (UInt8.toNat_lt _) (UInt8.toNat_lt _) B C v hT
theorem nU(x y:UInt8)(v:World):Calls Tryz.prog 184 #[.int .u8 (x.toNat:Int),.int .u8 (y.toNat:Int)] v fun e w'=>e=.returned (.int .u8 ((x^^^y).toNat:Int))/\w'=v:=by
 rw[UInt8.toNat_xor];exact(Fs _ _ (UInt8.toNat_lt _) (UInt8.toNat_lt _) v).mono fun _ _ h=>⟨h.1,h.2.symm⟩
theorem xW(z:BL)(x:UInt8)(T:Nat)(C:Array Value)(o:Option Addr)(c:Nat)(w:World)(hR:RowIs w o (bytesV z) c)(hT:TabAt w T C):
  Calls Tryz.prog 227 #[.pointer (some ⟨T,0,none⟩),.slice o z.length c,.int .u8 (x.toNat:Int)] w fun e w'=>e=.returned (.int .u8 ((evL z x).toNat:Int))/\Kit.Dn w w':=by
 have h1:=hR.le;have h2:=hR.cap;simp only[bytesV_length]at h1;unfold maxLen at h2;have HR:=Lh hR;have HT:=Lh hT;clear hR hT;go_enter Tryz.func227,Tryz.ntmps227
 go_wp2
 go_loopw [7,8] (fun s i wr=>XJ z x w s i wr) (fun _ i _=>(intOf i+1).toNat)
 case atStart=>exact⟨0,Nat.zero_le _,by go_num,rfl,Kit.Dn.refl _⟩
 case round=>
  obtain⟨k,hk,rfl,rfl,hd⟩:=hrel;have HD:=Lh hd;clear hd;by_cases hlt:k<z.length
  ·obtain⟨i,hi⟩:∃i,i=z.length-k-1:=⟨_,rfl⟩;have hii:((z.length:Int)-k-1)=(i:Int):=qO;have hil:i<z.length:=qO;obtain⟨b1,off1,rfl,hb1,hcell⟩:=(HR.out.later HD.out.below).cells (by simp;omega);have hc1:wr.cell? ⟨b1,off1+i,none⟩=some (.int .u8 ((co z i).toNat:Int)):=hcell i _ (aB z i hil);have HH:Hid (Gf.gm (Gf.horner (co z) x k (z.length-k)) x^^^co z i=Gf.horner (co z) x (k+1) (z.length-(k+1))):=Lh (by
    rw[Gf.horner,show z.length-(k+1)+1=z.length-k by omega,show z.length-(k+1)=i by omega])
   generalize Gf.horner (co z) x k (z.length-k)=s at*;generalize co z i=t at*;have hx:=UInt8.toNat_lt x;have hs:=UInt8.toNat_lt s;have ht:=UInt8.toNat_lt t;have hu:=UInt8.toNat_lt (Gf.gm s x);have MC:Hid (∀n,Calls Tryz.prog 195 #[.pointer (some ⟨T,0,none⟩),.int .u8 (s.toNat:Int),.int .u8 (x.toNat:Int)] (wr.drewN n) fun e w'=>e=.returned (.int .u8 ((Gf.gm s x).toNat:Int))/\∃m,w'=(wr.drewN n).drewN m):=Lh fun n=>qj s x T C _ ((HT.out.later HD.out.below).later (Kit.dn' _ _))
   generalize hg:Gf.gm s x=u at*;have AC:Hid (∀v:World,Calls Tryz.prog 184 #[.int .u8 (u.toNat:Int),.int .u8 (t.toNat:Int)] v fun e w'=>e=.returned (.int .u8 ((u^^^t).toNat:Int))/\w'=v):=Lh fun v=>nU u t v
   generalize hr:u^^^t=r at*;have HG:=Lh hg;have HE:=Lh hr;clear hcell hg hr;rw[hii];have HI:=Lh hii;have HJ:=Lh hi;clear hi hii;go_wp2
   go_quiet ((first|(go_at_call 195;exact Calls.quiet_of (MC.out _))|(go_at_call 184;exact Calls.quiet_of_same (AC.out _))))
   go_wp2
   go_roundw
   case rel=>
    have:=HI.out;exact⟨k+1,qO,by go_num,by rw[<-HH.out],HD.out.add _⟩
   case measure=>simp[intOf]
  ·obtain rfl:k=z.length:=qO;have HE:Hid (Gf.horner (co z) x z.length (z.length-z.length)=evL z x):=Lh (by
    rw[Nat.sub_self,Gf.ID];unfold evL;exact Gf.jD fun i _=>by rw[Nat.zero_add])
   rw[show((z.length:Int)-z.length-1)= -1 by omega];go_wp2
   go_ret;exact⟨eJ (by rw[HE.out]),HD.out⟩
theorem A5(z:BL)(x:UInt8)(o:Option Addr)(c:Nat)(w:World)(hR:RowIs w o (bytesV z) c):
  Calls Tryz.prog 209 #[.slice o z.length c,.int .u8 (x.toNat:Int)] w fun e w'=>e=.returned (.int .u8 ((evL z x).toNat:Int))/\Below w.heap.size w w':=by
 have HR:=Lh hR;have hx:=UInt8.toNat_lt x;clear hR;go_enter Tryz.func209,Tryz.ntmps209
 go_wp2_with fail;refine(jE _).mono ?_;rintro e w1 ⟨n,C,hC,rfl,hw1⟩;have hT1:TabAt w1 w.heap.size C:=by rw[hw1];exact TabAt.made hC
 have hb1:Below w.heap.size w w1:=by rw[hw1];exact fL
 have HB1:=Lh hb1;have HV:=Lh (xW z x w.heap.size C o c w1 (HR.out.later hb1) hT1);clear hC hT1 hb1 hw1;go_wp2_with fail;refine HV.out.mono ?_;rintro e w2 ⟨rfl,hd⟩;have HB2:=Lh (Ks HB1.out hd.below);clear hd HV;go_wp2_with fail;go_ret;exact⟨rfl,HB2.out⟩
def Full(W:World)(g:Nat)(ys:BL):Prop:=W.heap[g]? =some (.cells (bytesV ys).toArray 5 (0,0))
theorem Full.buf{W:World}{g:Nat}{ys:BL}(h:Full W g ys)(hm:ys.length<=maxLen):Buf W g ys.length ys:=
 ⟨qS,.inr ⟨g,ys.length,_,rfl,Nat.zero_le _,h,Nat.le_refl _,hm,qS,by rw[Nat.mul_one];exact List.take_of_length_le qS⟩⟩
theorem Buf.full{W:World}{g n:Nat}{ys:BL}(h:Buf W g n ys)(hn:n=ys.length):Full W g ys:=by
 subst hn;obtain⟨hl,hx⟩:=h;rcases hx with ⟨h,_⟩|⟨g',cap',cur,h,_,hh,_,_,hcur,htake⟩
 ·cases h
 ·injection h with h1 h2 h3
  injection h1 with h1
  injection h1 with h1
  subst h1;subst h3;unfold Full;rw[hh];have e:cur=(bytesV ys).toArray:=by
   apply Array.ext';rw[<-htake,List.take_of_length_le (by simp[hcur])]
  rw[e]
theorem dM(ys z:BL)(off:Nat):splice (bytesV ys) off (bytesV z)=bytesV (splice ys off z):=by
 simp[splice,bytesV]
theorem j7(ys z:BL)(off i:Nat)(h:off+z.length<=ys.length):co (splice ys off z) i=if off<=i/\i<off+z.length then co z (i-off)else co ys i:=by
 unfold splice co;simp only[List.getD_eq_getElem?_getD];by_cases h1:i<off
 ·rw[if_neg qO,List.getElem?_append_left (by simp;omega),List.getElem?_take_of_lt h1]
 ·rw[List.getElem?_append_right (by simp;omega)];have e:(ys.take off).length=off:=by simp;omega
  rw[e];by_cases h2:i<off+z.length
  ·rw[if_pos ⟨qO,h2⟩,List.getElem?_append_left qO]
  ·rw[if_neg qO,List.getElem?_append_right qO,List.getElem?_drop];congr 2;omega
theorem cw(n i:Nat):co (List.replicate n 0) i=0:=by
 simp only[co,List.getD_eq_getElem?_getD,List.getElem?_replicate];split<;>rfl
theorem jW(p q:BL)(o o2:Option Addr)(c c2:Nat)(w:World)(hP:RowIs w o (bytesV p) c)(hQ:RowIs w o2 (bytesV q) c2)(hl:p.length+q.length<=1000000):
  Calls Tryz.prog 179 #[.slice o p.length c,.slice o2 q.length c2] w fun e w'=>∃g cap,e=.returned (.slice (some ⟨g,0,none⟩) (tr (bB p q)).length cap)/\w.heap.size<=g/\Below w.heap.size w w'/\RowIs w' (some ⟨g,0,none⟩) (bytesV (tr (bB p q))) cap:=by
 have HP:=Lh hP;have HQ:=Lh hQ;clear hP hQ;go_enter Tryz.func179,Tryz.ntmps179
 go_wp2_with fail;refine(jE _).mono ?_;rintro e w1 ⟨n,C,hC,rfl,hw1⟩;have hT1:TabAt w1 w.heap.size C:=by rw[hw1];exact TabAt.made hC
 have hb1:Below w.heap.size w w1:=by rw[hw1];exact fL
 have HB1:=Lh hb1;have HM:=Lh (qh p q o o2 c c2 w.heap.size C w1 (HP.out.later hb1) (HQ.out.later hb1) hT1 hl);clear hC hT1 hb1 hw1;go_wp2_with fail;refine HM.out.mono ?_;rintro e w2 ⟨g,cap,rfl,hg,hb,hr⟩;have HB2:=Lh (Ks HB1.out hb);have HR:=Lh hr;have hg2:=HB1.out.size;clear hb HM hr;go_wp2_with fail;go_ret;exact⟨g,cap,rfl,qO,HB2.out,HR.out⟩
namespace Gf
theorem Lm(f:Nat->UInt8)(t n:Nat)(h:t<n):sm (fun j=>if j=t then f j else 0) n=f t:=by
 induction n with
 |zero=>omega
 |succ n ih=>
  rw[sm];by_cases e:n=t
  ·subst e;rw[if_pos rfl,bU (fun i hi=>if_neg qO),UInt8.zero_xor]
  ·rw[if_neg e,ih qO,UInt8.xor_zero]
def gd(a b:UInt8):UInt8:=UInt8.ofNat (mul a.toNat (inv b.toNat))
theorem yn(a b:UInt8):(gd a b).toNat=mul a.toNat (inv b.toNat):=by
 have:=mul_lt a.toNat (inv b.toNat) (UInt8.toNat_lt a);simp only[gd,UInt8.toNat_ofNat'];omega
theorem sj(a b:UInt8)(h:b≠0):gm (gd a b) b=a:=bR (by
 have h0:b.toNat≠0:=fun e=>h (bR e)
 rw[eL,yn,lK _ _ _ (UInt8.toNat_lt a) (uZ _) (UInt8.toNat_lt b),jh (inv b.toNat) b.toNat (uZ _) (UInt8.toNat_lt b),yj _ h0 (UInt8.toNat_lt b)];exact kp _ (UInt8.toNat_lt a))
end Gf
structure DI(p q:BL)(m s:Nat)(R Y:BL):Prop where
 lr:R.length=p.length
 ly:Y.length=p.length-m
 eq:∀k,co (bB Y q) k^^^co R k=co p k
 top:∀k,s<=k->m<=k->co R k=0
 low:∀j,j+m<s->co Y j=0
theorem qk(n k:Nat):co (List.replicate n 0) k=0:=by
 simp only[co,List.getD_eq_getElem?_getD,List.getElem?_replicate];split<;>rfl
theorem DI.start(p q:BL)(m:Nat):DI p q m p.length p (List.replicate (p.length-m) 0):=by
 refine⟨rfl,qS,fun k=>?_,fun k h _=>aZ h,fun j _=>qk _ _⟩;rw[ir,Gf.pm,Gf.bU (fun i _=>by rw[qk,Gf.aK]),UInt8.zero_xor]
theorem DI.skip{p q:BL}{m i:Nat}{R Y:BL}(h:DI p q m (i+1) R Y)(h0:co R i=0):DI p q m i R Y:=
 ⟨h.lr,h.ly,h.eq,fun k hk hm=>by
  by_cases e:k=i
  ·rw[e];exact h0
  ·exact h.top k qO hm,fun j hj=>h.low j qO⟩
theorem Ln{q:BL}{n k:Nat}(h:n+q.length<=k):Gf.ps n (co q) k=0:=by
 unfold Gf.ps;rw[if_pos qO];exact aZ qO
theorem DN(ys z:BL)(off k:Nat)(a:UInt8)(h:off+z.length<=ys.length):co (mix ys off z a) k=co ys k^^^Gf.gm a (Gf.ps off (co z) k):=by
 by_cases hk:k<ys.length
 ·rw[kq _ _ _ _ _ hk];congr 1
  unfold Gf.ps;split
  ·exact Gf.aX _ _
  ·rw[Gf.aO]
 ·rw[aZ (by rw[ji];omega),aZ qO,Ln qO,Gf.aO];rfl
theorem DI.step{p q:BL}{m i:Nat}{R Y:BL}(h:DI p q m (i+1) R Y)(hm:m<=i)(hi:i<p.length)(hq:q.length=m+1)(by_:UInt8)(hb:Gf.gm by_ (co q m)=co R i):
  DI p q m i (mix R (i-m) q by_) (Y.set (i-m) by_):=by
 have hlr:=h.lr;have hly:=h.ly;have hmix:∀k,co (mix R (i-m) q by_) k=co R k^^^Gf.gm by_ (Gf.ps (i-m) (co q) k):=fun k=>DN _ _ _ _ _ qO
 refine⟨by simpa using hlr,by simpa using hly,fun k=>?_,fun k hk hmk=>?_,fun j hj=>?_⟩
 ·rw[hmix,ir,<-h.eq k,ir,List.length_set];have e:Gf.pm Y.length (co (Y.set (i-m) by_)) (co q) k=Gf.pm Y.length (co Y) (co q) k^^^Gf.gm by_ (Gf.ps (i-m) (co q) k):=by
   unfold Gf.pm;have e1:=Gf.Lm (fun j=>Gf.gm by_ (Gf.ps j (co q) k)) (i-m) Y.length qO;rw[<-e1,<-Gf.mF];refine Gf.aW fun j hj=>?_
   rw[cj];by_cases ej:j=i-m
   ·rw[if_pos ⟨ej.symm,qO⟩,if_pos ej,h.low j qO,Gf.aK,UInt8.zero_xor]
   ·rw[if_neg (fun h=>ej h.1.symm),if_neg ej,UInt8.xor_zero]
  rw[e,Gf.nP];rw[UInt8.xor_comm (Gf.gm _ _) (Gf.gm _ _)];rw[show co R k=co R k from rfl];rw[UInt8.xor_self,UInt8.xor_zero]
 ·rw[hmix];by_cases e:k=i
  ·subst e;unfold Gf.ps;rw[if_pos qO,show k-(k-m)=m by omega,hb,UInt8.xor_self]
  ·rw[h.top k qO hmk,Ln qO,Gf.aO];rfl
 ·rw[cj,if_neg qO];exact h.low j qO
structure DivOf(p q a b:BL):Prop where
 trimA:tr a=a
 trimB:tr b=b
 less:b.length<(tr q).length
 eq:∀k,co (bB a q) k^^^co b k=co p k
theorem xX{z:BL}(h:z.length≠0->co z (z.length-1)≠0):tr z=z:=by
 have e:tl z z.length=z.length:=oe z z.length z.length qN (fun i h1 h2=>absurd h1 qO) h;unfold tr;rw[e,List.take_length]
theorem U8{R:BL}{m:Nat}(h:∀k,m<=k->co R k=0):(tr R).length<=m:=by
 rw[cL];by_cases e:tl R R.length<=m
 ·exact e
 ·exact absurd (h _ qO) (nQ R R.length qO)
theorem DI.done{p q:BL}{m s:Nat}{R Y:BL}(h:DI (tr p) (tr q) m s R Y)(hs:s<=m)(hq:(tr q).length=m+1):DivOf p q Y (tr R):=by
 have hly:=h.ly;have hz:∀k,m<=k->co R k=0:=fun k hk=>h.top k qO hk
 have hmul:∀k,co (bB Y q) k=co (bB Y (tr q)) k:=fun k=>by
  exact eU (fun _=>rfl) (fun i=>(eR q i).symm) k
 refine⟨xX fun h0=>?_,AU R,by have:=U8 hz;omega,fun k=>?_⟩
 ·intro e;have htop:co (tr p) ((tr p).length-1)≠0:=by
   rw[eR,cL];exact nQ p p.length (by rw[<-cL];omega)
  refine htop ?_;rw[<-h.eq,hz _ qO,UInt8.xor_zero,ir];refine Gf.bU fun j hj=>?_
  by_cases ej:j=Y.length-1
  ·rw[ej,e,Gf.aK]
  ·rw[Ln qO,Gf.aO]
 ·rw[eR,hmul,h.eq,eR]
structure Bts(M:Nat->Prop)(B:Nat)(X X':World):Prop where
 os:X'.os=X.os
 tape:X'.tape=X.tape
 output:X'.output=X.output
 size:X.heap.size<=X'.heap.size
 same:∀k o,¬M k->X.heap[k]? =some o->o.isCells=true∨k<B->X'.heap[k]? =some o
theorem Bts.refl(M:Nat->Prop)(B:Nat)(X:World):Bts M B X X:=⟨rfl,rfl,rfl,Nat.le_refl _,fun _ _ _ h _=>h⟩
theorem Bts.trans{M:Nat->Prop}{B:Nat}{X Y Z:World}(h:Bts M B X Y)(k:Bts M B Y Z):Bts M B X Z:=
 ⟨k.os.trans h.os,k.tape.trans h.tape,k.output.trans h.output,Nat.le_trans h.size k.size,fun i o hg hi ho=>k.same i o hg (h.same i o hg hi ho) ho⟩
theorem Bts.of_nc{M:Nat->Prop}{B B':Nat}{X Y:World}(h:Rf.NC B' X Y)(hB:B<=B'):Bts M B X Y:=⟨h.os,h.tape,h.output,h.size,fun i o _ hi ho=>h.same i o hi (ho.imp id (fun h=>qO))⟩
theorem Bts.of_only{M:Nat->Prop}{g B:Nat}{X Y:World}(h:Only g X Y)(hg:M g):Bts M B X Y:=
 ⟨h.os,h.tape,h.output,h.size,fun i o hn hi _=>(h.block i (aE.1 hi).1 (fun e=>hn (by cases e;exact hg))).trans hi⟩
theorem Bts.cell{M:Nat->Prop}{B:Nat}{X Y:World}(h:Bts M B X Y){p:Addr}{v:Value}(hp:¬M p.block)(hv:X.cell? p=some v):Y.cell? p=some v:=by
 obtain⟨o,ho,hc⟩:=cells_of_cell hv;exact(World.cell?_of_block ((h.same _ o hp ho (.inl hc)).trans ho.symm)).trans hv
theorem Bts.row{M:Nat->Prop}{B:Nat}{a b:World}(h:Bts M B a b){o:Option Addr}{vs:List Value}{c:Nat}(hr:RowIs a o vs c)(hne:0<vs.length->∀p,o=some p->¬M p.block):RowIs b o vs c:=
 ⟨hr.le,hr.cap,hr.nil,fun h0=>by
  obtain⟨p,off,e,hlt,hc⟩:=hr.cells h0;exact⟨p,off,e,Nat.lt_of_lt_of_le hlt h.size,fun i v hv=>h.cell (p:=⟨p,off+i,none⟩) (show ¬M p from hne h0 ⟨p,off,none⟩ e) (hc i v hv)⟩⟩
theorem Bts.tab{M:Nat->Prop}{B T:Nat}{C:Array Value}{a b:World}(h:Bts M B a b)(ht:TabAt a T C)(hne:¬M T):TabAt b T C:=⟨h.same T _ hne ht.block (.inl rfl),ht.tab⟩
theorem Bts.boxed{M:Nat->Prop}{B k:Nat}{t:TypeId}{v:Value}{a b:World}(h:Bts M B a b)(ht:Boxed a k t v)(hne:¬M k):Boxed b k t v:=h.same k _ hne ht (.inl rfl)
theorem Bts.below{M:Nat->Prop}{B n:Nat}{X X':World}(h:Bts M B X X')(hg:∀k,M k->n<=k)(hn:n<=B)(hx:n<=X.heap.size):Below n X X':=
 ⟨h.os,h.tape,h.output,h.size,fun k hk=>by
  have hlt:k<X.heap.size:=qO;rw[Array.getElem?_eq_getElem hlt];exact h.same k _ (fun hm=>absurd (hg k hm) qO) (Array.getElem?_eq_getElem hlt) (.inr qO)⟩
