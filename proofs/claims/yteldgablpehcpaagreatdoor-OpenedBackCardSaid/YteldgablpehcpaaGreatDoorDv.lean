/- Dv -/
import Derived.Test.YteldgablpehcpaaGreatDoorGn
set_option linter.unusedVariables false
set_option linter.unusedSimpArgs false
set_option maxRecDepth 100000
set_option maxHeartbeats 8000000
namespace Go.Proofs.YteldgablpehcpaaGreatDoor
open Go.RowKit
section
attribute [local go_sem] Oper.semAt_some
theorem NK(a:Array Value)(n:Nat)(h:a.size=n):a=((List.range n).map fun i=>a.getD i undef).toArray:=by
 subst h;apply Array.ext
 ·simp
 ·intro i h1 h2;simp[Array.getD_eq_getD_getElem?,h1]
structure D4(v0:World)(b7 b8 b9 T:Nat)(C:Array Value)(x:Value)(p:BL)(u7 u8 u9:Value)(v:World):Prop where
 below:Below v0.heap.size v0 v
 g7:v0.heap.size<=b7
 g8:v0.heap.size<=b8
 g9:v0.heap.size<=b9
 gT:v0.heap.size<=T
 x7:Boxed v b7 263 u7
 x8:Boxed v b8 3 u8
 x9:Boxed v b9 22 u9
 tab:TabAt v T C
 own:v.ownsRow v0.heap.size 5 1 x (tr p).length (bytesV (tr p))
theorem lV{v:World}{a b:Nat}{s t:TypeId}{x y:Value}(h:Boxed v a s x)(k:Boxed v b t y)(hne:s≠t):a≠b:=fun e=>by
 subst e;have:=(show v.heap[a]? =_ from h).symm.trans k;simp at this;exact hne this.2
theorem Dq{v:World}{a T:Nat}{s:TypeId}{x:Value}{C:Array Value}(h:Boxed v a s x)(k:TabAt v T C)(hne:s≠ 282):T≠a:=fun e=>by
 subst e;have:=(show v.heap[T]? =_ from h).symm.trans k.block;simp at this;exact hne this.2
theorem zD{v:World}{n a:Nat}{s:TypeId}{y x u:Value}{m:Nat}{xs:List Value}(h:v.ownsRow n 5 1 x m xs)(k:Boxed v a s y)(hne:s≠ 5):(v.setCell ⟨a,0,none⟩ u).ownsRow n 5 1 x m xs:=
 h.kept (grownBy_setCell' v a u) (.inr (Ne.symm (k.not_row hne h)))
theorem zF{v:World}{a T:Nat}{C:Array Value}{u:Value}(k:TabAt v T C)(hne:T≠a):TabAt (v.setCell ⟨a,0,none⟩ u) T C:=Only.tab (grownBy_setCell' v a u) k hne
variable {v0 v:World} {b7 b8 b9 T:Nat} {C:Array Value} {x u7 u8 u9:Value} {p:BL}
theorem D4.set7(h:D4 v0 b7 b8 b9 T C x p u7 u8 u9 v)(u:Value):D4 v0 b7 b8 b9 T C x p u u8 u9 (v.setCell ⟨b7,0,none⟩ u):=
 ⟨h.below.setCell (p:=⟨b7,0,none⟩) h.g7 _,h.g7,h.g8,h.g9,h.gT,h.x7.set _,h.x8.other (lV h.x8 h.x7 qD) _,h.x9.other (lV h.x9 h.x7 qD) _,zF h.tab (Dq h.x7 h.tab qD),zD h.own h.x7 qD⟩
theorem D4.set8(h:D4 v0 b7 b8 b9 T C x p u7 u8 u9 v)(u:Value):D4 v0 b7 b8 b9 T C x p u7 u u9 (v.setCell ⟨b8,0,none⟩ u):=
 ⟨h.below.setCell (p:=⟨b8,0,none⟩) h.g8 _,h.g7,h.g8,h.g9,h.gT,h.x7.other (lV h.x7 h.x8 qD) _,h.x8.set _,h.x9.other (lV h.x9 h.x8 qD) _,zF h.tab (Dq h.x8 h.tab qD),zD h.own h.x8 qD⟩
theorem D4.set9(h:D4 v0 b7 b8 b9 T C x p u7 u8 u9 v)(u:Value):D4 v0 b7 b8 b9 T C x p u7 u8 u (v.setCell ⟨b9,0,none⟩ u):=
 ⟨h.below.setCell (p:=⟨b9,0,none⟩) h.g9 _,h.g7,h.g8,h.g9,h.gT,h.x7.other (lV h.x7 h.x9 qD) _,h.x8.other (lV h.x8 h.x9 qD) _,h.x9.set _,zF h.tab (Dq h.x9 h.tab qD),zD h.own h.x9 qD⟩
def DvG(p q:BL)(v0:World)(o o2:Option Addr)(c c2:Nat)(i:Nat)(x:Value)(v:World):Prop:=
 match i with
 |0=>∃T C,x=.pointer (some ⟨T,0,none⟩)/\v0.heap.size<=T/\TabAt v T C
 |1=>x=.slice o2 (tr q).length c2
 |2=>x=.int .i64 ((tr q).length:Int)
 |3=>x=.int .i64 (((tr q).length:Int)-1)
 |4=>x=.slice o p.length c
 |5=>v.ownsRow v0.heap.size 5 1 x (tr p).length (bytesV (tr p))
 |6=>∃b u,x=.pointer (some ⟨b,0,none⟩)/\v0.heap.size<=b/\Boxed v b 263 u
 |7=>∃b u,x=.pointer (some ⟨b,0,none⟩)/\v0.heap.size<=b/\Boxed v b 3 u
 |_=>∃b u,x=.pointer (some ⟨b,0,none⟩)/\v0.heap.size<=b/\Boxed v b 22 u
theorem vY{W W':World}{n:Nat}{v:Value}{xs:List Value}{m:Nat}(h:W.ownsRow n 5 1 v m xs)(hb:Below W.heap.size W W'):W'.ownsRow n 5 1 v m xs:=by
 obtain⟨hl,hx⟩:=h;refine⟨hl,?_⟩;rcases hx with hx|⟨g',cap',cur,h,h0,hh,h4⟩
 ·exact .inl hx
 ·exact .inr ⟨g',cap',cur,h,h0,by rw[hb.block g' (aE.1 hh).1];exact hh,h4⟩
theorem DvG.later{p q:BL}{v0:World}{o o2:Option Addr}{c c2:Nat}(i:Nat)(x:Value)(v v':World)(h:DvG p q v0 o o2 c c2 i x v)(hb:Below v.heap.size v v'):DvG p q v0 o o2 c c2 i x v':=by
 unfold DvG at*;split at h
 ·obtain⟨T,C,e,hg,ht⟩:=h;exact⟨T,C,e,hg,ht.later hb⟩
 ·exact h
 ·exact h
 ·exact h
 ·exact h
 ·exact vY h hb
 ·obtain⟨b,u,e,hg,hx⟩:=h;exact⟨b,u,e,hg,aC hx hb⟩
 ·obtain⟨b,u,e,hg,hx⟩:=h;exact⟨b,u,e,hg,aC hx hb⟩
 ·obtain⟨b,u,e,hg,hx⟩:=h;exact⟨b,u,e,hg,aC hx hb⟩
def DvM(g10:Nat)(o9:Option Addr)(k:Nat):Prop:=k=g10∨∃a,o9=some a/\a.block=k
structure DvI(p q:BL)(m nR c9 g10:Nat)(o9:Option Addr)(w6:World)(i:Nat)(X:World):Prop where
 le:i<=nR
 rows:∃R Y,DI (tr p) (tr q) m i R Y/\RowIs X o9 (bytesV R) c9/\(∀g,o9=some ⟨g,0,none⟩->Buf X g c9 R)/\Buf X g10 (nR-m) Y
 bt:Bts (DvM g10 o9) w6.heap.size w6 X
theorem DvI.nc{p q:BL}{m nR c9 g10:Nat}{o9:Option Addr}{w6:World}{i B:Nat}{X X':World}(h:DvI p q m nR c9 g10 o9 w6 i X)(k:Rf.NC B X X')(hB:w6.heap.size<=B):DvI p q m nR c9 g10 o9 w6 i X':=by
 obtain⟨h1,⟨R,Y,h2,h3,h4,h5⟩,h6⟩:=h;exact⟨h1,⟨R,Y,h2,h3.nc k,fun g hg=>(h4 g hg).nc k,h5.nc k⟩,h6.trans (Bts.of_nc k hB)⟩
theorem JJ{v:World}{a g cap:Nat}{t:TypeId}{x:Value}{ys:BL}(h:Boxed v a t x)(k:Buf v g cap ys)(hne:t≠ 5):a≠g:=fun e=>by
 subst e;obtain⟨cur,hc⟩:=k.cells;have:=(show v.heap[a]? =_ from h).symm.trans hc;simp at this;exact hne this.2
theorem RD{v:World}{T g cap:Nat}{C:Array Value}{ys:BL}(h:TabAt v T C)(k:Buf v g cap ys):T≠g:=fun e=>by
 subst e;obtain⟨cur,hc⟩:=k.cells;have:=(show v.heap[T]? =_ from h.block).symm.trans hc;simp at this
theorem D4.later{v0 v v':World}{b7 b8 b9 T:Nat}{C:Array Value}{x u7 u8 u9:Value}{p:BL}(h:D4 v0 b7 b8 b9 T C x p u7 u8 u9 v)(hb:Below v.heap.size v v'):D4 v0 b7 b8 b9 T C x p u7 u8 u9 v':=
 ⟨h.below.trans (hb.mono h.below.size),h.g7,h.g8,h.g9,h.gT,aC h.x7 hb,aC h.x8 hb,aC h.x9 hb,h.tab.later hb,vY h.own hb⟩
theorem vZ{P:Program}{fn:Func}{tmps:Array Value}{R:Ending->World->Prop}{D:Nat}{X:World}{v:Value}
  (hK:X.heap[D]? =some (.deferred (some []))) (hr:(results fn tmps).run P (X.putObj D (.deferred none))=.ok v (X.putObj D (.deferred none))) (h:R (.returned v) (X.putObj D (.deferred none))):
  Code.wp P Code.ret (bodyPostM Fence.wide 0 P fn R) {tmps:=tmps,defers:=[{target:=.collected D,args:=#[]}]} X:=by
 exact wp_ret (Rf.leaves hK hr h)
def VK(p q:BL)(w:World)(e:Ending)(w':World):Prop:=
 ∃Y R x y,DivOf p q Y R/\Y.length<=p.length/\e=.returned (.tuple #[x,y,.nilIface])/\RowV Y x w'/\RowV R y w'/\Below w.heap.size w w'
theorem RG(p q:BL)(o o2:Option Addr)(c c2:Nat)(w:World)(hP:RowIs w o (bytesV p) c)(hQ:RowIs w o2 (bytesV q) c2)(hl1:p.length<=1000)(hl2:q.length<=1000)(h0:(tr q).length≠0):
  Calls Tryz.prog 188 #[.slice o p.length c,.slice o2 q.length c2] w (VK p q w):=by
 have h1:=hP.le;have h2:=hP.cap;have h3:=hQ.le;have h4:=hQ.cap;simp only[bytesV_length]at h1 h3;unfold maxLen at h2 h4;have htq:=iR q;have HP:=Lh hP;have HQ:=Lh hQ;clear hP hQ;refine Rf.dh Tryz.func188 rfl ?_;simp only[Tryz.ntmps188,List.size_toArray,List.length_cons,List.length_nil,Nat.reduceAdd,Nat.reduceSub,Array.replicate_succ,Array.replicate_zero,List.push_toArray,List.append_toArray,List.nil_append,List.cons_append];have hb0:Below w.heap.size w (w.alloc (.cells #[.slice o2 q.length c2] 22)):=qB.alloc qN _;have HC:=Lh (dl o2 q c2 _ (HQ.out.later hb0));have HB0:=Lh hb0;clear hb0;go_wp2_with fail;refine HC.out.mono ?_;rintro e v ⟨rfl,hb,hr⟩;have hx:Boxed v w.heap.size 22 (.slice o2 q.length c2):=aC (Boxed.new w _ _) hb;have hf:=hx.frozen;have hc:=hx.cell;obtain⟨w1,hw1⟩:=qM (v.setCell ⟨w.heap.size,0,none⟩ (.slice o2 (tr q).length c2));have hb1:Below w.heap.size w w1:=by rw[<-hw1];exact(HB0.out.trans (hb.mono qS)).setCell (p:=⟨w.heap.size,0,none⟩) qN _
 have hx1:Boxed w1 w.heap.size 22 (.slice o2 (tr q).length c2):=by rw[<-hw1];exact hx.set _
 have hc1:=hx1.cell;have HB1:=Lh hb1;have HX1:=Lh hx1;have HW1:=Lh hw1;have hq0:((tr q).length:Int)≠0:=qO;have hq1:(((tr q).length:Int)==0)=false:=by simpa using h0
 clear hb hr hx hb1 hx1 hw1 HC;go_wp2_with fail;rw[HW1.out];refine Code.wp_mono (Q:=fun e b v=>e=.normal/\∃b7 b8 b9 T C x,∃f:Nat->Value,D4 w1 b7 b8 b9 T C x p (.pointer (some ⟨T,0,none⟩)) (.int .i64 (((tr q).length:Int)-1)) x v/\b={tmps:=#[.slice o p.length c,(f 1:Value),(f 2:Value),.pointer (some ⟨w.heap.size,0,none⟩),(f 4:Value),(f 5:Value),(f 6:Value),.pointer (some ⟨b7,0,none⟩),.pointer (some ⟨b8,0,none⟩),.pointer (some ⟨b9,0,none⟩),(f 10:Value),(f 11:Value),(f 12:Value),(f 13:Value),(f 14:Value),(f 15:Value),(f 16:Value),(f 17:Value),(f 18:Value),(f 19:Value),(f 20:Value),(f 21:Value),(f 22:Value),(f 23:Value),(f 24:Value),(f 25:Value),(f 26:Value),(f 27:Value),(f 28:Value),(f 29:Value),(f 30:Value),(f 31:Value),(f 32:Value),(f 33:Value),(f 34:Value),(f 35:Value),(f 36:Value),(f 37:Value),(f 38:Value),(f 39:Value),(f 40:Value),(f 41:Value),(f 42:Value),(f 43:Value),(f 44:Value),(f 45:Value),(f 46:Value),(f 47:Value),(f 48:Value),(f 49:Value),(f 50:Value),(f 51:Value),(f 52:Value),(f 53:Value),(f 54:Value),(f 55:Value),(f 56:Value),(f 57:Value),(f 58:Value),(f 59:Value),(f 60:Value),(f 61:Value),(f 62:Value),(f 63:Value)],defers:=[]}) ?rest ?reg
 case reg=>
  refine wp_region_held (S:=fun v=>v.cell? ⟨w.heap.size,0,none⟩=some (.slice o2 (tr q).length c2)) qK ?_;change wpAnyH _ _ _ _ _ _ _ _ (World.drew w1);have hcd:w1.drew.cell? ⟨w.heap.size,0,none⟩=some (.slice o2 (tr q).length c2):=hc1;have hwr:IntKind.i64.wrap (((tr q).length:Int)-1)=((tr q).length:Int)-1:=by rw[IntKind.wrap_i64];omega
  refine wpAnyH_take (i:=4) (v:=.slice o p.length c) rfl qK qK qK (fun _ _ _ h=>by cases h.1) (Or.inl ⟨by rfl,fun w hS=>by go_simp⟩) hcd ?_;refine wpAnyH_take (i:=1) (v:=.slice o2 (tr q).length c2) rfl qK qK qK (fun _ _ _ h=>by cases h.1) (Or.inl ⟨by rfl,fun w hS=>by go_simp⟩) hcd ?_;refine wpAnyH_take (i:=2) (v:=.int .i64 ((tr q).length:Int)) rfl qK qK qK (fun _ _ _ h=>by cases h.1) (Or.inl ⟨by rfl,fun w hS=>by go_simp⟩) hcd ?_;refine wpAnyH_take (i:=3) (v:=.int .i64 (((tr q).length:Int)-1)) rfl qK qK qK (fun _ _ _ h=>by cases h.1) (Or.inl ⟨by rfl,fun w hS=>by go_simp⟩) hcd ?_;refine Rg.Ky (w:=w1.drew) (G:=DvG p q w1 o o2 c c2) (N:=64) (E:=fun i=>i==0||i==5||i==6||i==7||i==8) (D:=fun i=>i==1||i==2||i==3||i==4) qK ?hS DvG.later ?step ?fin _ _ _ _ qK ⟨Below.refl _ _,rfl,rfl,fun _ _=>rfl,?good,rfl,?late,?done⟩;case hS=>exact fun v hv=>(aC (show Boxed w1.drew _ _ _ from HX1.out) hv).cell
  case good=>
   intro i op d hE ho hd hl;exfalso
   have hi:=(aE.1 ho).1
   match i,hi with
   |0,_=>exact absurd hl qD
   |5,_=>exact absurd hl qD
   |6,_=>exact absurd hl qD
   |7,_=>exact absurd hl qD
   |8,_=>exact absurd hl qD
   |1,_=>exact absurd hE qD
   |2,_=>exact absurd hE qD
   |3,_=>exact absurd hE qD
   |4,_=>exact absurd hE qD
   |9,_=>exact absurd hE qD
   |10,_=>exact absurd hE qD
   |11,_=>exact absurd hE qD
   |n+12,h=>exact absurd h qS
  case late=>
   intro i hE hi
   match i,hi with
   |0,_|5,_|6,_|7,_|8,_=>exact absurd hE qD
   |1,_|2,_|3,_|4,_|9,_|10,_|11,_=>rfl
   |n+12,h=>exact absurd h qS
  case done=>
   intro i hD hi
   match i,hi with
   |1,_|2,_|3,_|4,_=>rfl
   |0,_|5,_|6,_|7,_|8,_|9,_|10,_|11,_=>exact absurd hD qD
   |n+12,h=>exact absurd h qS
  case step=>
   intro i op b v hE ho hb hrest hdep;have hi:=(aE.1 ho).1;have r24:b.eval (.tmp 24)=.slice o p.length c:=hrest 24 (Rg.bH qK);have hsz:w1.heap.size<=v.heap.size:=hb.size;have hb1:Below w1.heap.size w1 v:=qB.drew.trans hb
   match i,hi with
   |0,_=>
    obtain rfl:=Option.some.inj ho;refine Rg.eI rfl (enters_of Tryz.func172 qK rfl) (args:=#[]) qS ?_;refine(jE v).mono ?_;rintro e v' ⟨n,C,hC,rfl,rfl⟩;exact⟨_,rfl,⟨_,C,rfl,hsz,TabAt.made hC⟩,fL⟩
   |1,_|2,_|3,_|4,_|9,_|10,_|11,_=>exact absurd hE qD
   |5,_=>
    obtain rfl:=Option.some.inj ho;refine Rg.eI rfl (enters_of Tryz.func205 qK rfl) (args:=#[b.eval (.tmp 24)]) qS ?_;rw[r24];refine(A6 p o c v ((HP.out.later HB1.out).later hb1) qO).mono ?_;rintro e v' ⟨x,rfl,h1,h2⟩;exact⟨x,rfl,h1.mono hsz,h2⟩
   |6,_=>
    obtain rfl:=Option.some.inj ho;refine Rg.gt (v':=v.alloc (.cells #[.pointer none] 263)) (.pointer (some ⟨v.heap.size,0,none⟩)) ?_ ⟨_,_,rfl,hsz,Boxed.new _ _ _⟩ (qB.alloc qN _);simp only[execOp];go_simp
   |7,_=>
    obtain rfl:=Option.some.inj ho;refine Rg.gt (v':=v.alloc (.cells #[.int .i64 0] 3)) (.pointer (some ⟨v.heap.size,0,none⟩)) ?_ ⟨_,_,rfl,hsz,Boxed.new _ _ _⟩ (qB.alloc qN _);simp only[execOp];go_simp
   |8,_=>
    obtain rfl:=Option.some.inj ho;refine Rg.gt (v':=v.alloc (.cells #[.slice none 0 0] 22)) (.pointer (some ⟨v.heap.size,0,none⟩)) ?_ ⟨_,_,rfl,hsz,Boxed.new _ _ _⟩ (qB.alloc qN _);simp only[execOp];go_simp
   |n+12,h=>exact absurd h qS
  case fin=>
   intro b v hb hs hd hrest hall;have r0:b.tmps.getD 0 undef=.slice o p.length c:=hrest 0 (Rg.bH qK);have r3:b.tmps.getD 3 undef=.pointer (some ⟨w.heap.size,0,none⟩):=hrest 3 (Rg.bH qK);have r23:b.tmps.getD 23 undef=.int .i64 (((tr q).length:Int)-1):=hrest 23 (Rg.bH qK);obtain⟨T,C,e20,gT,hT⟩:=hall 0 _ 20 rfl rfl rfl;obtain⟨b7,u7,e7,g7,h7⟩:=hall 6 _ 7 rfl rfl rfl;obtain⟨b8,u8,e8,g8,h8⟩:=hall 7 _ 8 rfl rfl rfl;obtain⟨b9,u9,e9,g9,h9⟩:=hall 8 _ 9 rfl rfl rfl;have hown:=hall 5 _ 25 rfl rfl rfl;obtain⟨x,hx⟩:=qM (b.tmps.getD 25 undef);rw[hx]at hown;have hD:D4 w1 b7 b8 b9 T C x p u7 u8 u9 v:=⟨qB.drew.trans hb,g7,g8,g9,gT,h7,h8,h9,hT,hown⟩;change wpAnyH _ _ _ _ _ 3 _ _ _;have hS:∀{b7 b8 b9 T C x u7 u8 u9 v},D4 w1 b7 b8 b9 T C x p u7 u8 u9 v->v.cell? ⟨w.heap.size,0,none⟩=some (.slice o2 (tr q).length c2):=fun h=>(aC HX1.out h.below).cell
   refine wpAnyH_all (rs:=[9]) qK qS (fun i hi=>?_);obtain rfl:i=9:=by simpa using hi
   refine Rg.ri (k:=b7) rfl rfl rfl rfl e7 hD.x7 ?r9 ⟨hS (hD.set7 _),?_⟩
   case r9=>
    rw[show b.eval (.tmp 20)=_ from e20];have hc:=hD.x7.cell;have hf:=hD.x7.frozen;go_simp
   rw[show b.eval (.tmp 20)=_ from e20];have hD:=hD.set7 (.pointer (some ⟨T,0,none⟩));refine wpAnyH_all (rs:=[10]) qK qS (fun i hi=>?_);obtain rfl:i=10:=by simpa using hi
   refine Rg.ri (k:=b8) rfl rfl rfl rfl e8 hD.x8 ?r10 ⟨hS (hD.set8 _),?_⟩
   case r10=>
    rw[show b.eval (.tmp 23)=_ from r23];have hc:=hD.x8.cell;have hf:=hD.x8.frozen;go_simp
   rw[show b.eval (.tmp 23)=_ from r23];have hD:=hD.set8 (.int .i64 (((tr q).length:Int)-1));refine wpAnyH_all (rs:=[11]) qK qS (fun i hi=>?_);obtain rfl:i=11:=by simpa using hi
   have hxs:∃ad m k,x=.slice ad m k:=by
    rcases hD.own.2 with ⟨e,_⟩|⟨g,cap,cur,e,_⟩
    ·exact⟨_,_,_,e⟩
    ·exact⟨_,_,_,e⟩
   obtain⟨ad,m,k,hxe⟩:=hxs;refine Rg.ri (k:=b9) rfl rfl rfl rfl e9 hD.x9 ?r11 ⟨hS (hD.set9 _),?_⟩
   case r11=>
    rw[show b.eval (.tmp 25)=_ from hx,hxe];have hc:=hD.x9.cell;have hf:=hD.x9.frozen;go_simp
   rw[show b.eval (.tmp 25)=_ from hx];have hD:=hD.set9 x;refine wpAnyH_done qK ?_ _;refine⟨rfl,b7,b8,b9,T,C,x,fun i=>b.tmps.getD i undef,hD,?_⟩;have e:=NK b.tmps 64 hs;obtain⟨tm,df⟩:=b;obtain rfl:df=[]:=hd;dsimp only at r0 r3 e7 e8 e9 e⊢;congr 1
   refine e.trans ?_;rw[<-r0,<-r3,<-e7,<-e8,<-e9];rfl
 case rest=>
  rintro e a W ⟨rfl,b7,b8,b9,T,C,x,f,hD,rfl⟩;obtain⟨m,hm⟩:∃m,(tr q).length=m+1:=⟨(tr q).length-1,qO⟩;have hmi:((tr q).length:Int)-1=(m:Int):=qO;rw[hmi]at hD;obtain⟨o9,c9,rfl,hR9,hO9⟩:∃o9 c9,x=.slice o9 (tr p).length c9/\RowIs W o9 (bytesV (tr p)) c9/\∀a,o9=some a->∃g,a=⟨g,0,none⟩/\w1.heap.size<=g/\Buf W g c9 (tr p):=by
   have how:=hD.own;have h0:=how.2;rcases h0 with ⟨rfl,h0⟩|⟨g,cap,cur,rfl,hg,_⟩
   ·have e:tr p=[]:=List.eq_nil_of_length_eq_zero h0;exact⟨none,0,by rw[h0],⟨by rw[e];simp,by unfold maxLen;omega,fun _=>rfl,fun h=>by rw[e]at h;simp at h⟩,fun a h=>by cases h⟩
   ·have hb:Buf W g cap (tr p):=how.mono (Nat.zero_le _);exact⟨_,_,rfl,hb.row,fun a h=>⟨g,by cases h;rfl,hg,hb⟩⟩
  have htp:=iR p;obtain⟨nR,hnR⟩:=qM ((tr p).length);rw[hnR]at hD;have c7:=hD.x7.cell;have c8:=hD.x8.cell;have c9':=hD.x9.cell;have hb01:=HB1.out;have hWb:Below w.heap.size w W:=hb01.trans (hD.below.mono hb01.size);have HD:=Lh hD;have HR9:=Lh hR9;have HO9:=Lh hO9;have HWB:=Lh hWb;have HMI:=Lh hmi;have HNR:=Lh hnR;have HMM:=Lh hm;obtain⟨i0,hi,hz0,hz1,hz2⟩:=info_parts ao;have hnp:nR<=1000:=qO;have hmp:m<1000:=qO;have hsub:IntKind.i64.wrap ((nR:Int)-(m:Int))=(nR:Int)-(m:Int):=by rw[IntKind.wrap_i64];omega
  clear hD hR9 hO9 hWb hb01 hmi hnR hm hc1 hq0 hq1 hc hf;rename_i K0 hK0;show K0 _ _;refine hK0 _ _ ?_;clear hK0;refine wp_seq ?_;refine Code.wp_mono (Q:=fun e b v=>e=.normal/\∃b10,W.heap.size<b10/\Below W.heap.size W v/\Boxed v b10 22 (.slice (some ⟨W.heap.size,0,none⟩) (nR-m) (nR-m))/\Buf v W.heap.size (nR-m) (List.replicate (nR-m) 0)/\b={tmps:=#[.slice o p.length c,(f 1:Value),(f 2:Value),.pointer (some ⟨w.heap.size,0,none⟩),(f 4:Value),(f 5:Value),(f 6:Value),.pointer (some ⟨b7,0,none⟩),.pointer (some ⟨b8,0,none⟩),.pointer (some ⟨b9,0,none⟩),.pointer (some ⟨b10,0,none⟩),(f 11:Value),(f 12:Value),(f 13:Value),(f 14:Value),(f 15:Value),(f 16:Value),(f 17:Value),(f 18:Value),(f 19:Value),(f 20:Value),(f 21:Value),(f 22:Value),(f 23:Value),(f 24:Value),(f 25:Value),.slice o9 nR c9,.int .i64 (nR:Int),.int .i64 (m:Int),.int .i64 ((nR:Int)-(m:Int)),.int .i64 ((nR-m:Nat):Int),.slice (some ⟨W.heap.size,0,none⟩) (nR-m) (nR-m),(f 32:Value),(f 33:Value),(f 34:Value),(f 35:Value),(f 36:Value),(f 37:Value),(f 38:Value),(f 39:Value),(f 40:Value),(f 41:Value),(f 42:Value),(f 43:Value),(f 44:Value),(f 45:Value),(f 46:Value),(f 47:Value),(f 48:Value),(f 49:Value),(f 50:Value),(f 51:Value),(f 52:Value),(f 53:Value),(f 54:Value),(f 55:Value),(f 56:Value),(f 57:Value),(f 58:Value),(f 59:Value),(f 60:Value),(f 61:Value),(f 62:Value),(f 63:Value)],defers:=[]}) ?rest2 ?reg5
  case reg5=>
   go_wp2_with (at_make;refine wpList_make_full _ rfl _ _ 22 rfl 0 5 i0 (.int .u8 0) 1 Tryz.underlying22 hi hz0 hz1 _ _ _ _ (nR-m) rfl rfl qO qO (by rw[hz2];omega) (by unfold maxLen;omega) (Nat.zero_le _) ?_)
   all_goals
    intro w2 hown hgrow;have hb2:Below W.heap.size W w2:=qB.grown hgrow qN (fun k h=>by cases h);have hbuf:Buf w2 W.heap.size (nR-m) (List.replicate (nR-m) 0):=bK hown;have hlt:=hbuf.lt;have HB2:=Lh hb2;have HBF:=Lh hbuf;clear hown hgrow hb2 hbuf;go_wp2_with fail;refine⟨w2.heap.size,hlt,HB2.out.trans (((Below.refl _ w2).alloc qN _).mono qO),Boxed.new _ _ _,HBF.out.later ((Below.refl _ w2).alloc qN _),?_⟩;first|rfl|(congr 5;omega)|(trace_state;skip)
  case rest2=>
   rintro e a v5 ⟨rfl,b10,hb10,hB5,hX10,hBuf5,rfl⟩;obtain⟨g10,hg10⟩:=qM W.heap.size;rw[hg10]at hb10 hX10 hBuf5⊢;have hD5:=HD.out.later hB5;have hs10:=hX10.lt;have c8:=hD5.x8.cell;have c9':=hD5.x9.cell;have hT:=HD.out.tab;have hTlt:T<g10:=by rw[<-hg10];exact(aE.1 hT.block).1
   have hMb:∀k t x,Boxed W k t x->t≠ 5->¬DvM g10 o9 k:=by
    rintro k t x hk ht (rfl|⟨a,hg,rfl⟩)
    ·exact absurd hk.lt qO
    ·obtain⟨g',e,_,hb⟩:=HO9.out _ hg;subst e;exact JJ hk hb ht rfl
   have hMl:∀k,g10<k->¬DvM g10 o9 k:=by
    rintro k hk (rfl|⟨a,hg,rfl⟩)
    ·omega
    ·obtain⟨g',e,_,hb⟩:=HO9.out _ hg;subst e;have h:=hb.lt;dsimp only at hk;omega
   have hMT:¬DvM g10 o9 T:=by
    rintro(rfl|⟨a,hg,rfl⟩)
    ·omega
    ·obtain⟨g',e,_,hb⟩:=HO9.out _ hg;subst e;exact RD hT hb rfl
   have hsw1:w.heap.size<=w1.heap.size:=HB1.out.size;have hswW:w.heap.size<g10:=by
    have:=(aC HX1.out HD.out.below).lt;omega
   have hMq:0<(bytesV (tr q)).length->∀a,o2=some a->¬DvM g10 o9 a.block:=by
    intro h0 a ha;have h1:a.block<w.heap.size:=by
     obtain⟨bb,off,e,hlt,_⟩:=(HQ.out.take (tl q q.length)).cells h0;rw[ha]at e;cases e
     exact hlt
    rintro(h|⟨a',hg,h⟩)
    ·omega
    ·obtain⟨g',e,h2,_⟩:=HO9.out _ hg;subst e;dsimp only at h;omega
   have hMlow:∀k,DvM g10 o9 k->w1.heap.size<=k:=by
    rintro k (rfl|⟨a,hg,rfl⟩)
    ·rw[<-hg10];exact HD.out.below.size
    ·obtain⟨g',e,h2,_⟩:=HO9.out _ hg;subst e;exact h2
   have HD5:=Lh hD5;have HX10:=Lh hX10;have HBF5:=Lh hBuf5;have HB5:=Lh hB5;have HG10:=Lh hg10;have HML:=Lh hMl;have HMT:=Lh hMT;have HMQ:=Lh hMq;have HMLOW:=Lh hMlow;have m7:=hMb _ _ _ HD.out.x7 qD;have m8:=hMb _ _ _ HD.out.x8 qD;have m9:=hMb _ _ _ HD.out.x9 qD;have mq:=hMb _ _ _ (aC HX1.out HD.out.below) qD;have M7:=Lh m7;have M8:=Lh m8;have M9:=Lh m9;have MQ:=Lh mq;clear hD5 hX10 hBuf5 hB5 hg10 hMb hMl hMT hMq hMlow m7 m8 m9 mq hT hi hz0 hz1 hz2 hsub;simp only[Exit.then];go_wp2_with fail;refine(rp o9 nR c9 _).mono ?_;rintro e w6 ⟨rfl,hw6⟩;have hb56:Below v5.heap.size v5 w6:=by rw[hw6];exact qB.alloc qN _
   have hXt:Boxed w6 v5.heap.size 22 (.slice o9 nR c9):=by rw[hw6];exact Boxed.new v5 _ _
   have HB56:=Lh hb56;have HXT:=Lh hXt;have HD6:=Lh (HD5.out.later hb56);have HX106:=Lh (aC HX10.out hb56);have HBF6:=Lh (HBF5.out.later hb56);clear hb56 hXt hw6 c7 c8 c9';have hB6:Below w.heap.size w w6:=(HWB.out.trans (HB5.out.mono HWB.out.size)).trans (HB56.out.mono (Nat.le_trans HWB.out.size HB5.out.size));have hQ6:RowIs w6 o2 (bytesV (tr q)) c2:=(HQ.out.take (tl q q.length)).later hB6;have hxq:Boxed w6 w.heap.size 22 (.slice o2 (tr q).length c2):=aC (aC (aC HX1.out HD.out.below) HB5.out) HB56.out;have hs65:=HXT.out.lt;have hs5:=HB5.out.size;have HB6:=Lh hB6;have HQ6:=Lh hQ6;have HXQ:=Lh hxq;have HR96:=Lh ((HR9.out.later HB5.out).later HB56.out);have HO96:Hid (∀g,o9=some ⟨g,0,none⟩->Buf w6 g c9 (tr p)):=Lh fun g hg=>by
    obtain⟨g',e,_,hb⟩:=HO9.out _ hg;cases e
    exact(hb.later HB5.out).later HB56.out
   clear hB6 hQ6 hxq;go_wp2_with fail;refine Rf.jd (α:=Nat×UInt8) (σ:=Nat) rfl (enters_of Tryz.func226 qK rfl) (fun x=> #[.int .i64 x.1,.int .u8 (x.2.toNat:Int)]) (fun _=>rfl)
    (DvI p q m nR c9 g10 o9 w6)
    (fun c X=>c=.exit 0/\∃s,s<=m/\DvI p q m nR c9 g10 o9 w6 s X)
    (fun s x s' X=>s=x.1+1/\s'=x.1/\x.1<nR/\∃z:BL,z.length=nR/\RowIs X o9 (bytesV z) c9/\co z x.1=x.2)
    nR (fun s=>s=0) ?hI ?hIx ?hV ?h0 ?hseq ?round ?done ?stop
   case hI=>exact fun s X X' h k=>h.nc k qN
   case hIx=>exact fun c X X' h k=>⟨h.1,h.2.elim fun s h=>⟨s,h.1,h.2.nc k qN⟩⟩
   case hV=>exact fun s x s' X X' h k=>⟨h.1,h.2.1,h.2.2.1,h.2.2.2.elim fun z h=>⟨z,h.1,h.2.1.nc k,h.2.2⟩⟩
   case h0=>exact⟨Nat.le_refl _,⟨tr p,List.replicate (nR-m) 0,by have:=DI.start (tr p) (tr q) m;rw[HNR.out]at this;exact this,HR96.out,HO96.out,HBF6.out⟩,Bts.refl _ _ _⟩
   case hseq=>
    intro l B Bx X hnc hi hB hk ht;refine(uc l (DvI p q m nR c9 g10 o9 w6) B Bx o9 nR c9 v5.heap.size X ?_ ?_ ?_ hi hB).mono ?_
    ·exact fun i X h=>⟨(h.bt.boxed HXT.out (HML.out _ qO)).cell,h.rows.elim fun R h=>h.elim fun Y h=>⟨R,by rw[h.1.lr,HNR.out],h.2.1⟩⟩
    ·rintro i X z' ⟨h1,⟨R,Y,h2,h3,h4,h5⟩,h6⟩ hlt hr hl h0;obtain rfl:R=z':=RowIs.uniq h3 hr (by rw[h2.lr,HNR.out,hl]);exact⟨qO,⟨R,Y,h2.skip h0,h3,h4,h5⟩,h6⟩
    ·rintro i b X hI hB hlt ⟨z',hl,hr,rfl⟩ hb;exact((ht (i+1) (i,co z' i) i X hI hB ⟨rfl,rfl,hlt,z',hl,hr,rfl⟩).mono fun e X' h=>h.imp (fun h=>⟨h.1,h.2.1,h.2.2⟩) id)
    ·rintro e X' ⟨hv,(⟨h,hB⟩|hx)⟩
     ·exact⟨hv,.inl ⟨0,rfl,h,hB⟩⟩
     ·exact⟨hv,.inr hx⟩
   case round=>
    rintro l s ⟨i,b⟩ s' X Z To hIs ⟨e1,e2,hx,z,hz,hrz,hzb⟩ HN HR HE;dsimp only at e1 e2 hx hzb;subst e1;subst e2;obtain⟨h1,⟨R,Y,hDI,hRow,hBR,hBY⟩,hBt⟩:=hIs;obtain rfl:R=z:=RowIs.uniq hRow hrz (by rw[hDI.lr,HNR.out,hz]);subst hzb;have c7:=(hBt.boxed HD6.out.x7 M7.out).cell;have c8:=(hBt.boxed HD6.out.x8 M8.out).cell;have c9':=(hBt.boxed HD6.out.x9 M9.out).cell;have c10:=(hBt.boxed HX106.out (HML.out _ qO)).cell;have cq:=(hBt.boxed HXQ.out MQ.out).cell;have hQX:=hBt.row HQ6.out HMQ.out;have hTX:=hBt.tab HD6.out.tab HMT.out;have hmix: Tryz.prog.follows .mixedOrders=true:=qK;have HDI:=Lh hDI;have HROW:=Lh hRow;have HBR:=Lh hBR;have HBY:=Lh hBY;have HBT:=Lh hBt;have HQX:=Lh hQX;have HTX:=Lh hTX;clear hDI hRow hBR hBY hBt hQX hTX hrz;by_cases hlt:s'<m
    ·gi_wp2
     refine⟨trivial,?_⟩;gi_wp2
     exact HE.out 0 _ _ (bn qB) ⟨rfl,s'+1,qO,h1,⟨R,Y,HDI.out,HROW.out,HBR.out,HBY.out⟩,HBT.out⟩
    ·obtain⟨j,hj⟩:∃j,s'=m+j:=⟨s'-m,qO⟩;obtain⟨g,rfl⟩:∃g,o9=some ⟨g,0,none⟩:=by
      obtain⟨bb,off,e,_⟩:=HROW.out.cells (by have:=HDI.out.lr;have:=HNR.out;simp;omega);obtain⟨g',e2,_⟩:=HO9.out _ e;exact⟨g',by rw[e,e2]⟩
     have hBg:=HBR.out g rfl;have hml:m<(tr q).length:=by have:=HMM.out;omega
     obtain⟨bq,fq,rfl,_,hqc⟩:=HQX.out.cells (by simp;omega);have cqm:X.cell? ⟨bq,fq+m,none⟩=some (.int .u8 ((co (tr q) m).toNat:Int)):=hqc m _ (aB (tr q) m hml);have hqm:co (tr q) m≠0:=by
      have h5:=nQ q q.length;rw[<-cL,HMM.out]at h5;rw[eR];exact h5 qO
     have HBG:=Lh hBg;have HQM:=Lh hqm;clear hBg hqm hqc;have hwr:IntKind.i64.wrap ((s':Int)-(m:Int))=(j:Int):=by rw[IntKind.wrap_i64];omega
     have HJ:=Lh hj;clear hj;gi_wp2
     refine⟨trivial,?_⟩;gi_wp2
     refine Rg.uH (fun v=>v.cell? ⟨b7,0,none⟩=some (.pointer (some ⟨T,0,none⟩))/\v.cell? ⟨w.heap.size,0,none⟩=some (.slice (some ⟨bq,fq,none⟩) (tr q).length c2)/\v.cell? ⟨b8,0,none⟩=some (.int .i64 (m:Int))/\v.cell? ⟨bq,fq+m,none⟩=some (.int .u8 ((co (tr q) m).toNat:Int))) hmix qK (by rintro⟨a,w,h⟩;exact h) ?_;have hS0:∀n,(fun v:World=>v.cell? ⟨b7,0,none⟩=some (.pointer (some ⟨T,0,none⟩))/\v.cell? ⟨w.heap.size,0,none⟩=some (.slice (some ⟨bq,fq,none⟩) (tr q).length c2)/\v.cell? ⟨b8,0,none⟩=some (.int .i64 (m:Int))/\v.cell? ⟨bq,fq+m,none⟩=some (.int .u8 ((co (tr q) m).toNat:Int))) (X.drewN n):=fun n=>⟨c7,cq,c8,cqm⟩
     have hS1:=hS0 1;change _/\_ at hS1;refine wpAnyH_take (i:=0) (v:=.pointer (some ⟨T,0,none⟩)) rfl qK qK qK qI (Or.inl ⟨by rfl,fun w hS=>by obtain⟨s1,s2,s3,s4⟩:=hS;go_simp⟩) hS1 ?_;refine wpAnyH_take (i:=1) (v:=.int .u8 ((co R s').toNat:Int)) rfl qK qK qK qI (Or.inl ⟨by rfl,fun w hS=>by obtain⟨s1,s2,s3,s4⟩:=hS;go_simp⟩) hS1 ?_;refine wpAnyH_take (i:=2) (v:=.slice (some ⟨bq,fq,none⟩) (tr q).length c2) rfl qK qK qK qI (Or.inl ⟨by rfl,fun w hS=>by obtain⟨s1,s2,s3,s4⟩:=hS;go_simp⟩) hS1 ?_;refine wpAnyH_take (i:=3) (v:=.int .i64 (m:Int)) rfl qK qK qK qI (Or.inl ⟨by rfl,fun w hS=>by obtain⟨s1,s2,s3,s4⟩:=hS;go_simp⟩) hS1 ?_;refine wpAnyH_take (i:=4) (v:=.pointer (some ⟨bq,fq+m,none⟩)) rfl qK qK qK qI (Or.inl ⟨by rfl,fun w hS=>by obtain⟨s1,s2,s3,s4⟩:=hS;go_simp⟩) hS1 ?_;refine wpAnyH_take (i:=5) (v:=.int .u8 ((co (tr q) m).toNat:Int)) rfl qK qK qK qI (Or.inl ⟨by rfl,fun w hS=>by obtain⟨s1,s2,s3,s4⟩:=hS;go_simp⟩) hS1 ?_;refine wpAnyH_all (rs:=[6]) qK qS (fun i hi=>?_);obtain rfl:i=6:=by simpa using hi
     refine Rg.uI (R:=fun x v'=>x=.int .u8 ((Gf.gd (co R s') (co (tr q) m)).toNat:Int)/\∃n,v'=X.drewN n) (args:=#[.pointer (some ⟨T,0,none⟩),.int .u8 ((co R s').toNat:Int),.int .u8 ((co (tr q) m).toNat:Int)]) rfl rfl rfl (enters_of Tryz.func215 qK rfl) ?ha ?hc ?hk;case ha=>go_simp
     case hc=>
      refine(A2 (co R s').toNat (co (tr q) m).toNat (UInt8.toNat_lt _) (fun e=>HQM.out (Gf.bR e)) (UInt8.toNat_lt _) T C _ (HTX.out.later qB.drew)).mono ?_;rintro e v' ⟨rfl,n,rfl⟩;exact⟨_,rfl,by rw[Gf.yn],1+n,congrArg (fun k=>({X with drawn:=k}:World)) (Nat.add_assoc _ 1 n)⟩
     case hk=>
     rintro x v' ⟨rfl,n,rfl⟩;refine⟨hS0 n,?_⟩;have hS1:=hS0 n;change _/\_ at hS1;refine wpAnyH_take (i:=7) (v:=.int .u8 ((Gf.gd (co R s') (co (tr q) m)).toNat:Int)) rfl qK qK qK qI (Or.inl ⟨by rfl,fun w hS=>by obtain⟨s1,s2,s3,s4⟩:=hS;go_simp⟩) hS1 ?_;refine wpAnyH_done qK ?_ _;obtain⟨X1,hX1⟩:=qM (X.drewN n);have hb1:Below X.heap.size X X1:=by rw[<-hX1];exact⟨rfl,rfl,rfl,Nat.le_refl _,fun _ _=>rfl⟩
     obtain⟨by_,hby⟩:=qM (Gf.gd (co R s') (co (tr q) m));rw[hX1,hby];have hbt1:Bts (DvM g10 (some ⟨g,0,none⟩)) w6.heap.size w6 X1:=HBT.out.trans ⟨hb1.os,hb1.tape,hb1.output,hb1.size,fun k o _ ho _=>by rw[hb1.block k (aE.1 ho).1];exact ho⟩;have hbg1:=HBG.out.later hb1;have hby1:=HBY.out.later hb1;have hly:=HDI.out.ly;have hlr:=HDI.out.lr;rw[HNR.out]at hly hlr;have hjn:j<nR-m:=by have:=HJ.out;omega
     have hgg:g≠g10:=by
      obtain⟨g',e,_,hb⟩:=HO9.out _ rfl;cases e
      have:=hb.lt;have:=HG10.out;omega
     have hst:=hby1.store j by_;have hbg2:Buf (X1.setCell ⟨g10,j,none⟩ (.int .u8 (by_.toNat:Int))) g c9 R:=World.ownsRow.kept hbg1 hst.2 (.inr (by simp[Value.ownBlock];exact hgg));obtain⟨X2,hX2⟩:=qM (X1.setCell ⟨g10,j,none⟩ (.int .u8 (by_.toNat:Int)));rw[hX2]at hst hbg2;have hbt2:Bts (DvM g10 (some ⟨g,0,none⟩)) w6.heap.size w6 X2:=hbt1.trans (Bts.of_only hst.2 (.inl rfl));have d7:=(hbt2.boxed HD6.out.x7 M7.out).cell;have d8:=(hbt2.boxed HD6.out.x8 M8.out).cell;have d9:=(hbt2.boxed HD6.out.x9 M9.out).cell;have dq:=(hbt2.boxed HXQ.out MQ.out).cell;have e8:=(hbt1.boxed HD6.out.x8 M8.out).cell;have e10:=(hbt1.boxed HX106.out (HML.out _ qO)).cell;have ecell:=hby1.cell j qO;have efr:=hby1.frozen j;have hcal:=kr R (tr q) by_ j g c9 T C (some ⟨bq,fq,none⟩) c2 X2.drew (hbg2.later qB.drew) ((hbt2.row HQ6.out HMQ.out).later qB.drew) ((hbt2.tab HD6.out.tab HMT.out).later qB.drew) (fun e=>HMT.out (.inr ⟨_,rfl,e.symm⟩)) (fun h0 a ha e=>HMQ.out h0 a ha (.inr ⟨_,rfl,e.symm⟩)) (by have:=HJ.out;have:=HMM.out;omega) (nR-j) (c9-j) (by have:=HJ.out;have:=HMM.out;omega) (by have:=hbg2.le;omega) (by have:=hbg2.le;omega);have FIN:Hid (∀W3,Buf W3 g c9 (mix R j (tr q) by_)->Only g X2.drew W3->KeepsOthers X W3/\DvI p q m nR c9 g10 (some ⟨g,0,none⟩) w6 s' W3):=Lh fun W3 hb5 ho5=>by
      have ho:Only g X2 W3:=(Only.of_below qB.drew).trans ho5;refine⟨((bn hb1).trans (Only.keeps hst.2 hby1)).trans (ho.keeps hbg2),qO,⟨mix R j (tr q) by_,Y.set j by_,?_,hb5.row,?_,?_⟩,hbt2.trans (Bts.of_only ho (.inr ⟨_,rfl,rfl⟩))⟩
      ·have:=HDI.out.step qO (by rw[HNR.out];exact hx) HMM.out by_ (by rw[<-hby];exact Gf.sj _ _ HQM.out);rw[show s'-m=j by have:=HJ.out;omega]at this;have hl3:=hb5.le;exact this
      ·intro g' e;cases e
       exact hb5
      ·exact World.ownsRow.kept hst.1 ho (.inr (by simp[Value.ownBlock];exact fun e=>hgg e.symm))
     have HCAL:=Lh hcal;have hle9:=hbg2.le;unfold maxLen at hle9;have hjc:j<=c9:=qO;have hjc2:¬c9=j:=qO;have hjn2:¬nR<j:=qO;clear hcal hst hbg2 hbt2 hbt1 hbg1 hby1 hb1 c7 c8 c9' c10 cq cqm hS0 hS1;gi_wp2
     try rw[hX2]
     refine Rg.uH (fun v:World=>v.cell? ⟨b7,0,none⟩=some (.pointer (some ⟨T,0,none⟩))/\v.cell? ⟨w.heap.size,0,none⟩=some (.slice (some ⟨bq,fq,none⟩) (tr q).length c2)/\v.cell? ⟨b8,0,none⟩=some (.int .i64 (m:Int))/\v.cell? ⟨b9,0,none⟩=some (.slice (some ⟨g,0,none⟩) nR c9)) hmix qK (by rintro⟨a,w,h⟩;exact h) ?_;have hS0:(fun v:World=>v.cell? ⟨b7,0,none⟩=some (.pointer (some ⟨T,0,none⟩))/\v.cell? ⟨w.heap.size,0,none⟩=some (.slice (some ⟨bq,fq,none⟩) (tr q).length c2)/\v.cell? ⟨b8,0,none⟩=some (.int .i64 (m:Int))/\v.cell? ⟨b9,0,none⟩=some (.slice (some ⟨g,0,none⟩) nR c9)) X2.drew:=⟨d7,dq,d8,d9⟩;change _/\_ at hS0;refine wpAnyH_take (i:=0) (v:=.pointer (some ⟨T,0,none⟩)) rfl qK qK qK qI (Or.inl ⟨by rfl,fun w hS=>by obtain⟨s1,s2,s3,s4⟩:=hS;go_simp⟩) hS0 ?_;refine wpAnyH_take (i:=1) (v:=.slice (some ⟨g,0,none⟩) nR c9) rfl qK qK qK qI (Or.inl ⟨by rfl,fun w hS=>by obtain⟨s1,s2,s3,s4⟩:=hS;go_simp⟩) hS0 ?_;refine wpAnyH_take (i:=2) (v:=.int .i64 (s':Int)) rfl qK qK qK qI (Or.inl ⟨by rfl,fun w hS=>by obtain⟨s1,s2,s3,s4⟩:=hS;go_simp⟩) hS0 ?_;refine wpAnyH_take (i:=3) (v:=.int .i64 (m:Int)) rfl qK qK qK qI (Or.inl ⟨by rfl,fun w hS=>by obtain⟨s1,s2,s3,s4⟩:=hS;go_simp⟩) hS0 ?_;refine wpAnyH_take (i:=4) (v:=.int .i64 (j:Int)) rfl qK qK qK qI (Or.inl ⟨by rfl,fun w hS=>by obtain⟨s1,s2,s3,s4⟩:=hS;go_simp⟩) hS0 ?_;refine wpAnyH_take (i:=5) (v:=.slice (some ⟨g,j,none⟩) (nR-j) (c9-j)) rfl qK qK qK qI (Or.inl ⟨by rfl,fun w hS=>by obtain⟨s1,s2,s3,s4⟩:=hS;go_simp⟩) hS0 ?_;refine wpAnyH_take (i:=6) (v:=.slice (some ⟨bq,fq,none⟩) (tr q).length c2) rfl qK qK qK qI (Or.inl ⟨by rfl,fun w hS=>by obtain⟨s1,s2,s3,s4⟩:=hS;go_simp⟩) hS0 ?_;refine wpAnyH_take (i:=7) (v:=.int .u8 (by_.toNat:Int)) rfl qK qK qK qI (Or.inl ⟨by rfl,fun w hS=>by obtain⟨s1,s2,s3,s4⟩:=hS;go_simp⟩) hS0 ?_;refine wpAnyH_all (rs:=[8]) qK qS (fun i hi=>?_);obtain rfl:i=8:=by simpa using hi
     refine Rg.uI (R:=fun x W3=>Buf W3 g c9 (mix R j (tr q) by_)/\Only g X2.drew W3) (args:=#[.pointer (some ⟨T,0,none⟩),.slice (some ⟨g,j,none⟩) (nR-j) (c9-j),.slice (some ⟨bq,fq,none⟩) (tr q).length c2,.int .u8 (by_.toNat:Int)]) rfl rfl rfl (enters_of Tryz.func216 qK rfl) ?ha ?hc ?hk;case ha=>go_simp
     case hc=>
      refine HCAL.out.mono ?_;rintro e v' ⟨⟨v3,rfl⟩,hb5,ho5⟩;exact⟨v3,rfl,hb5,ho5⟩
     case hk=>
     rintro x W3 ⟨hb5,ho5⟩;obtain⟨k1,k2⟩:=FIN.out W3 hb5 ho5;refine⟨⟨(k2.bt.boxed HD6.out.x7 M7.out).cell,(k2.bt.boxed HXQ.out MQ.out).cell,(k2.bt.boxed HD6.out.x8 M8.out).cell,(k2.bt.boxed HD6.out.x9 M9.out).cell⟩,?_⟩;refine wpAnyH_done qK ?_ _;exact HN.out _ _ k1 k2
   case done=>
    rintro D s X hD rfl hIs hK;go_wp2_with fail;have HS:0<=m:=Nat.zero_le m;obtain⟨h1,⟨R,Y,hDI,hRow,hBR,hBY⟩,hBt⟩:=hIs;have hdv:=hDI.done HS HMM.out;have hlr:=hDI.lr;have hly:=hDI.ly;rw[HNR.out]at hlr hly;have c10:=(hBt.boxed HX106.out (HML.out _ qO)).cell;have c9':=(hBt.boxed HD6.out.x9 M9.out).cell;have hs6:=hBt.size;have hbX:Below w.heap.size w X:=HB6.out.trans (hBt.below (fun k hk=>Nat.le_trans hsw1 (HMLOW.out k hk)) qO qO);have hcut:=dl o9 R c9 X.drew (hRow.later qB.drew);rw[hlr]at hcut;have HCUT:=Lh hcut;have HDV:=Lh hdv;have HBX:=Lh hbX;have HBY:=Lh hBY;have HLY:=Lh hly;clear hcut hdv hbX hBY hDI hRow hBR hBt hlr hly;rename_i K9 hK9;refine Code.wp_mono (Q:=fun e b v=>e=.normal/\b.tmps.getD 4 undef=.slice (some ⟨g10,0,none⟩) (nR-m) (nR-m)/\b.tmps.getD 5 undef=.slice o9 (tr R).length c9/\b.tmps.getD 6 undef=.nilIface/\b.defers=[{target:=.collected D,args:=#[]}]/\Below X.heap.size X v/\RowIs v o9 (bytesV (tr R)) c9) ?out ?reg13
    case out=>
     rintro e ⟨tm,df⟩ w8 ⟨rfl,t4,t5,t6,rfl,hb8,hr8⟩;dsimp only at t4 t5 t6;have hK8:w8.heap[D]? =some (.deferred (some [])):=by rw[hb8.block D (aE.1 hK).1];exact hK
     have HR8:=Lh hr8;have HB8:=Lh (HBX.out.trans (hb8.mono HBX.out.size));have HY8:=Lh (HBY.out.later hb8);show K9 _ _;refine hK9 _ _ ?_;refine vZ hK8 (results_tmp3 rfl _ _ _) ?_;rw[t4,t5,t6];refine⟨Y,tr R,_,_,HDV.out,by have:=HLY.out;have:=HNR.out;omega,rfl,⟨_,_,by rw[HLY.out],?_⟩,⟨_,_,rfl,?_⟩,HB8.out.trans (belowK_b (w:=w) qN w8 D _ _ qO hK8 rfl rfl)⟩
     ·exact HY8.out.row.nc (Rf.NC.put (B:=0) _ (Nat.zero_le _) hK8 rfl)
     ·exact HR8.out.nc (Rf.NC.put (B:=0) _ (Nat.zero_le _) hK8 rfl)
    clear hK9;refine wp_region_held (S:=fun v:World=>v.cell? ⟨b10,0,none⟩=some (.slice (some ⟨g10,0,none⟩) (nR-m) (nR-m))/\v.cell? ⟨b9,0,none⟩=some (.slice o9 nR c9)) qK ?_;change wpAnyH _ _ _ _ _ _ _ _ (World.drew X);have hS0:(fun v:World=>v.cell? ⟨b10,0,none⟩=some (.slice (some ⟨g10,0,none⟩) (nR-m) (nR-m))/\v.cell? ⟨b9,0,none⟩=some (.slice o9 nR c9)) X.drew:=⟨c10,c9'⟩;change _/\_ at hS0;refine wpAnyH_take (i:=0) (v:=.slice (some ⟨g10,0,none⟩) (nR-m) (nR-m)) rfl qK qK qK (fun _ _ _ h=>by cases h.1) (Or.inl ⟨by rfl,fun w hS=>by obtain⟨s1,s2⟩:=hS;go_simp⟩) hS0 ?_;refine wpAnyH_take (i:=1) (v:=.slice o9 nR c9) rfl qK qK qK (fun _ _ _ h=>by cases h.1) (Or.inl ⟨by rfl,fun w hS=>by obtain⟨s1,s2⟩:=hS;go_simp⟩) hS0 ?_;refine wpAnyH_all (rs:=[2]) qK qS (fun i hi=>?_);obtain rfl:i=2:=by simpa using hi
    refine Rg.uI (R:=fun x v'=>x=.slice o9 (tr R).length c9/\Below X.heap.size X v'/\RowIs v' o9 (bytesV (tr R)) c9) (args:=#[.slice o9 nR c9]) rfl rfl rfl (enters_of Tryz.func214 qK rfl) ?ha ?hc ?hk;case ha=>go_simp
    case hc=>
     refine HCUT.out.mono ?_;rintro e v' ⟨rfl,hb,hr⟩;exact⟨_,rfl,rfl,(show Below X.heap.size X v' from (Below.refl X.heap.size X).drew.trans hb),hr⟩
    case hk=>
    rintro x w8 ⟨rfl,hb8,hr8⟩;have hS8:w8.cell? ⟨b10,0,none⟩=some (.slice (some ⟨g10,0,none⟩) (nR-m) (nR-m))/\w8.cell? ⟨b9,0,none⟩=some (.slice o9 nR c9):=by
     refine⟨?_,?_⟩
     ·exact(World.cell?_of_block (hb8.block _ (by dsimp only;omega))).trans c10
     ·exact(World.cell?_of_block (hb8.block _ (by dsimp only;have:=HD6.out.x9.lt;omega))).trans c9'
    refine⟨hS8,?_⟩;refine wpAnyH_take (i:=3) (v:=.slice (some ⟨g10,0,none⟩) (nR-m) (nR-m)) rfl qK qK qK (fun _ _ _ h=>by cases h.1) (Or.inl ⟨by rfl,fun w hS=>by go_simp⟩) hS8 ?_;refine wpAnyH_take (i:=4) (v:=.slice o9 (tr R).length c9) rfl qK qK qK (fun _ _ _ h=>by cases h.1) (Or.inl ⟨by rfl,fun w hS=>by go_simp⟩) hS8 ?_;refine wpAnyH_take (i:=5) (v:=.nilIface) rfl qK qK qK (fun _ _ _ h=>by cases h.1) (Or.inl ⟨by rfl,fun w hS=>by go_simp⟩) hS8 ?_;refine wpAnyH_done qK ?_ _;exact⟨rfl,rfl,rfl,rfl,rfl,hb8,hr8⟩
   case stop=>
    rintro D c X hD ⟨rfl,s,HS,hIs⟩ hK;go_wp2_with fail;obtain⟨h1,⟨R,Y,hDI,hRow,hBR,hBY⟩,hBt⟩:=hIs;have hdv:=hDI.done HS HMM.out;have hlr:=hDI.lr;have hly:=hDI.ly;rw[HNR.out]at hlr hly;have c10:=(hBt.boxed HX106.out (HML.out _ qO)).cell;have c9':=(hBt.boxed HD6.out.x9 M9.out).cell;have hs6:=hBt.size;have hbX:Below w.heap.size w X:=HB6.out.trans (hBt.below (fun k hk=>Nat.le_trans hsw1 (HMLOW.out k hk)) qO qO);have hcut:=dl o9 R c9 X.drew (hRow.later qB.drew);rw[hlr]at hcut;have HCUT:=Lh hcut;have HDV:=Lh hdv;have HBX:=Lh hbX;have HBY:=Lh hBY;have HLY:=Lh hly;clear hcut hdv hbX hBY hDI hRow hBR hBt hlr hly;rename_i K9 hK9;refine Code.wp_mono (Q:=fun e b v=>e=.normal/\b.tmps.getD 4 undef=.slice (some ⟨g10,0,none⟩) (nR-m) (nR-m)/\b.tmps.getD 5 undef=.slice o9 (tr R).length c9/\b.tmps.getD 6 undef=.nilIface/\b.defers=[{target:=.collected D,args:=#[]}]/\Below X.heap.size X v/\RowIs v o9 (bytesV (tr R)) c9) ?out2 ?reg14
    case out2=>
     rintro e ⟨tm,df⟩ w8 ⟨rfl,t4,t5,t6,rfl,hb8,hr8⟩;dsimp only at t4 t5 t6;have hK8:w8.heap[D]? =some (.deferred (some [])):=by rw[hb8.block D (aE.1 hK).1];exact hK
     have HR8:=Lh hr8;have HB8:=Lh (HBX.out.trans (hb8.mono HBX.out.size));have HY8:=Lh (HBY.out.later hb8);show K9 _ _;refine hK9 _ _ ?_;refine vZ hK8 (results_tmp3 rfl _ _ _) ?_;rw[t4,t5,t6];refine⟨Y,tr R,_,_,HDV.out,by have:=HLY.out;have:=HNR.out;omega,rfl,⟨_,_,by rw[HLY.out],?_⟩,⟨_,_,rfl,?_⟩,HB8.out.trans (belowK_b (w:=w) qN w8 D _ _ qO hK8 rfl rfl)⟩
     ·exact HY8.out.row.nc (Rf.NC.put (B:=0) _ (Nat.zero_le _) hK8 rfl)
     ·exact HR8.out.nc (Rf.NC.put (B:=0) _ (Nat.zero_le _) hK8 rfl)
    clear hK9;refine wp_region_held (S:=fun v:World=>v.cell? ⟨b10,0,none⟩=some (.slice (some ⟨g10,0,none⟩) (nR-m) (nR-m))/\v.cell? ⟨b9,0,none⟩=some (.slice o9 nR c9)) qK ?_;change wpAnyH _ _ _ _ _ _ _ _ (World.drew X);have hS0:(fun v:World=>v.cell? ⟨b10,0,none⟩=some (.slice (some ⟨g10,0,none⟩) (nR-m) (nR-m))/\v.cell? ⟨b9,0,none⟩=some (.slice o9 nR c9)) X.drew:=⟨c10,c9'⟩;change _/\_ at hS0;refine wpAnyH_take (i:=0) (v:=.slice (some ⟨g10,0,none⟩) (nR-m) (nR-m)) rfl qK qK qK (fun _ _ _ h=>by cases h.1) (Or.inl ⟨by rfl,fun w hS=>by obtain⟨s1,s2⟩:=hS;go_simp⟩) hS0 ?_;refine wpAnyH_take (i:=1) (v:=.slice o9 nR c9) rfl qK qK qK (fun _ _ _ h=>by cases h.1) (Or.inl ⟨by rfl,fun w hS=>by obtain⟨s1,s2⟩:=hS;go_simp⟩) hS0 ?_;refine wpAnyH_all (rs:=[2]) qK qS (fun i hi=>?_);obtain rfl:i=2:=by simpa using hi
    refine Rg.uI (R:=fun x v'=>x=.slice o9 (tr R).length c9/\Below X.heap.size X v'/\RowIs v' o9 (bytesV (tr R)) c9) (args:=#[.slice o9 nR c9]) rfl rfl rfl (enters_of Tryz.func214 qK rfl) ?ha ?hc ?hk;case ha=>go_simp
    case hc=>
     refine HCUT.out.mono ?_;rintro e v' ⟨rfl,hb,hr⟩;exact⟨_,rfl,rfl,(show Below X.heap.size X v' from (Below.refl X.heap.size X).drew.trans hb),hr⟩
    case hk=>
    rintro x w8 ⟨rfl,hb8,hr8⟩;have hS8:w8.cell? ⟨b10,0,none⟩=some (.slice (some ⟨g10,0,none⟩) (nR-m) (nR-m))/\w8.cell? ⟨b9,0,none⟩=some (.slice o9 nR c9):=by
     refine⟨?_,?_⟩
     ·exact(World.cell?_of_block (hb8.block _ (by dsimp only;omega))).trans c10
     ·exact(World.cell?_of_block (hb8.block _ (by dsimp only;have:=HD6.out.x9.lt;omega))).trans c9'
    refine⟨hS8,?_⟩;refine wpAnyH_take (i:=3) (v:=.slice (some ⟨g10,0,none⟩) (nR-m) (nR-m)) rfl qK qK qK (fun _ _ _ h=>by cases h.1) (Or.inl ⟨by rfl,fun w hS=>by go_simp⟩) hS8 ?_;refine wpAnyH_take (i:=4) (v:=.slice o9 (tr R).length c9) rfl qK qK qK (fun _ _ _ h=>by cases h.1) (Or.inl ⟨by rfl,fun w hS=>by go_simp⟩) hS8 ?_;refine wpAnyH_take (i:=5) (v:=.nilIface) rfl qK qK qK (fun _ _ _ h=>by cases h.1) (Or.inl ⟨by rfl,fun w hS=>by go_simp⟩) hS8 ?_;refine wpAnyH_done qK ?_ _;exact⟨rfl,rfl,rfl,rfl,rfl,hb8,hr8⟩
end
