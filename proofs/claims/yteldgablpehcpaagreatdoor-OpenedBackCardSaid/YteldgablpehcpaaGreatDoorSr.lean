/- Sr -/
import Derived.Test.YteldgablpehcpaaGreatDoorLy
set_option linter.unusedVariables false
set_option linter.unusedSimpArgs false
set_option maxRecDepth 100000
set_option maxHeartbeats 8000000
namespace Go.Proofs.YteldgablpehcpaaGreatDoor
open Go.RowKit
namespace Rg
theorem xg{P:Program}{ops:Array Oper}{id:Nat}{Q:Exit->Act->World->Prop}{a:Act}{w:World}(hm:P.follows .mixedOrders=true)(E:Nat->Bool)(G:Nat->Value->World->Prop)(hok:AE ops a.tmps.size E (fun _=>false)=true)
  (hkeep:∀i x v v',G i x v->Below v.heap.size v v'->G i x v')
  (hstep:∀(i:Nat)(o:Oper)(b:Act)(v:World),E i=true->ops[i]? =some o->Below w.heap.size w v->(∀s,(∀(i:Nat)(o:Oper),E i=true->ops[i]? =some o->o.dst≠some s)->b.tmps.getD s undef=a.tmps.getD s undef)->
   (∀e∈o.after,Region.binds .any e=true->E e.on=true->∀(o':Oper)(d:Tmp),ops[e.on]? =some o'->o'.dst=some d->G e.on (b.tmps.getD d undef) v)->Does P G Q i o b v)
  (hend:∀b v,Below w.heap.size w v->b.tmps.size=a.tmps.size->b.defers=a.defers->(∀s,(∀(i:Nat)(o:Oper),E i=true->ops[i]? =some o->o.dst≠some s)->b.tmps.getD s undef=a.tmps.getD s undef)->
   (∀(i:Nat)(o:Oper)(d:Tmp),E i=true->ops[i]? =some o->o.dst=some d->G i (b.tmps.getD d undef) v)->wpAnyH P .any ops Q (fun _=>True) (left (tail ops.size E (fun _=>false))) (tail ops.size E (fun _=>false)) b v):
  (Code.region id ops true).wp P Q a w:=by
 have hb0:Below w.heap.size w w.drew:=qB.drew;refine wp_region_any hm (wpAny_of_held _ _ _ _ (Ky (S:=fun _=>True) (a:=a) (w:=w.drew) (G:=G) (N:=a.tmps.size) hok (fun _ _=>trivial) hkeep
  (fun i o b v hE ho hb hr hd=>hstep i o b v hE ho (hb0.trans hb) hr hd) (fun b v hb hs hd hr hg=>hend b v (hb0.trans hb) hs hd hr hg) _ _ _ _ ?_ ⟨Below.refl _ _,rfl,rfl,fun _ _=>rfl,?_,qS,?_,?_⟩))
 ·unfold left;simp
 ·intro i o d _ ho _ hl;have hi:=(aE.1 ho).1;simp[Array.getD_eq_getD_getElem?,hi]at hl
 ·intro i _ hi;simp[Array.getD_eq_getD_getElem?,hi]
 ·intro i h;cases h
theorem rI{P:Program}{ops:Array Oper}{Q:Exit->Act->World->Prop}{i g:Nat}{o:Oper}{ty t:TypeId}{x y:Operand}{cells old:Array Value}{b:Act}{v:World}{K:Act->World->Prop}(ho:ops[i]? =some o)(hg:o.guard=none)
  (hop:o.op=.store ty x y) (hx:b.eval x=.pointer (some ⟨g,0,none⟩)) (hy:b.eval y=.agg cells) (hh:v.heap[g]? =some (.cells old t (0,0))) (hi:(P.info? ty).map (·.size)=some cells.size) (hold:old.size=cells.size) (h1:cells.all (·.oneCell')=true)
  (h:K (b.put o.dst undef) (v.setRow g cells)):wpOp P ops Q i K b v:=by
 unfold wpOp;rw[ho];dsimp only;rw[if_pos (by simp[Region.wanted,hg])];exact .inl (wp_store_row ty x y hop g cells hx hy t old hh hi hold h1 h)
theorem Mi(a:Array Value)(n:Nat)(h:a.size=n):a=((List.range n).map fun i=>a.getD i undef).toArray:=by
 subst h;apply Array.ext
 ·simp
 ·intro i h1 h2;simp[Array.getD_eq_getD_getElem?,h1]
end Rg
namespace Da
def sb(k:BL)(n:Int):BL:=(eX k (bQ n)).take 8
def nbe(l:BL):Nat:=l.foldl (fun s b=>s*256+b.toNat) 0
theorem dH(k:BL)(n:Int):(sb k n).length=8:=by simp[sb,ay]
theorem Mj(l:BL):nbe (l.take 0)=0:=rfl
theorem ni(l:BL)(j:Nat)(hj:j<l.length):nbe (l.take (j+1))=nbe (l.take j)*256+(l.getD j 0).toNat:=by
 unfold nbe;rw[List.take_add_one,List.getElem?_eq_getElem hj,List.foldl_append];simp[hj]
end Da
theorem Ii(p:Nat): Tryz.prog.built 221 [(0,.pointer (some ⟨p,0,none⟩))]=some #[.pointer (some ⟨p,0,none⟩)]:=qK
theorem iH(p:Nat):(#[.pointer (some ⟨p,0,none⟩)]:Array Value).all (·.oneCell')=true:=all_oneCell_toArray (cs:=[.pointer (some ⟨p,0,none⟩)]) (fun u hu=>by rw[List.mem_singleton]at hu;subst hu;rfl)
theorem dL:(Tryz.prog.info? 221).map (·.size)=some 1:=qK
theorem lT(k:BL)(o:Option Addr)(c:Nat)(w:World)(hR:RowIs w o (bytesV k) c)(hV:Cds w)(hl:k.length<=900000):
  Calls Tryz.prog 128 #[.slice o k.length c] w fun e w'=>∃p,e=.returned (.agg #[.pointer (some ⟨p,0,none⟩)])/\Arr w' p 179 (bytesV (Da.fil k))/\Below w.heap.size w w':=by
 obtain⟨g,hg⟩:=qM w.heap.size;obtain⟨W1,hW1⟩:=qM (w.alloc (.cells #[.pointer none] 221));have hb1:Below w.heap.size w W1:=by rw[<-hW1];exact qB.alloc qN _
 have hA1:Arr W1 g 221 [.pointer none]:=by rw[<-hW1,<-hg];exact Arr.made _ _ _
 have KM:=Lh (gV k o c W1 (hR.later hb1) (hV.later hb1) hl);have HA1:=Lh hA1;have HB1:=Lh hb1;have HG:=Lh hg;have HW1:=Lh hW1;clear hR hV hb1 hA1 hg hW1;go_enter Tryz.func128,Tryz.ntmps128
 go_wp2_with (first|rw[HW1.out])
 refine KM.out.mono ?_;rintro e W2 ⟨rfl,hk,hb2⟩;obtain⟨p,hp⟩:=qM W1.heap.size;rw[hp]at hk⊢;have hA2:=HA1.out.later hb2 HA1.out.lt;obtain⟨W3,hW3⟩:=qM (W2.setRow g #[.pointer (some ⟨p,0,none⟩)]);have hA3:Arr W3 g 221 [.pointer (some ⟨p,0,none⟩)]:=by rw[<-hW3];exact setRow_heap _ _ _ _ _ _ hA2
 have hgp:p≠g:=by have:=HA1.out.lt;omega
 have hk3:Arr W3 p 179 (bytesV (Da.fil k)):=by rw[<-hW3];unfold Arr;rw[setRow_other _ _ _ _ hgp];exact hk
 have hB3:Below w.heap.size w W3:=by rw[<-hW3];exact(Ks HB1.out hb2).trans (aA (by rw[HG.out];exact Nat.le_refl _))
 have HA2:Hid (W2.heap[g]? =some (.cells #[.pointer none] 221 (0,0))):=Lh hA2;have HA3:Hid (W3.heap[g]? =some (.cells #[.pointer (some ⟨p,0,none⟩)] 221 (0,0))):=Lh hA3;have HK3:=Lh hk3;have HB3:=Lh hB3;have HW3:=Lh hW3;clear hk hb2 hp hA2 hA3 hW3 hgp hk3 hB3;go_wp2_with (first|rw[HG.out]|refine bN rfl 221 _ rfl [(0,.pointer (some ⟨p,0,none⟩))] (by simp;rfl) _ (Ii p) ?_|refine wpList_store_row rfl 221 (.tmp 2) (.tmp 5) rfl g #[.pointer (some ⟨p,0,none⟩)] rfl rfl 221 _ HA2.out dL rfl (iH p) ?_|rw[HW3.out])
 refine bodyPost_ret (results_cell_row rfl _ _ g 221 #[.pointer (some ⟨p,0,none⟩)] (0,0) _ rfl HA3.out Tryz.underlying221 rfl dL) rfl ?_;exact⟨p,rfl,HK3.out,by have h:=HB3.out;rwa[HG.out]at h⟩
def SbG(k:BL)(n:Int)(b p:Nat)(Z:Array Value)(base:Nat)(i:Nat)(x:Value)(v:World):Prop:=
 match i with
 |0=>x=.pointer (some ⟨b,0,none⟩)
 |1=>x=.pointer (some ⟨p,0,none⟩)
 |2=>x=.int .i64 n
 |3=>RowV (Da.bQ n) x v
 |4=>RbV [Da.bQ n] x v
 |5=>x=.agg (bytesV (Da.eX k (Da.bQ n))).toArray
 |6=>∃g,x=.pointer (some ⟨g,0,none⟩)/\base<=g/\v.heap[g]? =some (.cells Z 44 (0,0))
 |_=>True
theorem SbG.later{k:BL}{n:Int}{b p:Nat}{Z:Array Value}{base:Nat}(i:Nat)(x:Value)(v v':World)(h:SbG k n b p Z base i x v)(hb:Below v.heap.size v v'):SbG k n b p Z base i x v':=by
 unfold SbG at*;split at h
 ·exact h
 ·exact h
 ·exact h
 ·exact h.later hb
 ·exact h.later hb
 ·exact h
 ·obtain⟨g,e,hg,hh⟩:=h;exact⟨g,e,hg,by rw[hb.block _ (aE.1 hh).1];exact hh⟩
 ·trivial
theorem t7{v:World}{x:Value}{n:Int}(hx:x=.int .i64 n):Calls Tryz.prog 91 #[x] v fun e w'=>∃r,e=.returned r/\RowV (Da.bQ n) r w'/\Below v.heap.size v w':=by
 subst hx;refine(Az n v).mono ?_;rintro e w' ⟨rfl,hA,hb⟩;have hr:=hA.row (by rw[Da.a8];unfold maxLen;decide);exact⟨_,rfl,⟨_,8,by rw[Da.a8],by rw[Da.a8]at hr;exact hr⟩,hb⟩
theorem G3{v:World}{x y:Value}{k:BL}{bs:L8}{p:Nat}(hA:Arr v p 179 (bytesV (Da.fil k)))(hx:x=.pointer (some ⟨p,0,none⟩))(hy:RbV bs y v)(hV:Cds v)(hl:bs.flatten.length<=800000)(hn:bs.length<=1000000):
  Calls Tryz.prog 95 #[x,y] v fun e w'=>∃r,e=.returned r/\r=.agg (bytesV (Da.eX k bs.flatten)).toArray/\Below v.heap.size v w':=by
 subst hx;obtain⟨o,c,rfl,hR⟩:=hy;refine(qy k p bs o c v hA hR hV hl hn).mono ?_;rintro e w' ⟨rfl,hb⟩;exact⟨_,rfl,rfl,hb⟩
theorem Qe(Z:Array Value)(hZ:Z=(bytesV (List.replicate 32 0)).toArray)(hzs:∀w,Sem.run Tryz.prog (zeroValue 44) w=.ok (.agg Z) w)(k:BL)(n:Int)(p:Nat)(w:World)(hA:Arr w p 179 (bytesV (Da.fil k)))(hV:Cds w):
  Calls Tryz.prog 130 #[.agg #[.pointer (some ⟨p,0,none⟩)],.int .i64 n] w fun e w'=>∃g,e=.returned (.slice (some ⟨g,0,none⟩) 8 8)/\w.heap.size<=g/\RowIs w' (some ⟨g,0,none⟩) (bytesV (Da.sb k n)) 8/\Below w.heap.size w w':=by
 have hmf:= @makes Tryz.prog;obtain⟨b,hbe⟩:=qM w.heap.size;obtain⟨W1,hW1⟩:=qM (w.alloc (.cells #[.pointer (some ⟨p,0,none⟩)] 221));have hb1:Below w.heap.size w W1:=by rw[<-hW1];exact qB.alloc qN _
 have hA1:Arr W1 b 221 [.pointer (some ⟨p,0,none⟩)]:=by rw[<-hW1,<-hbe];exact Arr.made _ _ _
 have HA1:=Lh hA1;have HB1:=Lh hb1;have HE:=Lh hbe;have HW1:=Lh hW1;have HA:=Lh (hA.later hb1 hA.lt);have HV:=Lh (hV.later hb1);clear hb1 hA1 hbe hW1 hA hV;go_enter Tryz.func130,Tryz.ntmps130
 go_wp2_with (first|rw[HW1.out,HE.out])
 refine Code.wp_mono (Q:=fun e b' v=>e=.normal/\∃(g:Nat)(f:Nat->Value),w.heap.size<=g/\Below W1.heap.size W1 v/\Arr v g 44 (bytesV (Da.eX k (Da.bQ n)))/\b'={tmps:=#[.agg #[.pointer (some ⟨p,0,none⟩)],.int .i64 n,.pointer (some ⟨b,0,none⟩),f 3,.slice none 0 0,.pointer (some ⟨g,0,none⟩),f 6,f 7,f 8,f 9,f 10,f 11,f 12],defers:=[]}) ?rest ?reg
 case reg=>
  refine Rg.xg qK (fun i=>decide (i<7)) (SbG k n b p Z W1.heap.size) qK SbG.later ?step ?fin
  case step=>
   intro i op b' v hE ho hb hrest hdep;have hi:=(aE.1 ho).1;have r2:b'.eval (.tmp 2)=.pointer (some ⟨b,0,none⟩):=hrest 2 (Rg.bH qK);have r1:b'.eval (.tmp 1)=.int .i64 n:=hrest 1 (Rg.bH qK)
   match i,hi with
   |0,_=>
    obtain rfl:=Option.some.inj ho;refine Rg.aJ (.pointer (some ⟨b,0,none⟩)) ?_ rfl;have f1:b'.tmps[2]?.getD undef=_:=(show _=b'.eval (.tmp 2) by simp[Act.eval]).trans r2;simp only[execOp];go_simp
   |1,_=>
    obtain rfl:=Option.some.inj ho;have d1:b'.eval (.tmp 6)=.pointer (some ⟨b,0,none⟩):=hdep ⟨0,.data⟩ qS rfl rfl _ _ rfl rfl;have f1:b'.tmps[6]?.getD undef=_:=(show _=b'.eval (.tmp 6) by simp[Act.eval]).trans d1;have hc:v.cell? ⟨b,0,none⟩=some (.pointer (some ⟨p,0,none⟩)):=(HA1.out.later hb HA1.out.lt).cell 0;refine Rg.aJ (.pointer (some ⟨p,0,none⟩)) ?_ rfl;simp only[execOp];go_simp
   |2,_=>
    obtain rfl:=Option.some.inj ho;exact Rg.aP rfl r1
   |3,_=>
    obtain rfl:=Option.some.inj ho;have d1:b'.eval (.tmp 8)=.int .i64 n:=hdep ⟨2,.data⟩ qS rfl rfl _ _ rfl rfl;exact Rg.eI rfl (enters_of Tryz.func91 qK rfl) (args:=#[b'.eval (.tmp 8)]) qS (t7 d1)
   |4,_=>
    obtain rfl:=Option.some.inj ho;have d1:RowV (Da.bQ n) (b'.eval (.tmp 9)) v:=hdep ⟨3,.data⟩ qS rfl rfl _ _ rfl rfl;have f1:b'.tmps[9]?.getD undef=b'.eval (.tmp 9):=by simp[Act.eval]
    generalize b'.eval (.tmp 9)=x1 at d1 f1;obtain⟨o1,c1,rfl,hr1⟩:=d1;have hrun:RbV [Da.bQ n] (.slice (some ⟨v.heap.size,0,none⟩) 1 1) (v.alloc (.cells #[.slice o1 (Da.bQ n).length c1] 22)):=⟨_,1,rfl,jo hr1⟩;refine Rg.gt (v':=v.alloc (.cells #[.slice o1 (Da.bQ n).length c1] 22)) (.slice (some ⟨v.heap.size,0,none⟩) 1 1) ?_ hrun (qB.alloc qN _);simp only[execOp];go_simp
   |5,_=>
    obtain rfl:=Option.some.inj ho;have d1:b'.eval (.tmp 7)=.pointer (some ⟨p,0,none⟩):=hdep ⟨1,.data⟩ qS rfl rfl _ _ rfl rfl;have d2:RbV [Da.bQ n] (b'.eval (.tmp 10)) v:=hdep ⟨4,.data⟩ qS rfl rfl _ _ rfl rfl;have hk:=G3 (HA.out.later hb HA.out.lt) d1 d2 (HV.out.later hb) (by simp[Da.a8]) qS;rw[show[Da.bQ n].flatten=Da.bQ n by simp]at hk;exact Rg.eI rfl (enters_of Tryz.func95 qK rfl) (args:=#[b'.eval (.tmp 7),b'.eval (.tmp 10)]) qS hk
   |6,_=>
    obtain rfl:=Option.some.inj ho;refine Rg.gt (v':=v.alloc (.cells Z 44)) (.pointer (some ⟨v.heap.size,0,none⟩)) ?_ ⟨_,rfl,hb.size,World.alloc_heap_new _ _⟩ (qB.alloc qN _);simp only[execOp];go_simp
   |7,_=>exact absurd hE qD
   |m+8,h=>exact absurd h qS
  case fin=>
   intro b' v hb hs hd hrest hall;have r0:b'.tmps.getD 0 undef=.agg #[.pointer (some ⟨p,0,none⟩)]:=hrest 0 (Rg.bH qK);have r1:b'.tmps.getD 1 undef=.int .i64 n:=hrest 1 (Rg.bH qK);have r2:b'.tmps.getD 2 undef=.pointer (some ⟨b,0,none⟩):=hrest 2 (Rg.bH qK);have r4:b'.tmps.getD 4 undef=.slice none 0 0:=hrest 4 (Rg.bH qK);obtain⟨g,e5,hg,hh⟩:=hall 6 _ 5 rfl rfl rfl;have e11:b'.tmps.getD 11 undef=.agg (bytesV (Da.eX k (Da.bQ n))).toArray:=hall 5 _ 11 rfl rfl rfl;change wpAnyH _ _ _ _ _ 1 _ _ _;refine wpAnyH_all (rs:=[7]) qK qS (fun i hi=>?_);obtain rfl:i=7:=by simpa using hi
   refine Rg.rI (g:=g) rfl rfl rfl e5 e11 hh (by rw[bJ];simp[Da.ay]) (by rw[hZ];simp[Da.ay]) (all_oneCell_toArray (aG _)) ⟨trivial,?_⟩;refine wpAnyH_done qK ?_ _;refine⟨rfl,g,fun i=>b'.tmps.getD i undef,Nat.le_trans HB1.out.size hg,hb.trans (aA hg),setRow_heap _ _ _ _ _ _ hh,?_⟩;have e:=Rg.Mi b'.tmps 13 hs;obtain⟨tm,df⟩:=b';obtain rfl:df=[]:=hd;dsimp only at r0 r1 r2 r4 e5 e⊢;show({tmps:=tm,defers:=[]}:Act)=_;congr 1
   refine e.trans ?_;rw[<-r0,<-r1,<-r2,<-r4,<-e5];rfl
 case rest=>
  rintro e a' W2 ⟨rfl,g,f,hg,hb2,hd,rfl⟩;rename_i K0 hK0;show K0 _ _;refine hK0 _ _ ?_;clear hK0 K0;have hr:RowIs W2 (some ⟨g,0,none⟩) (bytesV (Da.sb k n)) 8:=by
   have h32:=hd.row (by rw[Da.ay];unfold maxLen;decide);have:=h32.part 0 8 (by simp[Da.ay]) 8 qN (by unfold maxLen;decide);simpa[bytesV,Da.sb,List.map_take]using this
  have HR:=Lh hr;have HB2:=Lh (Ks HB1.out hb2);have HGL:=Lh hg;clear hr hb2 hd hg;go_wp2_with fail;go_ret;exact⟨g,rfl,HGL.out,HR.out,HB2.out⟩
theorem vL(k:BL)(n:Int)(p:Nat)(w:World)(hA:Arr w p 179 (bytesV (Da.fil k)))(hV:Cds w):
  Calls Tryz.prog 130 #[.agg #[.pointer (some ⟨p,0,none⟩)],.int .i64 n] w fun e w'=>∃g,e=.returned (.slice (some ⟨g,0,none⟩) 8 8)/\w.heap.size<=g/\RowIs w' (some ⟨g,0,none⟩) (bytesV (Da.sb k n)) 8/\Below w.heap.size w w':=
 Qe _ rfl dg_zero k n p w hA hV
theorem vM(n:Int)(w:World):Calls Tryz.prog 132 #[.int .i64 n] w fun e w'=>e=.returned (.bool (Da.inR n))/\w'=w:=by
 by_cases h1:0<=n
 ·have hd1:decide (n>=0)=true:=by simp;omega
  by_cases h2:n<=1099511627776
  ·have hd2:decide (n<=1099511627776)=true:=by simp;omega
   have hr:Da.inR n=true:=by simp[Da.inR,h1,h2]
   rw[hr];go_enter Tryz.func132,Tryz.ntmps132
   go_wp2_with fail;go_ret;exact⟨rfl,rfl⟩
  ·have hd2:decide (n<=1099511627776)=false:=by simp;omega
   have hr:Da.inR n=false:=by simp[Da.inR,h2]
   rw[hr];go_enter Tryz.func132,Tryz.ntmps132
   go_wp2_with fail;go_ret;exact⟨rfl,rfl⟩
 ·have hd1:decide (n>=0)=false:=by simp;omega
  have hr:Da.inR n=false:=by simp[Da.inR,h1]
  rw[hr];go_enter Tryz.func132,Tryz.ntmps132
  go_wp2_with fail;go_ret;exact⟨rfl,rfl⟩
theorem Mk(p q:Nat)(hq:q<256):p*256|||q=p*256+q:=by
 have:=Nat.shiftLeft_add_eq_or_of_lt (i:=8) (b:=q) qO p;rw[Nat.shiftLeft_eq]at this;exact this.symm
namespace Da
def rb(n:Int):Nat:=if inR n then 0 else 1
def mb(b:BL)(n:Int):Nat:=if b.length=8 then rb n else 8
theorem yx{n:Int}(h:rb n=0):0<=n/\n<=1099511627776:=by
 unfold rb inR at h;split at h
 ·rename_i h1;simpa using h1
 ·cases h
theorem t8{b:BL}{n:Int}(h:mb b n=0):b.length=8/\rb n=0:=by
 unfold mb at h;split at h
 ·exact⟨by assumption,h⟩
 ·cases h
end Da
namespace Er
structure E10(W:World)(A:Nat->Addr):Prop where
 c0:W.cell? ⟨2,0,none⟩=some (.iface 302 (.pointer (some (A 0))))
 c7:W.cell? ⟨7,0,none⟩=some (.iface 302 (.pointer (some (A 7))))
theorem E10.later{W W':World}{A:Nat->Addr}(h:E10 W A)(hb:Below W.heap.size W W'):E10 W' A:=⟨cell_later h.c0 hb,cell_later h.c7 hb⟩
end Er
theorem BG(k:BL)(o:Option Addr)(c:Nat)(n:Int)(A:Nat->Addr)(w:World)(hR:RowIs w o (bytesV k) c)(hV:Cds w)(hE:Er.E10 w A)(hl:k.length<=900000):
  Calls Tryz.prog 84 #[.slice o k.length c,.int .i64 n] w fun e w'=>∃x,e=.returned (.tuple #[x,eD A (Da.rb n)])/\RowV (Da.pv (Da.rb n) (Da.sb k n)) x w'/\Below w.heap.size w w'/\(∀ad l c,x=.slice (some ad) l c->w.heap.size<=ad.block):=by
 have SO:=Lh (lT k o c w hR hV hl);have SR:=Lh (vM n w);have hE0:=hE.c0;have HV:=Lh hV;obtain⟨r,hr⟩:=qM (Da.inR n);unfold Da.rb;rw[hr]at SR⊢;clear hR hV hE hr;go_enter Tryz.func84,Tryz.ntmps84
 go_wp2_with fail;refine SR.out.mono ?_;rintro e w1 ⟨rfl,rfl⟩;cases r with
 |false=>
  go_wp2_with fail;go_region
  go_wp2_with fail;refine bodyPost_ret (results_tmp2 rfl _ _ _) rfl ?_;exact⟨.slice none 0 0,rfl,RowV.nil _,Kit.dn' _ 1,fun ad l c h=>by cases h⟩
 |true=>
  clear hE0;go_wp2_with fail;refine SO.out.mono ?_;rintro e w1 ⟨p,rfl,hk,hb1⟩;have SB:=Lh (vL k n p w1 hk (HV.out.later hb1));have HB1:=Lh hb1;clear hk hb1 SO;go_wp2_with fail;refine SB.out.mono ?_;rintro e w2 ⟨g,rfl,hgl,hr,hb2⟩;have HROW:Hid (RowV (Da.sb k n) (.slice (some ⟨g,0,none⟩) 8 8) w2):=Lh ⟨_,8,by rw[Da.dH],hr⟩;have HGL:=Lh (Nat.le_trans HB1.out.size hgl);have HB2:=Lh (Ks HB1.out hb2);clear hb2 hr SB hgl;go_wp2_with fail;refine bodyPost_ret (results_tmp2 rfl _ _ _) rfl ?_;exact⟨.slice (some ⟨g,0,none⟩) 8 8,rfl,HROW.out,HB2.out,fun ad l c h=>by cases h;exact HGL.out⟩
theorem Qf(n:Int)(b:BL)(o:Option Addr)(c:Nat)(A:Nat->Addr)(w:World)(hE:Er.E10 w A):
  Calls Tryz.prog 127 #[.int .i64 n,.slice o b.length c] w fun e w'=>e=.returned (eD A (Da.mb b n))/\Below w.heap.size w w':=by
 have hE0:=hE.c0;have hE7:=hE.c7;have SR:=Lh (vM n w);obtain⟨r,hr⟩:=qM (Da.inR n);obtain⟨m,hm⟩:=qM b.length;unfold Da.mb Da.rb;rw[hr]at SR⊢;rw[hm];clear hE hr hm;by_cases h8:m=8
 ·subst h8;rw[if_pos rfl];clear hE7;go_enter Tryz.func127,Tryz.ntmps127
  go_wp2_with fail;refine SR.out.mono ?_;rintro e w1 ⟨rfl,rfl⟩;cases r with
  |false=>
   go_wp2_with fail;go_ret;exact⟨rfl,Below.refl _ _⟩
  |true=>
   go_wp2_with fail;go_ret;exact⟨rfl,Below.refl _ _⟩
 ·rw[if_neg h8];have hd1:((m:Int) !=8)=true:=by rw[bne_iff_ne];omega
  clear hE0;go_enter Tryz.func127,Tryz.ntmps127
  go_wp2_with fail;go_ret;exact⟨rfl,Below.refl _ _⟩
namespace Da
def xr(a b:BL):BL:=List.zipWith (·^^^·) a b
def nF(Z:BL)(o:Nat)(x:BL):BL:=Z.take o++x++Z.drop (o+x.length)
theorem j8(a b:BL):(xr a b).length=min a.length b.length:=by simp[xr]
theorem Tt(a b:BL)(j:Nat)(ha:j<a.length)(hb:j<b.length):(xr a b).getD j 0=a.getD j 0^^^b.getD j 0:=by
 have hx:j<(xr a b).length:=by rw[j8];omega
 simp[xr,List.getElem?_zipWith,ha,hb]
theorem Mn(a b:BL)(h:a.length<=b.length):xr (xr a b) b=a:=by
 apply List.ext_getElem
 ·simp[xr];omega
 ·intro i h1 h2;simp[xr,UInt8.xor_assoc]
theorem Mo(Z:BL)(o:Nat):nF Z o []=Z:=by simp[nF]
theorem kU(Z:BL)(o:Nat)(x:BL)(h:o+x.length<=Z.length):(nF Z o x).length=Z.length:=by simp[nF];omega
theorem Ij(Z:BL)(o:Nat)(x:BL)(j:Nat)(hj:j<x.length)(h:o+x.length<=Z.length):(nF Z o (x.take j)).set (o+j) (x.getD j 0)=nF Z o (x.take (j+1)):=by
 apply List.ext_getElem
 ·rw[List.length_set,kU _ _ _ (by simp;omega),kU _ _ _ (by simp;omega)]
 ·intro i h1 h2;rw[List.getElem_set];simp only[nF,List.length_take,List.append_assoc];by_cases e:o+j=i
  ·subst e;have m1:min o Z.length=o:=qO;have m3:min (j+1) x.length=j+1:=qO;simp only[List.getElem_append,List.length_take,List.getElem_take,List.getElem_drop,m1,m3,show ¬o+j<o by omega,show o+j-o<j+1 by omega,dif_pos,dif_neg,not_false_eq_true];simp[hj]
  ·rw[if_neg e];simp only[List.getElem_append,List.length_take,List.getElem_take,List.getElem_drop];have m1:min o Z.length=o:=qO;have m2:min j x.length=j:=qO;have m3:min (j+1) x.length=j+1:=qO;simp only[m1,m2,m3];by_cases c1:i<o
   ·simp[c1]
   ·by_cases c2:i-o<j
    ·simp[c1,c2,show i-o<j+1 by omega]
    ·simp only[c1,c2,show ¬i-o<j+1 by omega,dif_neg,not_false_eq_true];congr 1
     omega
end Da
theorem BJ{w1 w2 w3:World}{r:Option Nat}(h1:w1.grownBy w2 r)(h2:w2.grownBy w3 r):w1.grownBy w3 r:=
 ⟨h2.os.trans h1.os,h2.tape.trans h1.tape,h2.output.trans h1.output,Nat.le_trans h1.size h2.size,fun k hk hr=>(h2.block k (Nat.lt_of_lt_of_le hk h1.size) hr).trans (h1.block k hk hr)⟩
def Mp(Z x:BL)(g o:Nat)(w:World)(i:Value)(wr:World):Prop:=
 ∃j:Nat,j<=8/\i=.int .i64 j/\Arr wr g 5 (bytesV (Da.nF Z o (x.take j)))/\w.grownBy wr (some g)
theorem Ik(Z a b:BL)(g o:Nat)(oa ob:Option Addr)(ca cb:Nat)(w:World)(hZ:o+8<=Z.length)(hZm:Z.length<=1000000)(hA:Arr w g 5 (bytesV Z))(ha:RowIs w oa (bytesV a) ca)(hb:RowIs w ob (bytesV b) cb)(hal:a.length=8)(hbl:b.length=8)
  (hna:∀ad,oa=some ad->ad.block≠g) (hnb:∀ad,ob=some ad->ad.block≠g):
  Calls Tryz.prog 129 #[.slice (some ⟨g,o,none⟩) 8 8,.slice oa 8 ca,.slice ob 8 cb] w fun e w'=>e=.returned (.tuple #[])/\Arr w' g 5 (bytesV (Da.nF Z o (Da.xr a b)))/\w.grownBy w' (some g):=by
 have hx8:(Da.xr a b).length=8:=by rw[Da.j8,hal,hbl];rfl
 have HX0:Hid (Mp Z (Da.xr a b) g o w (.int .i64 0) w):=Lh ⟨0,qO,rfl,by rw[List.take_zero,Da.Mo];exact hA,World.grownBy.refl _ _⟩;have HXE:Hid (Da.xr a b=(Da.xr a b).take 8):=Lh (List.take_of_length_le qO).symm;have HA:=Lh ha;have HB:=Lh hb;have HNA:=Lh hna;have HNB:=Lh hnb;clear hA ha hb hna hnb;go_enter Tryz.func129,Tryz.ntmps129
 go_wp2_with fail;go_loopw [9] (fun i wr=>Mp Z (Da.xr a b) g o w i wr) (fun i _=>8-(intOf i).toNat)
 case atStart=>exact HX0.out
 case round=>
  obtain⟨j,hj,rfl,hG,hgr⟩:=hrel;by_cases hlt:j<8
  ·obtain⟨x,hx⟩:=qM (a.getD j 0);obtain⟨y,hy⟩:=qM (b.getD j 0);obtain⟨ba,oa,rfl,_,hca0⟩:=(HA.out.kept hgr (fun _ ad e h=>HNA.out ad e (by cases h;rfl))).cells (by simp[hal]);obtain⟨bb,ob,rfl,_,hcb0⟩:=(HB.out.kept hgr (fun _ ad e h=>HNB.out ad e (by cases h;rfl))).cells (by simp[hbl]);have hca:=hca0 j _ (aB a j qO);have hcb:=hcb0 j _ (aB b j qO);have hcg:wr.cell? ⟨g,o+j,none⟩=some (.int .u8 (((Da.nF Z o ((Da.xr a b).take j)).getD (o+j) 0).toNat:Int)):=by rw[hG.cell];exact aB _ _ (by rw[Da.kU _ _ _ (by simp;omega)];omega)
   have hfz:=hG.frozen (o+j);have HX:Hid (bits .xor .u8 (x.toNat:Int) (y.toNat:Int)=((x^^^y).toNat:Int)):=Lh (by
    rw[u8_xor_nat _ _ (UInt8.toNat_lt _) (UInt8.toNat_lt _),UInt8.toNat_xor])
   have HST:Hid ((Da.nF Z o ((Da.xr a b).take j)).set (o+j) (x^^^y)=Da.nF Z o ((Da.xr a b).take (j+1))):=Lh (by
    rw[<-Da.Ij Z o _ j qO qO,Da.Tt a b j qO qO,hx,hy])
   rw[hx]at hca;rw[hy]at hcb;obtain⟨V,hV⟩:=qM (Da.nF Z o ((Da.xr a b).take j));rw[hV]at hG hcg HST;have HG:=Lh hG;have HGR:=Lh hgr;clear hG hgr hx hy hV HX0 hca0 hcb0;go_wp2_with fail;go_region
   go_wp2_with fail;refine⟨⟨j+1,qO,rfl,?_,?_⟩,by simp[intOf];omega⟩
   ·rw[<-HST.out,<-dP,HX.out];exact(HG.out.set (o+j) _).drew
   ·have hgs:=lN HG.out (o+j) (.int .u8 (bits .xor .u8 (x.toNat:Int) (y.toNat:Int)));exact BJ HGR.out ⟨hgs.os,hgs.tape,hgs.output,hgs.size,hgs.block⟩
  ·obtain rfl:j=8:=qO;have HG:=Lh hG;have HGR:=Lh hgr;clear hG hgr HX0;go_wp2_with fail;refine bodyPost_end (results_none rfl _ _ _) rfl ?_;exact⟨rfl,by rw[HXE.out];exact HG.out,HGR.out⟩
namespace Da
def mbs(n:Int):L8->Nat
 |[]=>0
 |b::t=>if mb b n=0 then mbs (n+1) t else mb b n
def mk8(k:BL)(n:Int)(b:BL):BL:=xr b (sb k n)
def mkL(k:BL)(n:Int):L8->L8
 |[]=>[]
 |b::t=>mk8 k n b::mkL k (n+1) t
theorem pz(k:BL)(n:Int)(l:L8):(mkL k n l).length=l.length:=by
 induction l generalizing n with
 |nil=>rfl
 |cons b t ih=>simp[mkL,ih]
theorem mU{k:BL}{n:Int}{b:BL}(h:b.length=8):(mk8 k n b).length=8:=by rw[mk8,j8,dH,h];rfl
theorem xh(k:BL)(n:Int)(b:BL)(h:b.length=8):mk8 k n (mk8 k n b)=b:=Mn b (sb k n) (by rw[dH];omega)
theorem Xq(l:L8)(p:Nat)(hp:p<l.length):bi l p=l[p]:=by simp[bi,hp]
theorem BK(n:Int)(l:L8)(p:Nat)(hp:p<l.length):mbs (n+p) (l.drop p)=if mb (bi l p) (n+p)=0 then mbs (n+(p+1:Nat)) (l.drop (p+1))else mb (bi l p) (n+p):=by
 rw[List.drop_eq_getElem_cons hp,mbs,<-Xq l p hp,show n+(p:Int)+1=n+((p+1:Nat):Int) by omega]
theorem G4(n:Int)(l:L8)(h:mbs n l=0)(p:Nat)(hp:p<l.length):mb (bi l p) (n+p)=0:=by
 induction l generalizing n p with
 |nil=>simp at hp
 |cons b t ih=>
  unfold mbs at h;split at h
  ·rename_i hb;cases p with
   |zero=>simpa[bi]using hb
   |succ p=>
    have:=ih (n+1) h p (by simpa using hp);rw[show n+1+(p:Int)=n+((p+1:Nat):Int) by omega]at this;simpa[bi]using this
  ·rename_i hb;exact absurd h hb
theorem Mq(k:BL)(n:Int)(l:L8)(p:Nat)(hp:p<l.length):bi (mkL k n l) p=mk8 k (n+p) (bi l p):=by
 induction l generalizing n p with
 |nil=>simp at hp
 |cons b t ih=>
  cases p with
  |zero=>simp[bi,mkL]
  |succ p=>
   have:=ih (n+1) p (by simpa using hp);rw[show n+1+(p:Int)=n+((p+1:Nat):Int) by omega]at this;simpa[bi,mkL]using this
theorem Qg(Z:BL)(o:Nat)(x:BL)(h:o+x.length<=Z.length):((nF Z o x).drop o).take x.length=x:=by
 unfold nF;rw[List.append_assoc,List.drop_append_of_le_length (by simp;omega),List.drop_of_length_le (by simp;omega),List.nil_append,List.take_left]
theorem Dk(Z:BL)(o:Nat)(x:BL)(i m:Nat)(h:o+x.length<=Z.length)(hi:i+m<=o):((nF Z o x).drop i).take m=(Z.drop i).take m:=by
 unfold nF;rw[List.append_assoc,List.drop_append_of_le_length (by simp;omega),List.take_append_of_le_length (by simp;omega),List.drop_take,List.take_take,Nat.min_eq_left qO]
end Da
theorem ag{W:World}{a b:Nat}{T U:TypeId}{xs ys:List Value}(h:Arr W a T xs)(k:Arr W b U ys)(hn:T≠U):a≠b:=fun e=>by
 subst e;have:=h.symm.trans k;cases this
 exact hn rfl
theorem bE{W:World}{a b:Nat}{T:TypeId}{xs:List Value}(h:Arr W a T xs)(hn:a≠b)(C:Array Value):Arr (W.setRow b C) a T xs:=by
 unfold Arr;rw[setRow_other _ _ _ _ hn];exact h
theorem xj(n:Nat):(madeCells (Value.slice none 0 0).cells (n*1)).toList=List.replicate n (.slice none 0 0):=by
 rw[Nat.mul_one];exact toList_madeCells_one _ _
def nG(g N p:Nat):List Value:=(List.range N).map fun i=>if i<p then .slice (some ⟨g,8*i,none⟩) 8 8 else .slice none 0 0
theorem kV(g N p:Nat):(nG g N p).length=N:=by simp[nG]
theorem Il(g N:Nat):nG g N 0=List.replicate N (.slice none 0 0):=by
 apply List.ext_getElem
 ·simp[nG]
 ·intro i h1 h2;simp[nG]
theorem pF(g N p i:Nat)(hi:i<N):(nG g N p)[i]? =some (if i<p then .slice (some ⟨g,8*i,none⟩) 8 8 else .slice none 0 0):=by simp[nG,hi]
theorem Im(g N p:Nat):(nG g N p).set p (.slice (some ⟨g,8*p,none⟩) 8 8)=nG g N (p+1):=by
 apply List.ext_getElem
 ·simp[nG]
 ·intro i h1 h2;rw[List.getElem_set];by_cases e:p=i
  ·subst e;simp[nG]
  ·rw[if_neg e];simp only[nG,List.getElem_map,List.getElem_range];by_cases c:i<p
   ·rw[if_pos c,if_pos qO]
   ·rw[if_neg c,if_neg qO]
def Da.mkR(k:BL)(n:Int)(bs:L8):L8:=if Da.mbs n bs=0 then Da.mkL k n bs else[]
theorem ii(A:Nat->Addr)(b:Nat)(h:b≠0):∃a,eD A b=.iface 302 (.pointer (some a)):=⟨_,by unfold eD;rw[if_neg h]⟩
theorem fN(A:Nat->Addr):eD A 0=.nilIface:=rfl
theorem dO(v:World):(binOp .neq 34 .nilIface .nilIface).run Tryz.prog v=.ok (.bool false) v:=qK
def SmA(n:Int)(bs:L8)(w:World)(i:Value)(wr:World):Prop:=
 ∃p:Nat,p<=bs.length/\i=.int .i64 p/\Da.mbs n bs=Da.mbs (n+p) (bs.drop p)/\(0<p->0<=n/\n+p<=1099511627777)/\Below w.heap.size w wr
def SmB(k:BL)(n:Int)(bs:L8)(N pk g4 g5 gR:Nat)(w:World)(room i:Value)(wr:World):Prop:=
 ∃(j:Nat)(ro:Option Addr)(Z:BL),j<=N/\i=.int .i64 j/\room=.slice ro (8*(N-j)) (8*(N-j))/\(j<N->ro=some ⟨gR,8*j,none⟩)/\Z.length=8*N/\(∀q,q<j->(Z.drop (8*q)).take 8=Da.mk8 k (n+q) (bi bs q))/\
  Arr wr gR 5 (bytesV Z)/\Arr wr g4 22 (nG gR N j)/\Arr wr g5 221 [.pointer (some ⟨pk,0,none⟩)]/\Arr wr pk 179 (bytesV (Da.fil k))/\Below w.heap.size w wr
theorem Qh(k:BL)(o:Option Addr)(c:Nat)(n:Int)(N:Nat)(ob:Option Addr)(cb g4 g5:Nat)(a:Act)(hs:a.tmps.size=68)(hd:a.defers=[])(r0:a.tmps.getD 0 undef=.slice o k.length c)(r1:a.tmps.getD 1 undef=.int .i64 n)(r2:a.tmps.getD 2 undef=.slice ob N cb)(r11:a.tmps.getD 11 undef=.pointer (some ⟨g5,0,none⟩))(r12:a.tmps.getD 12 undef=.slice (some ⟨g4,0,none⟩) N N):
  ∃f:Nat->Value,a={tmps:=#[.slice o k.length c,.int .i64 n,.slice ob N cb,f 3,f 4,f 5,f 6,f 7,f 8,f 9,f 10,.pointer (some ⟨g5,0,none⟩),.slice (some ⟨g4,0,none⟩) N N,f 13,f 14,f 15,f 16,f 17,f 18,f 19,f 20,f 21,f 22,f 23,f 24,f 25,f 26,f 27,f 28,f 29,f 30,f 31,f 32,f 33,f 34,f 35,f 36,f 37,f 38,f 39,f 40,f 41,f 42,f 43,f 44,f 45,f 46,f 47,f 48,f 49,f 50,f 51,f 52,f 53,f 54,f 55,f 56,f 57,f 58,f 59,f 60,f 61,f 62,f 63,f 64,f 65,f 66,f 67],defers:=[]}:=by
 refine⟨fun i=>a.tmps.getD i undef,?_⟩;have e:=Rg.Mi a.tmps 68 hs;obtain⟨tm,df⟩:=a;obtain rfl:df=[]:=hd;dsimp only at r0 r1 r2 r11 r12 e⊢;show({tmps:=tm,defers:=[]}:Act)=_;congr 1
 refine e.trans ?_;rw[<-r0,<-r1,<-r2,<-r11,<-r12];rfl
theorem nj(k:BL)(o:Option Addr)(c:Nat)(n:Int)(N:Nat)(ob:Option Addr)(cb p g4 g5:Nat)(a:Act)(w v:World)(hs:a.tmps.size=68)(hd:a.defers=[])(r0:a.tmps.getD 0 undef=.slice o k.length c)(r1:a.tmps.getD 1 undef=.int .i64 n)(r2:a.tmps.getD 2 undef=.slice ob N cb)(r11:a.tmps.getD 11 undef=.pointer (some ⟨g5,0,none⟩))(r12:a.tmps.getD 12 undef=.slice (some ⟨g4,0,none⟩) N N)
  (L4:w.heap.size<=g4) (L5:w.heap.size<=g5) (H1:Arr v p 179 (bytesV (Da.fil k))) (H4:Arr v g4 22 (List.replicate N (.slice none 0 0))) (H5:Arr v g5 221 [.pointer (some ⟨p,0,none⟩)]) (HB:Below w.heap.size w v):
  (Exit.normal:Exit)=.normal/\∃(p g4 g5:Nat)(f:Nat->Value),w.heap.size<=g4/\w.heap.size<=g5/\Arr v p 179 (bytesV (Da.fil k))/\Arr v g4 22 (List.replicate N (.slice none 0 0))/\Arr v g5 221 [.pointer (some ⟨p,0,none⟩)]/\Below w.heap.size w v/\a={tmps:=#[.slice o k.length c,.int .i64 n,.slice ob N cb,f 3,f 4,f 5,f 6,f 7,f 8,f 9,f 10,.pointer (some ⟨g5,0,none⟩),.slice (some ⟨g4,0,none⟩) N N,f 13,f 14,f 15,f 16,f 17,f 18,f 19,f 20,f 21,f 22,f 23,f 24,f 25,f 26,f 27,f 28,f 29,f 30,f 31,f 32,f 33,f 34,f 35,f 36,f 37,f 38,f 39,f 40,f 41,f 42,f 43,f 44,f 45,f 46,f 47,f 48,f 49,f 50,f 51,f 52,f 53,f 54,f 55,f 56,f 57,f 58,f 59,f 60,f 61,f 62,f 63,f 64,f 65,f 66,f 67],defers:=[]}:=by
 obtain⟨f,hf⟩:=Qh k o c n N ob cb g4 g5 a hs hd r0 r1 r2 r11 r12;exact⟨rfl,p,g4,g5,f,L4,L5,H1,H4,H5,HB,hf⟩
theorem xl(k:BL)(o:Option Addr)(c:Nat)(n:Int)(bs:L8)(ob:Option Addr)(cb:Nat)(A:Nat->Addr)(w:World)(hK:RowIs w o (bytesV k) c)(hB:RbIs w ob bs cb)(hV:Cds w)(hE:Er.E10 w A)(hl:k.length<=900000)(hbl:bs.length<=10000)(hn1: -9223372036854775808<=n)(hn2:n<=9223372036854775807):
  Calls Tryz.prog 82 #[.slice o k.length c,.int .i64 n,.slice ob bs.length cb] w fun e w'=>∃x,e=.returned (.tuple #[x,eD A (Da.mbs n bs)])/\RbV (Da.mkR k n bs) x w'/\Below w.heap.size w w'/\(Da.mbs n bs=0->∃g xs,x=.slice (some ⟨g,0,none⟩) bs.length bs.length/\w.heap.size<=g/\Arr w' g 22 xs/\Els w' (Da.mkL k n bs) xs/\(∀ad l c,Value.slice (some ad) l c∈xs->ad.block≠g)):=by
 have hmf:= @makes Tryz.prog;obtain⟨i0,hi0,hz0,hz1,hz2⟩:=info_parts fX;obtain⟨i1,hi1,hy0,hy1,hy2⟩:=info_parts ao;have HK:=Lh hK;have HBS:=Lh hB;have HV:=Lh hV;have HE:=Lh hE;obtain⟨N,hN⟩:=qM bs.length;have HN:=Lh hN;rw[hN]at hbl⊢;clear hK hB hV hE hN;go_enter Tryz.func82,Tryz.ntmps82
 go_wp2_with fail;go_loopw [18] (fun i wr=>SmA n bs w i wr) (fun i _=>N-(intOf i).toNat)
 case atStart=>exact⟨0,Nat.zero_le _,rfl,qS,fun h=>qO,Below.refl _ _⟩
 case round=>
  obtain⟨p,hp,rfl,hm,hr,hb⟩:=hrel;rw[HN.out]at hp;by_cases hlt:p<N
  ·obtain⟨bb,off,q,cq,rfl,_,hc,hrow⟩:=(HBS.out.later hb).cell p (by rw[HN.out];exact hlt);have hwr:IntKind.i64.wrap (n+(p:Int))=n+(p:Int):=by
    rw[IntKind.wrap_i64];rcases Nat.eq_zero_or_pos p with h|h
    ·subst h;omega
    ·have:=hr h;omega
   have FL:=Lh (Qf (n+p) (bi bs p) q cq A wr (HE.out.later hb));have HM:=Lh hm;have HR:=Lh hr;have HB:=Lh hb;obtain⟨L,hL⟩:=qM ((bi bs p).length);have HL:=Lh hL;rw[hL]at FL hc;clear hm hr hb hrow hL;go_wp2_with fail;refine FL.out.mono ?_;rintro e w1 ⟨rfl,hb1⟩;by_cases h0:Da.mb (bi bs p) (n+p)=0
   ·rw[h0,fN];have HB1:=Lh (Ks HB.out hb1);have hnn:=dO w1;clear hb1 FL;go_wp2_with fail;refine⟨⟨p+1,by rw[HN.out];omega,rfl,?_,?_,HB1.out⟩,by simp[intOf];omega⟩
    ·rw[HM.out,Da.BK n bs p (by rw[HN.out];exact hlt),if_pos h0]
    ·intro _;obtain⟨h1,h2⟩:=Da.t8 h0;have:=Da.yx h2;rcases Nat.eq_zero_or_pos p with h|h
     ·subst h;omega
     ·have:=HR.out h;omega
   ·obtain⟨a1,ha1⟩:=ii A _ h0;have HB1:=Lh (Ks HB.out hb1);have HME:Hid (Da.mbs n bs=Da.mb (bi bs p) (n+p)):=Lh (by rw[HM.out,Da.BK n bs p (by rw[HN.out];exact hlt),if_neg h0]);have HA1:=Lh ha1;have H0:=Lh h0;rw[ha1];clear hb1 FL ha1 h0;go_wp2_with fail;refine bodyPost_ret (results_tmp2 rfl _ _ _) rfl ?_;refine⟨.slice none 0 0,by rw[HME.out,HA1.out];rfl,?_,HB1.out,fun h=>absurd (HME.out.symm.trans h) H0.out⟩;unfold Da.mkR;rw[HME.out,if_neg H0.out];exact⟨none,0,rfl,RbIs.empty _ _ (Nat.zero_le _) (fun _=>rfl)⟩
  ·obtain rfl:N=p:=qO;have HM:Hid (Da.mbs n bs=0):=Lh (by rw[hm,List.drop_of_length_le (by rw[HN.out];exact Nat.le_refl _)];rfl);have HR:=Lh hr;have HB:=Lh hb;clear hm hr hb hlt hp;go_wp2_with fail;refine Code.wp_mono (Q:=fun e b' v=>e=.normal/\∃(p g4 g5:Nat)(f:Nat->Value),w.heap.size<=g4/\w.heap.size<=g5/\Arr v p 179 (bytesV (Da.fil k))/\Arr v g4 22 (List.replicate N (.slice none 0 0))/\Arr v g5 221 [.pointer (some ⟨p,0,none⟩)]/\Below w.heap.size w v/\b'={tmps:=#[.slice o k.length c,.int .i64 n,.slice ob N cb,f 3,f 4,f 5,f 6,f 7,f 8,f 9,f 10,.pointer (some ⟨g5,0,none⟩),.slice (some ⟨g4,0,none⟩) N N,f 13,f 14,f 15,f 16,f 17,f 18,f 19,f 20,f 21,f 22,f 23,f 24,f 25,f 26,f 27,f 28,f 29,f 30,f 31,f 32,f 33,f 34,f 35,f 36,f 37,f 38,f 39,f 40,f 41,f 42,f 43,f 44,f 45,f 46,f 47,f 48,f 49,f 50,f 51,f 52,f 53,f 54,f 55,f 56,f 57,f 58,f 59,f 60,f 61,f 62,f 63,f 64,f 65,f 66,f 67],defers:=[]}) ?rest ?reg
   case reg=>
    refine wp_region_any qK ?_;obtain⟨x0,hx0⟩:∃y,wr.drew=y:=⟨_,rfl⟩;have HB:Hid (Below w.heap.size w x0):=Lh (by rw[<-hx0];exact HB.out.drew);change wpAny _ _ _ _ _ _ _ (World.drew _);rw[hx0];clear hx0;refine wpAny_take (i:=0) (v:=.slice o k.length c) rfl qK qK qK (fun _ _ _ h=>by cases h.1) (Or.inl ⟨by rfl,fun w=>by go_simp⟩) ?_;refine wpAny_take (i:=2) (v:=.slice ob N cb) rfl qK qK qK (fun _ _ _ h=>by cases h.1) (Or.inl ⟨by rfl,fun w=>by go_simp⟩) ?_;refine wpAny_take (i:=3) (v:=.int .i64 N) rfl qK qK qK (fun _ _ _ h=>by cases h.1) (Or.inl ⟨by rfl,fun w=>by go_simp⟩) ?_;have M1:Hid (∀x,Below w.heap.size w x->Calls Tryz.prog 128 #[.slice o k.length c] x fun e w'=>∃p,e=.returned (.agg #[.pointer (some ⟨p,0,none⟩)])/\Arr w' p 179 (bytesV (Da.fil k))/\Below x.heap.size x w'):=Lh fun x hx=>lT k o c x (HK.out.later hx) (HV.out.later hx) hl
    have M4:Hid (∀x,Below w.heap.size w x->∃y g,(Instr.makeSlice 27 (.int .i64 (N:Int)) (.int .i64 (N:Int))).run Tryz.prog x=.ok (.slice (some ⟨g,0,none⟩) N N) y/\w.heap.size<=g/\Arr y g 22 (List.replicate N (.slice none 0 0))/\Below x.heap.size x y):=Lh fun x hx=>by
     obtain⟨y,hrun,hown,hgrow⟩:=run_make_full (P:= Tryz.prog) x w.heap.size 27 22 i0 (.slice none 0 0) 1 Tryz.underlying27 hi0 hz0 hz1 .i64 .i64 N (by rw[hz2];omega) (by unfold maxLen;omega) hx.size;rw[xj]at hown;exact⟨y,_,hrun,(eC hown).2,(eC hown).1,qB.grown hgrow qN (fun k h=>by cases h)⟩
    have M5:Hid (∀x,Below w.heap.size w x->∃y g,x.alloc (.cells #[.pointer none] 221)=y/\x.heap.size=g/\w.heap.size<=g/\Arr y g 221 [.pointer none]/\Below x.heap.size x y):=Lh fun x hx=>⟨_,_,rfl,rfl,hx.size,Arr.made _ _ _,qB.alloc qN _⟩
    refine wpAny_ready (rs:=[1,4,5]) qK qS (AllReady.cons rfl (fun K hK=>?_) (AllReady.cons rfl (fun K hK=>?_) (AllReady.cons rfl (fun K hK=>?_) AllReady.nil)))
    ·(go_simp;refine(M1.out _ HB.out).mono ?_;rintro e _ ⟨p,rfl,h1,b1⟩;refine hK _ _ ?_;clear hK K)
     refine wpAny_ready (rs:=[4,5]) qK qS (AllReady.cons rfl (fun K hK=>?_) (AllReady.cons rfl (fun K hK=>?_) AllReady.nil))
     ·(obtain⟨_,g4,q4,l4,h4,b4⟩:=M4.out _ (Ks HB.out b1);go_simp;refine hK _ _ ?_;clear hK K q4)
      refine wpAny_ready (rs:=[5]) qK qS (AllReady.cons rfl (fun K hK=>?_) AllReady.nil)
      (obtain⟨_,g5,q5,r5,l5,h5,b5⟩:=M5.out _ (Ks (Ks HB.out b1) b4);go_simp;refine hK _ _ ?_;clear hK K q5 r5)
      refine wpAny_ready (rs:=[6]) qK qS (AllReady.cons rfl (fun K hK=>?_) AllReady.nil)
      (rw[if_pos (by rfl)];refine wp_store_row 221 (.tmp 11) (.tmp 33) rfl g5 #[.pointer (some ⟨p,0,none⟩)] rfl rfl 221 #[.pointer none] h5 dL rfl (iH p) (hK _ _ ?_);clear hK K)
      refine wpAny_ready (rs:=[7]) qK qS (AllReady.cons rfl (fun K hK=>?_) AllReady.nil);go_simp;refine hK _ _ ?_;clear hK K;refine wpAny_done qK ?_ _;exact nj k o c n N ob cb p g4 g5 _ w _ rfl rfl rfl rfl rfl rfl rfl l4 l5 (bE ((h1.later b4 h1.lt).later b5 (h1.later b4 h1.lt).lt) (ag ((h1.later b4 h1.lt).later b5 (h1.later b4 h1.lt).lt) h5 qD) _) (bE (h4.later b5 h4.lt) (ag (h4.later b5 h4.lt) h5 qD) _) (show Arr _ g5 221 [.pointer (some ⟨p,0,none⟩)] from setRow_heap _ _ _ _ _ _ h5) ((Ks (Ks (Ks HB.out b1) b4) b5).trans (aA (cs:=#[.pointer (some ⟨p,0,none⟩)]) l5))
     ·(obtain⟨_,g5,q5,r5,l5,h5,b5⟩:=M5.out _ (Ks HB.out b1);go_simp;refine hK _ _ ?_;clear hK K q5 r5)
      refine wpAny_ready (rs:=[4,6]) qK qS (AllReady.cons rfl (fun K hK=>?_) (AllReady.cons rfl (fun K hK=>?_) AllReady.nil))
      ·(obtain⟨_,g4,q4,l4,h4,b4⟩:=M4.out _ (Ks (Ks HB.out b1) b5);go_simp;refine hK _ _ ?_;clear hK K q4)
       refine wpAny_ready (rs:=[6]) qK qS (AllReady.cons rfl (fun K hK=>?_) AllReady.nil)
       (rw[if_pos (by rfl)];refine wp_store_row 221 (.tmp 11) (.tmp 33) rfl g5 #[.pointer (some ⟨p,0,none⟩)] rfl rfl 221 #[.pointer none] (h5.later b4 h5.lt) dL rfl (iH p) (hK _ _ ?_);clear hK K)
       refine wpAny_ready (rs:=[7]) qK qS (AllReady.cons rfl (fun K hK=>?_) AllReady.nil);go_simp;refine hK _ _ ?_;clear hK K;refine wpAny_done qK ?_ _;exact nj k o c n N ob cb p g4 g5 _ w _ rfl rfl rfl rfl rfl rfl rfl l4 l5 (bE ((h1.later b5 h1.lt).later b4 (h1.later b5 h1.lt).lt) (ag ((h1.later b5 h1.lt).later b4 (h1.later b5 h1.lt).lt) (h5.later b4 h5.lt) qD) _) (bE h4 (ag h4 (h5.later b4 h5.lt) qD) _) (show Arr _ g5 221 [.pointer (some ⟨p,0,none⟩)] from setRow_heap _ _ _ _ _ _ (h5.later b4 h5.lt)) ((Ks (Ks (Ks HB.out b1) b5) b4).trans (aA (cs:=#[.pointer (some ⟨p,0,none⟩)]) l5))
      ·(rw[if_pos (by rfl)];refine wp_store_row 221 (.tmp 11) (.tmp 33) rfl g5 #[.pointer (some ⟨p,0,none⟩)] rfl rfl 221 #[.pointer none] h5 dL rfl (iH p) (hK _ _ ?_);clear hK K)
       refine wpAny_ready (rs:=[4]) qK qS (AllReady.cons rfl (fun K hK=>?_) AllReady.nil)
       (obtain⟨_,g4,q4,l4,h4,b4⟩:=M4.out _ ((Ks (Ks HB.out b1) b5).trans (aA (cs:=#[.pointer (some ⟨p,0,none⟩)]) l5));go_simp;refine hK _ _ ?_;clear hK K q4)
       refine wpAny_ready (rs:=[7]) qK qS (AllReady.cons rfl (fun K hK=>?_) AllReady.nil);go_simp;refine hK _ _ ?_;clear hK K;refine wpAny_done qK ?_ _;exact nj k o c n N ob cb p g4 g5 _ w _ rfl rfl rfl rfl rfl rfl rfl l4 l5 ((bE (h1.later b5 h1.lt) (ag (h1.later b5 h1.lt) h5 qD) _).later b4 (bE (h1.later b5 h1.lt) (ag (h1.later b5 h1.lt) h5 qD) _).lt) h4 ((show Arr _ g5 221 [.pointer (some ⟨p,0,none⟩)] from setRow_heap _ _ _ _ _ _ h5).later b4 (show Arr _ g5 221 [.pointer (some ⟨p,0,none⟩)] from setRow_heap _ _ _ _ _ _ h5).lt) (Ks ((Ks (Ks HB.out b1) b5).trans (aA (cs:=#[.pointer (some ⟨p,0,none⟩)]) l5)) b4)
    ·(obtain⟨_,g4,q4,l4,h4,b4⟩:=M4.out _ HB.out;go_simp;refine hK _ _ ?_;clear hK K q4)
     refine wpAny_ready (rs:=[1,5]) qK qS (AllReady.cons rfl (fun K hK=>?_) (AllReady.cons rfl (fun K hK=>?_) AllReady.nil))
     ·(go_simp;refine(M1.out _ (Ks HB.out b4)).mono ?_;rintro e _ ⟨p,rfl,h1,b1⟩;refine hK _ _ ?_;clear hK K)
      refine wpAny_ready (rs:=[5]) qK qS (AllReady.cons rfl (fun K hK=>?_) AllReady.nil)
      (obtain⟨_,g5,q5,r5,l5,h5,b5⟩:=M5.out _ (Ks (Ks HB.out b4) b1);go_simp;refine hK _ _ ?_;clear hK K q5 r5)
      refine wpAny_ready (rs:=[6]) qK qS (AllReady.cons rfl (fun K hK=>?_) AllReady.nil)
      (rw[if_pos (by rfl)];refine wp_store_row 221 (.tmp 11) (.tmp 33) rfl g5 #[.pointer (some ⟨p,0,none⟩)] rfl rfl 221 #[.pointer none] h5 dL rfl (iH p) (hK _ _ ?_);clear hK K)
      refine wpAny_ready (rs:=[7]) qK qS (AllReady.cons rfl (fun K hK=>?_) AllReady.nil);go_simp;refine hK _ _ ?_;clear hK K;refine wpAny_done qK ?_ _;exact nj k o c n N ob cb p g4 g5 _ w _ rfl rfl rfl rfl rfl rfl rfl l4 l5 (bE (h1.later b5 h1.lt) (ag (h1.later b5 h1.lt) h5 qD) _) (bE ((h4.later b1 h4.lt).later b5 (h4.later b1 h4.lt).lt) (ag ((h4.later b1 h4.lt).later b5 (h4.later b1 h4.lt).lt) h5 qD) _) (show Arr _ g5 221 [.pointer (some ⟨p,0,none⟩)] from setRow_heap _ _ _ _ _ _ h5) ((Ks (Ks (Ks HB.out b4) b1) b5).trans (aA (cs:=#[.pointer (some ⟨p,0,none⟩)]) l5))
     ·(obtain⟨_,g5,q5,r5,l5,h5,b5⟩:=M5.out _ (Ks HB.out b4);go_simp;refine hK _ _ ?_;clear hK K q5 r5)
      refine wpAny_ready (rs:=[1]) qK qS (AllReady.cons rfl (fun K hK=>?_) AllReady.nil);go_simp;refine(M1.out _ (Ks (Ks HB.out b4) b5)).mono ?_;rintro e _ ⟨p,rfl,h1,b1⟩;refine hK _ _ ?_;clear hK K;refine wpAny_ready (rs:=[6]) qK qS (AllReady.cons rfl (fun K hK=>?_) AllReady.nil)
      (rw[if_pos (by rfl)];refine wp_store_row 221 (.tmp 11) (.tmp 33) rfl g5 #[.pointer (some ⟨p,0,none⟩)] rfl rfl 221 #[.pointer none] (h5.later b1 h5.lt) dL rfl (iH p) (hK _ _ ?_);clear hK K)
      refine wpAny_ready (rs:=[7]) qK qS (AllReady.cons rfl (fun K hK=>?_) AllReady.nil);go_simp;refine hK _ _ ?_;clear hK K;refine wpAny_done qK ?_ _;exact nj k o c n N ob cb p g4 g5 _ w _ rfl rfl rfl rfl rfl rfl rfl l4 l5 (bE h1 (ag h1 (h5.later b1 h5.lt) qD) _) (bE ((h4.later b5 h4.lt).later b1 (h4.later b5 h4.lt).lt) (ag ((h4.later b5 h4.lt).later b1 (h4.later b5 h4.lt).lt) (h5.later b1 h5.lt) qD) _) (show Arr _ g5 221 [.pointer (some ⟨p,0,none⟩)] from setRow_heap _ _ _ _ _ _ (h5.later b1 h5.lt)) ((Ks (Ks (Ks HB.out b4) b5) b1).trans (aA (cs:=#[.pointer (some ⟨p,0,none⟩)]) l5))
    ·(obtain⟨_,g5,q5,r5,l5,h5,b5⟩:=M5.out _ HB.out;go_simp;refine hK _ _ ?_;clear hK K q5 r5)
     refine wpAny_ready (rs:=[1,4]) qK qS (AllReady.cons rfl (fun K hK=>?_) (AllReady.cons rfl (fun K hK=>?_) AllReady.nil))
     ·(go_simp;refine(M1.out _ (Ks HB.out b5)).mono ?_;rintro e _ ⟨p,rfl,h1,b1⟩;refine hK _ _ ?_;clear hK K)
      refine wpAny_ready (rs:=[4,6]) qK qS (AllReady.cons rfl (fun K hK=>?_) (AllReady.cons rfl (fun K hK=>?_) AllReady.nil))
      ·(obtain⟨_,g4,q4,l4,h4,b4⟩:=M4.out _ (Ks (Ks HB.out b5) b1);go_simp;refine hK _ _ ?_;clear hK K q4)
       refine wpAny_ready (rs:=[6]) qK qS (AllReady.cons rfl (fun K hK=>?_) AllReady.nil)
       (rw[if_pos (by rfl)];refine wp_store_row 221 (.tmp 11) (.tmp 33) rfl g5 #[.pointer (some ⟨p,0,none⟩)] rfl rfl 221 #[.pointer none] ((h5.later b1 h5.lt).later b4 (h5.later b1 h5.lt).lt) dL rfl (iH p) (hK _ _ ?_);clear hK K)
       refine wpAny_ready (rs:=[7]) qK qS (AllReady.cons rfl (fun K hK=>?_) AllReady.nil);go_simp;refine hK _ _ ?_;clear hK K;refine wpAny_done qK ?_ _;exact nj k o c n N ob cb p g4 g5 _ w _ rfl rfl rfl rfl rfl rfl rfl l4 l5 (bE (h1.later b4 h1.lt) (ag (h1.later b4 h1.lt) ((h5.later b1 h5.lt).later b4 (h5.later b1 h5.lt).lt) qD) _) (bE h4 (ag h4 ((h5.later b1 h5.lt).later b4 (h5.later b1 h5.lt).lt) qD) _) (show Arr _ g5 221 [.pointer (some ⟨p,0,none⟩)] from setRow_heap _ _ _ _ _ _ ((h5.later b1 h5.lt).later b4 (h5.later b1 h5.lt).lt)) ((Ks (Ks (Ks HB.out b5) b1) b4).trans (aA (cs:=#[.pointer (some ⟨p,0,none⟩)]) l5))
      ·(rw[if_pos (by rfl)];refine wp_store_row 221 (.tmp 11) (.tmp 33) rfl g5 #[.pointer (some ⟨p,0,none⟩)] rfl rfl 221 #[.pointer none] (h5.later b1 h5.lt) dL rfl (iH p) (hK _ _ ?_);clear hK K)
       refine wpAny_ready (rs:=[4]) qK qS (AllReady.cons rfl (fun K hK=>?_) AllReady.nil)
       (obtain⟨_,g4,q4,l4,h4,b4⟩:=M4.out _ ((Ks (Ks HB.out b5) b1).trans (aA (cs:=#[.pointer (some ⟨p,0,none⟩)]) l5));go_simp;refine hK _ _ ?_;clear hK K q4)
       refine wpAny_ready (rs:=[7]) qK qS (AllReady.cons rfl (fun K hK=>?_) AllReady.nil);go_simp;refine hK _ _ ?_;clear hK K;refine wpAny_done qK ?_ _;exact nj k o c n N ob cb p g4 g5 _ w _ rfl rfl rfl rfl rfl rfl rfl l4 l5 ((bE h1 (ag h1 (h5.later b1 h5.lt) qD) _).later b4 (bE h1 (ag h1 (h5.later b1 h5.lt) qD) _).lt) h4 ((show Arr _ g5 221 [.pointer (some ⟨p,0,none⟩)] from setRow_heap _ _ _ _ _ _ (h5.later b1 h5.lt)).later b4 (show Arr _ g5 221 [.pointer (some ⟨p,0,none⟩)] from setRow_heap _ _ _ _ _ _ (h5.later b1 h5.lt)).lt) (Ks ((Ks (Ks HB.out b5) b1).trans (aA (cs:=#[.pointer (some ⟨p,0,none⟩)]) l5)) b4)
     ·(obtain⟨_,g4,q4,l4,h4,b4⟩:=M4.out _ (Ks HB.out b5);go_simp;refine hK _ _ ?_;clear hK K q4)
      refine wpAny_ready (rs:=[1]) qK qS (AllReady.cons rfl (fun K hK=>?_) AllReady.nil);go_simp;refine(M1.out _ (Ks (Ks HB.out b5) b4)).mono ?_;rintro e _ ⟨p,rfl,h1,b1⟩;refine hK _ _ ?_;clear hK K;refine wpAny_ready (rs:=[6]) qK qS (AllReady.cons rfl (fun K hK=>?_) AllReady.nil)
      (rw[if_pos (by rfl)];refine wp_store_row 221 (.tmp 11) (.tmp 33) rfl g5 #[.pointer (some ⟨p,0,none⟩)] rfl rfl 221 #[.pointer none] ((h5.later b4 h5.lt).later b1 (h5.later b4 h5.lt).lt) dL rfl (iH p) (hK _ _ ?_);clear hK K)
      refine wpAny_ready (rs:=[7]) qK qS (AllReady.cons rfl (fun K hK=>?_) AllReady.nil);go_simp;refine hK _ _ ?_;clear hK K;refine wpAny_done qK ?_ _;exact nj k o c n N ob cb p g4 g5 _ w _ rfl rfl rfl rfl rfl rfl rfl l4 l5 (bE h1 (ag h1 ((h5.later b4 h5.lt).later b1 (h5.later b4 h5.lt).lt) qD) _) (bE (h4.later b1 h4.lt) (ag (h4.later b1 h4.lt) ((h5.later b4 h5.lt).later b1 (h5.later b4 h5.lt).lt) qD) _) (show Arr _ g5 221 [.pointer (some ⟨p,0,none⟩)] from setRow_heap _ _ _ _ _ _ ((h5.later b4 h5.lt).later b1 (h5.later b4 h5.lt).lt)) ((Ks (Ks (Ks HB.out b5) b4) b1).trans (aA (cs:=#[.pointer (some ⟨p,0,none⟩)]) l5))
   case rest=>
    rintro e a W ⟨rfl,p,g4,g5,f,h4,h5,hk,hm,hs,hb,rfl⟩;rename_i K0 hK0;show K0 _ _;refine hK0 _ _ ?_;clear hK0 K0;have H4:=Lh h4;have H5:=Lh h5;have HKY:=Lh hk;have HMA:=Lh hm;have HSO:=Lh hs;have HB:=Lh hb;have hw8:IntKind.i64.wrap ((N:Int)*8)=((N*8:Nat):Int):=by rw[IntKind.wrap_i64];omega
    clear h4 h5 hk hm hs hb;go_wp2_with (at_make;refine wpList_make_full _ rfl _ _ 22 rfl w.heap.size 5 i1 (.int .u8 0) 1 Tryz.underlying22 hi1 hy0 hy1 .i64 .i64 _ _ (N*8) rfl rfl qO qO (by rw[hy2];omega) (by unfold maxLen;omega) HB.out.size ?_)
    intro W1 hown hgrow;have hb1:Below W.heap.size W W1:=qB.grown hgrow qN (fun k h=>by cases h);obtain⟨gR,hgR⟩:=qM W.heap.size;rw[hgR]at hown;have hA1:=(eC hown).1;have hle:=(eC hown).2;rw[jm]at hA1;have HX0:Hid (SmB k n bs N p g4 g5 gR w (.slice (some ⟨gR,0,none⟩) (N*8) (N*8)) (.int .i64 0) W1):=Lh ⟨0,_,List.replicate (N*8) 0,Nat.zero_le _,rfl,by rw[Nat.sub_zero,Nat.mul_comm],fun _=>rfl,by simp;omega,fun q h=>qO,hA1,by rw[Il];exact HMA.out.later hb1 HMA.out.lt,HSO.out.later hb1 HSO.out.lt,HKY.out.later hb1 HKY.out.lt,Ks HB.out hb1⟩;have HGR:=Lh hgR;have HLE:=Lh hle;clear hb1 hgR hown hgrow hA1 hle;go_wp2_with (first|rw[HGR.out])
    go_loopw [13,43] (fun r i wr=>SmB k n bs N p g4 g5 gR w r i wr) (fun _ i _=>N-(intOf i).toNat)
    case atStart=>exact HX0.out
    case round=>
     obtain⟨j,ro,Z,hj,rfl,rfl,hro,hZ,hq,hAR,hA4,hA5,hAk,hb⟩:=hrel;by_cases hlt:j<N
     ·obtain rfl:=hro hlt;have hmb:=Da.G4 n bs HM.out j (by rw[HN.out];exact hlt);obtain⟨hb8,hrb⟩:=Da.t8 hmb;have hrg:=Da.yx hrb;have hwr:IntKind.i64.wrap (n+(j:Int))=n+(j:Int):=by rw[IntKind.wrap_i64];omega
      obtain⟨bb,off,q,cq,rfl,hblt,hc,hrow⟩:=HBS.out.cell j (by rw[HN.out];exact hlt);have hc:=hb.cell hblt|>.trans hc;have hnq:=hrow.apart HLE.out (by simp[hb8]);rw[hb8]at hc;have h4c:wr.cell? ⟨g4,j,none⟩=some (.slice none 0 0):=by rw[hA4.cell,pF _ _ _ _ hlt,if_neg qO]
      have h4f:=hA4.frozen j;have HZ:=Lh hZ;have HQ:=Lh hq;have HAR:=Lh hAR;have HA4:=Lh hA4;have HA5:=Lh hA5;have HAK:=Lh hAk;have HBW:=Lh hb;have HROW:=Lh hrow;have HNQ:=Lh hnq;have HRG:=Lh hrg;have HB8:=Lh hb8;obtain⟨L,hL⟩:=qM (8*(N-j));have hL8:8<=L:=qO;have HL:=Lh hL;rw[hL];clear hZ hq hAR hA4 hA5 hAk hb hrow hnq hro hmb hrb hrg hb8 HX0 hL;have HNC:=HNQ;by_cases hL9:L=8
      case' pos=>
       subst hL9;go_wp2_with fail;go_region
       obtain⟨room,hroom,HRM⟩:∃r:Value,r=.slice (some ⟨gR,8*j,none⟩) 0 0/\Hid (∃ro,r=.slice ro (8*(N-(j+1))) (8*(N-(j+1)))/\(j+1<N->ro=some ⟨gR,8*(j+1),none⟩)):=⟨_,rfl,Lh ⟨_,by have:=HL.out;rw[show 8*(N-(j+1))=0 by omega],fun h=>by have:=HL.out;omega⟩⟩;rw[<-hroom]
      case' neg=>
       go_wp2_with fail;go_region
       obtain⟨room,hroom,HRM⟩:∃r:Value,r=.slice (some ⟨gR,8*j+8,none⟩) (L-8) (L-8)/\Hid (∃ro,r=.slice ro (8*(N-(j+1))) (8*(N-(j+1)))/\(j+1<N->ro=some ⟨gR,8*(j+1),none⟩)):=⟨_,rfl,Lh ⟨some ⟨gR,8*j+8,none⟩,by have:=HL.out;rw[show 8*(N-(j+1))=L-8 by omega],fun h=>by rw[Nat.mul_add]⟩⟩;rw[<-hroom]
      all_goals
       clear hroom;obtain⟨W2,hW2⟩:=qM ((wr.setCell ⟨g4,j,none⟩ (.slice (some ⟨gR,8*j,none⟩) 8 8)).drew);have a4:Arr W2 g4 22 (nG gR N (j+1)):=by rw[<-hW2,<-Im];exact(HA4.out.set j _).drew
       have aR:Arr W2 gR 5 (bytesV Z):=by rw[<-hW2];exact(HAR.out.ne HA4.out (ag HAR.out HA4.out qD) j _).drew
       have a5:Arr W2 g5 221 [.pointer (some ⟨p,0,none⟩)]:=by rw[<-hW2];exact(HA5.out.ne HA4.out (ag HA5.out HA4.out qD) j _).drew
       have ak:Arr W2 p 179 (bytesV (Da.fil k)):=by rw[<-hW2];exact(HAK.out.ne HA4.out (ag HAK.out HA4.out qD) j _).drew
       have hb2:Below w.heap.size w W2:=by rw[<-hW2];exact(HA4.out.below HBW.out H4.out j _).drew
       rw[hW2];have HB4:=Lh a4;have HBR:=Lh aR;have HBS5:=Lh a5;have HBK:=Lh ak;have HBB:=Lh hb2;clear hW2 a4 aR a5 ak hb2 h4c h4f;go_wp2_with fail;have hS0:(W2.drew).cell? ⟨g4,j,none⟩=some (.slice (some ⟨gR,8*j,none⟩) 8 8)/\(W2.drew).rangeAt g5 0 [.pointer (some ⟨p,0,none⟩)]:=⟨by show W2.cell? _=_;rw[HB4.out.cell,pF _ _ _ _ hlt,if_pos qO],(HBS5.out.drew).range 0 _ (fun i v h=>by rw[Nat.zero_add];exact h)⟩;refine wp_region_held (S:=fun v=>v.cell? ⟨g4,j,none⟩=some (.slice (some ⟨gR,8*j,none⟩) 8 8)/\v.rangeAt g5 0 [.pointer (some ⟨p,0,none⟩)]) qK ?_;refine wpAnyH_take (i:=0) (v:=.slice (some ⟨g4,0,none⟩) N N) rfl qK qK qK qI (Or.inl ⟨by rfl,fun v hS=>by go_simp⟩) hS0 ?_;refine wpAnyH_take (i:=1) (v:=.int .i64 j) rfl qK qK qK qI (Or.inl ⟨by rfl,fun v hS=>by go_simp⟩) hS0 ?_;refine wpAnyH_take (i:=4) (v:=.slice q 8 cq) rfl qK qK qK qI (Or.inl ⟨by rfl,fun v hS=>by go_simp⟩) hS0 ?_;refine wpAnyH_take (i:=6) (v:=.int .i64 n) rfl qK qK qK qI (Or.inl ⟨by rfl,fun v hS=>by go_simp⟩) hS0 ?_;refine wpAnyH_take (i:=7) (v:=.int .i64 j) rfl qK qK qK qI (Or.inl ⟨by rfl,fun v hS=>by go_simp⟩) hS0 ?_;refine wpAnyH_take (i:=8) (v:=.int .i64 (n+j)) rfl qK qK qK qI (Or.inl ⟨by rfl,fun v hS=>by go_simp⟩) hS0 ?_;refine wpAnyH_take (i:=2) (v:=.pointer (some ⟨g4,j,none⟩)) rfl qK qK qK qI (Or.inl ⟨by rfl,fun v hS=>by go_simp⟩) hS0 ?_;refine wpAnyH_take (i:=3) (v:=.slice (some ⟨gR,8*j,none⟩) 8 8) rfl qK qK qK qI (Or.inl ⟨by rfl,fun v hS=>by have hc:=hS.1;go_simp⟩) hS0 ?_;refine wpAnyH_take (i:=5) (v:=.agg #[.pointer (some ⟨p,0,none⟩)]) rfl qK qK qK qI (Or.inl ⟨by rfl,fun v hS=>St.ib (x:=.tmp 11) (ty:= 221) rfl (by go_simp) [.pointer (some ⟨p,0,none⟩)] _ hS.2 Tryz.underlying221 rfl dL⟩) hS0 ?_;have hbd:Below W2.heap.size W2 W2.drew:=Kit.dn' W2 1;refine wpAnyH_all (rs:=[9]) qK qS (fun i hi=>?_);obtain rfl:i=9:=by simpa using hi
       refine Rg.uI (R:=fun x v=>∃g,x=.slice (some ⟨g,0,none⟩) 8 8/\W2.drew.heap.size<=g/\RowIs v (some ⟨g,0,none⟩) (bytesV (Da.sb k (n+j))) 8/\Below W2.drew.heap.size W2.drew v) rfl rfl rfl (enters_of Tryz.func130 qK rfl) (args:=#[.agg #[.pointer (some ⟨p,0,none⟩)],.int .i64 (n+j)]) (by go_simp)
        ((vL k (n+j) p W2.drew HBK.out.drew ((HV.out.later HBB.out).later hbd)).mono (fun e v' ⟨g,he,h1,h2,h3⟩=>⟨_,he,g,rfl,h1,h2,h3⟩)) ?_
       rintro x W3 ⟨gB,rfl,hgB,hrB,hb3⟩;have hb3:Below W2.heap.size W2 W3:=Ks hbd hb3;have hgB:W2.heap.size<=gB:=hgB;have a4:=HB4.out.later hb3 HB4.out.lt;have aR:=HBR.out.later hb3 HBR.out.lt;have a5:=HBS5.out.later hb3 HBS5.out.lt;have ak:=HBK.out.later hb3 HBK.out.lt;have hBB:=HBB.out.trans (hb3.mono HBB.out.size);refine⟨⟨by rw[a4.cell,pF _ _ _ _ hlt,if_pos qO],a5.range 0 _ (fun i v h=>by rw[Nat.zero_add];exact h)⟩,?_⟩;refine wpAnyH_all (rs:=[10]) qK qS (fun i hi=>?_);obtain rfl:i=10:=by simpa using hi
       have LY:=Ik Z (bi bs j) (Da.sb k (n+j)) gR (8*j) q (some ⟨gB,0,none⟩) cq 8 W3 (by have:=HZ.out;omega) (by have:=HZ.out;omega) aR (HROW.out.later hBB) hrB HB8.out (Da.dH _ _) HNC.out (fun ad e=>by cases e;have:=HBR.out.lt;show gB≠gR;omega);refine Rg.uI (R:=fun x v=>Arr v gR 5 (bytesV (Da.nF Z (8*j) (Da.mk8 k (n+j) (bi bs j))))/\W3.grownBy v (some gR)) rfl rfl rfl (enters_of Tryz.func129 qK rfl) (args:=#[.slice (some ⟨gR,8*j,none⟩) 8 8,.slice q 8 cq,.slice (some ⟨gB,0,none⟩) 8 8]) (by go_simp)
        (LY.mono (fun e v' ⟨he,h1,h2⟩=>⟨_,he,h1,h2⟩)) ?_
       rintro x W4 ⟨cR,hg4⟩;have c4:=a4.kept hg4 (fun e=>ag a4 aR qD (Option.some.inj e));have c5:=a5.kept hg4 (fun e=>ag a5 aR qD (Option.some.inj e));have ck:=ak.kept hg4 (fun e=>ag ak aR qD (Option.some.inj e));have hB4:=below_grown hBB hg4 HLE.out hBB.size;refine⟨⟨by rw[c4.cell,pF _ _ _ _ hlt,if_pos qO],c5.range 0 _ (fun i v h=>by rw[Nat.zero_add];exact h)⟩,?_⟩;refine wpAnyH_done qK ?_ _;obtain⟨ro,hro,hr2⟩:=HRM.out;have hm8:=Da.mU (k:=k) (n:=n+j) HB8.out;have HX1:Hid (SmB k n bs N p g4 g5 gR w room (.int .i64 ((j+1:Nat):Int)) W4):=Lh ⟨j+1,ro,_,qO,rfl,hro,hr2,by rw[Da.kU _ _ _ (by rw[hm8];have:=HZ.out;omega)];exact HZ.out,fun t ht=>by
        by_cases e:t=j
        ·subst e;have:=Da.Qg Z (8*t) (Da.mk8 k (n+t) (bi bs t)) (by rw[hm8];have:=HZ.out;omega);rwa[hm8]at this
        ·rw[Da.Dk _ _ _ _ _ (by rw[hm8];have:=HZ.out;omega) qO];exact HQ.out t qO,cR,c4,c5,ck,hB4⟩
       clear c4 c5 ck hB4 a4 a5 ak aR hBB hb3 hgB hrB hg4 cR LY hm8 hro hr2 hS0 hbd;go_wp2_with fail;exact⟨HX1.out,by simp[intOf];omega⟩
     ·obtain rfl:N=j:=qO;have HBW:=Lh hb;have hml:(Da.mkL k n bs).length=N:=by rw[Da.pz,HN.out]
      have hEL:Els wr (Da.mkL k n bs) (nG gR N N):=by
       refine⟨by rw[kV,hml],fun i x hx=>?_⟩;have hi:i<N:=by have:=(List.getElem?_eq_some_iff.1 hx).1;rwa[kV]at this
       rw[pF _ _ _ _ hi,if_pos hi]at hx;obtain rfl:=Option.some.inj hx;obtain⟨hb8,_⟩:=Da.t8 (Da.G4 n bs HM.out i (by rw[HN.out];exact hi));rw[Da.Mq k n bs i (by rw[HN.out];exact hi)];have hm8:=Da.mU (k:=k) (n:=n+i) hb8;refine⟨_,8,by rw[hm8],?_⟩;have hr:=(hAR.row (by unfold maxLen;omega)).part (8*i) 8 (by rw[bytesV_length];omega) 8 qN (by unfold maxLen;decide);rw[Nat.zero_add]at hr;rw[<-hq i hi];simpa[bytesV,List.map_take,List.map_drop]using hr
      have hRB:RbV (Da.mkR k n bs) (.slice (some ⟨g4,0,none⟩) N N) wr:=by
       unfold Da.mkR;rw[if_pos HM.out];exact⟨_,N,by rw[hml],nG gR N N,⟨by rw[kV];exact Nat.le_refl _,by unfold maxLen;omega,fun h=>(by cases h),fun h=>⟨g4,0,rfl,hA4.lt,fun i v hv=>by rw[Nat.zero_add,hA4.cell];exact hv⟩⟩,hEL⟩
      have HOW:Hid (∃g xs,Value.slice (some ⟨g4,0,none⟩) N N=.slice (some ⟨g,0,none⟩) N N/\w.heap.size<=g/\Arr wr g 22 xs/\Els wr (Da.mkL k n bs) xs/\(∀ad l c,Value.slice (some ad) l c∈xs->ad.block≠g)):=Lh ⟨g4,nG gR N N,rfl,H4.out,hA4,hEL,fun ad l c hm=>by
       obtain⟨i,hi,e⟩:=List.getElem_of_mem hm;have h2:(nG gR N N)[i]? =some (.slice (some ad) l c):=by rw[List.getElem?_eq_getElem hi,e]
       rw[kV]at hi;rw[pF _ _ _ _ hi,if_pos hi]at h2;injection h2 with h2
       injection h2 with h2 _ _
       injection h2 with h2
       subst h2;exact ag hAR hA4 qD⟩
      have HRB:=Lh hRB;clear hq hAR hA4 hA5 hAk hb hRB HX0 hro hZ hEL hml;go_wp2_with fail;refine bodyPost_ret (results_tmp2 rfl _ _ _) rfl ?_;exact⟨_,by rw[HM.out];rfl,HRB.out,HBW.out,fun _=>HOW.out⟩
theorem Ip(k:BL)(o:Option Addr)(c:Nat)(n:Int)(bs:L8)(ob:Option Addr)(cb:Nat)(A:Nat->Addr)(w:World)(hK:RowIs w o (bytesV k) c)(hB:RbIs w ob bs cb)(hV:Cds w)(hE:Er.E10 w A)(hl:k.length<=900000)(hbl:bs.length<=10000)(hn1: -9223372036854775808<=n)(hn2:n<=9223372036854775807):
  Calls Tryz.prog 82 #[.slice o k.length c,.int .i64 n,.slice ob bs.length cb] w fun e w'=>∃x,e=.returned (.tuple #[x,eD A (Da.mbs n bs)])/\RbV (Da.mkR k n bs) x w'/\Below w.heap.size w w':=
 (xl k o c n bs ob cb A w hK hB hV hE hl hbl hn1 hn2).mono fun e w' ⟨x,h1,h2,h3,_⟩=>⟨x,h1,h2,h3⟩
theorem Da.yz(n:Int)(b:BL):Da.mbs n [b]=Da.mb b n:=by
 unfold Da.mbs;split
 ·rename_i h;rw[h];rfl
 ·rfl
def Da.mk1(k:BL)(n:Int)(b:BL):BL:=if Da.mb b n=0 then Da.mk8 k n b else[]
theorem Mv(k:BL)(o:Option Addr)(c:Nat)(n:Int)(b:BL)(ob:Option Addr)(cb:Nat)(A:Nat->Addr)(w:World)(hK:RowIs w o (bytesV k) c)(hB:RowIs w ob (bytesV b) cb)(hV:Cds w)(hE:Er.E10 w A)(hl:k.length<=900000)(hn1: -9223372036854775808<=n)(hn2:n<=9223372036854775807):
  Calls Tryz.prog 62 #[.slice o k.length c,.int .i64 n,.slice ob b.length cb] w fun e w'=>∃x,e=.returned (.tuple #[x,eD A (Da.mb b n)])/\RowV (Da.mk1 k n b) x w'/\Below w.heap.size w w':=by
 obtain⟨W1,hW1⟩:=qM (w.alloc (.cells #[.slice ob b.length cb] 22));have hb1:Below w.heap.size w W1:=by rw[<-hW1];exact qB.alloc qN _
 obtain⟨g,hg⟩:=qM w.heap.size;have hr1:RbIs W1 (some ⟨g,0,none⟩) [b] 1:=by rw[<-hW1,<-hg];exact jo hB
 have MS:=Ip k o c n [b] (some ⟨g,0,none⟩) 1 A W1 (hK.later hb1) hr1 (hV.later hb1) (hE.later hb1) hl qS hn1 hn2;rw[Da.yz,show([b]:L8).length=1 from rfl]at MS;have HMS:=Lh MS;have HG:=Lh hg;have HW1:=Lh hW1;have HB1:=Lh hb1;clear hK hB hV hE hr1 MS hg hW1 hb1;go_enter Tryz.func62,Tryz.ntmps62
 go_wp2_with (first|rw[HW1.out,HG.out])
 refine HMS.out.mono ?_;rintro e W2 ⟨x,rfl,hx,hb2⟩;have HB2:=Lh (Ks HB1.out hb2);have HX:=Lh hx;clear hb2 hx HMS;by_cases h0:Da.mb b n=0
 ·have hnn:=dO W2;obtain⟨ox,cx,rfl,hrx⟩:=HX.out;have hlen:(Da.mkR k n [b]).length=1:=by unfold Da.mkR;rw[if_pos (by rw[Da.yz];exact h0),Da.pz];rfl
  obtain⟨bb,off,q,cq,rfl,_,hc,hrow⟩:=hrx.cell 0 qO;have hbi:bi (Da.mkR k n [b]) 0=Da.mk8 k n b:=by unfold Da.mkR;rw[if_pos (by rw[Da.yz];exact h0)];rfl
  rw[hbi]at hc hrow;rw[Nat.add_zero]at hc;have HROW:Hid (RowV (Da.mk1 k n b) (.slice q (Da.mk8 k n b).length cq) W2):=Lh (by unfold Da.mk1;rw[if_pos h0];exact⟨q,cq,rfl,hrow⟩);obtain⟨L,hL⟩:=qM ((Da.mk8 k n b).length);rw[hL]at HROW hc;have H0:=Lh h0;rw[hlen,h0,fN];clear hrx hrow hbi hlen h0 hL;go_wp2_with fail;refine bodyPost_ret (results_tmp2 rfl _ _ _) rfl ?_;exact⟨_,by rw[H0.out];rfl,HROW.out,HB2.out⟩
 ·obtain⟨a1,ha1⟩:=ii A _ h0;have HR:Hid (RowV (Da.mk1 k n b) (.slice none 0 0) W2):=Lh (by unfold Da.mk1;rw[if_neg h0];exact RowV.nil _);have HA1:=Lh ha1;rw[ha1];clear ha1 h0;go_wp2_with fail;refine bodyPost_ret (results_tmp2 rfl _ _ _) rfl ?_;exact⟨_,by rw[HA1.out];rfl,HR.out,HB2.out⟩
