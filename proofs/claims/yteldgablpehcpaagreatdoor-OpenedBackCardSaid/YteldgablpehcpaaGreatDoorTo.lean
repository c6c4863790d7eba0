/- To -/
import Derived.Test.YteldgablpehcpaaGreatDoorTr
set_option linter.unusedVariables false
set_option linter.unusedSimpArgs false
set_option maxRecDepth 100000
set_option maxHeartbeats 8000000
namespace Go.Proofs.YteldgablpehcpaaGreatDoor
open Go.RowKit
theorem OZ{w:World}{a1 a2 a3:Option Addr}{c1 c2 c3:Nat}{x y z:BL}(h1:RowIs w a1 (bytesV x) c1)(h2:RowIs w a2 (bytesV y) c2)(h3:RowIs w a3 (bytesV z) c3):
  RbIs (w.alloc (.cells #[.slice a1 x.length c1,.slice a2 y.length c2,.slice a3 z.length c3] 22)) (some ⟨w.heap.size,0,none⟩) [x,y,z] 3:=
 have hA:Arr (w.alloc (.cells #[.slice a1 x.length c1,.slice a2 y.length c2,.slice a3 z.length c3] 22)) w.heap.size 22 [.slice a1 x.length c1,.slice a2 y.length c2,.slice a3 z.length c3]:=Arr.made _ _ _;have hb:Below w.heap.size w (w.alloc (.cells #[.slice a1 x.length c1,.slice a2 y.length c2,.slice a3 z.length c3] 22)):=qB.alloc qN _
 ⟨[.slice a1 x.length c1,.slice a2 y.length c2,.slice a3 z.length c3],⟨qS,by unfold maxLen;decide,fun h=>by(cases h),fun h0=>⟨w.heap.size,0,rfl,hA.lt,fun i v hv=>by rw[Nat.zero_add,hA.cell];exact hv⟩⟩,
  ((Els.one ⟨a1,c1,rfl,h1.later hb⟩).app (Els.one ⟨a2,c2,rfl,h2.later hb⟩)).app (Els.one ⟨a3,c3,rfl,h3.later hb⟩)⟩
theorem O3(Z:Array Value)(hZ:Z=(bytesV (List.replicate 32 0)).toArray)(hzs:∀w,Sem.run Tryz.prog (zeroValue 44) w=.ok (.agg Z) w)
  (b:BL) (o:Option Addr) (c:Nat) (w:World) (hR:RowIs w o (bytesV b) c) (hV:Cds w) (hl:b.length<=800000):
  Calls Tryz.prog 137 #[.slice o b.length c] w fun e w'=>e=.returned (.agg (bytesV (Da.lf b)).toArray)/\Below w.heap.size w w':=by
 obtain⟨g,hg⟩:=qM w.heap.size;obtain⟨W1,hW1⟩:=qM (w.alloc (Obj.cells Z 44));have hb1:Below w.heap.size w W1:=by rw[<-hW1];exact aH _ _
 have hA1:Arr W1 g 44 Z.toList:=by rw[<-hW1,<-hg];exact Arr.made _ _ _
 obtain⟨W2,hW2⟩:=qM (W1.alloc (.cells #[.int .u8 0] 5));have hb2:Below W1.heap.size W1 W2:=by rw[<-hW2];exact aH _ _
 have hr2:RowIs W2 (some ⟨W1.heap.size,0,none⟩) (bytesV [0]) 1:=by rw[<-hW2];exact Dh 0 W1
 have hB2:=Ks hb1 hb2;have hp:=ie hr2 (hR.later hB2);rw[show([0]:BL).length=1 from rfl]at hp;obtain⟨W3,hW3⟩:=qM (W2.alloc (.cells #[.slice (some ⟨W1.heap.size,0,none⟩) 1 1,.slice o b.length c] 22));have hb3:Below W2.heap.size W2 W3:=by rw[<-hW3];exact aH _ _
 rw[hW3]at hp;have hB3:=Ks hB2 hb3;have SO:=mN [[0],b] (some ⟨W2.heap.size,0,none⟩) 2 W3 hp (hV.later hB3) (by simp;omega) qS;rw[show([[0],b]:L8).flatten=0::b by simp,show([[0],b]:L8).length=2 from rfl,show Da.sha (0::b)=Da.lf b from rfl]at SO;obtain⟨F,hF⟩:=qM ((bytesV (Da.lf b)).toArray);have hFl:=Da.lQ b;have HFS:Hid ((Tryz.prog.info? 44).map (·.size)=some F.size):=Lh (by rw[bJ,<-hF];simp[hFl]);have HFO:Hid (F.all (·.oneCell')=true):=Lh (by rw[<-hF];exact all_oneCell_toArray (aG _));have HFZ:Hid (Z.size=F.size):=Lh (by rw[hZ,<-hF];simp[hFl]);rw[hF]at SO⊢;have HSO:=Lh SO;have HA3:=Lh (hA1.later (Ks hb2 hb3) hA1.lt);have HB3:=Lh hB3;have HW1:=Lh hW1;have HW2:=Lh hW2;have HW3:=Lh hW3;have HG:=Lh hg;obtain⟨L,hL⟩:=qM b.length;rw[hL]at HW3⊢;clear SO hp hr2 hb1 hb2 hb3 hB2 hB3 hW1 hW2 hW3 hR hL hl hF hV hA1 hFl hZ hg;go_enter Tryz.func137,Tryz.ntmps137
 go_upto_region 1 with fail
 rw[HW1.out,HG.out];apply wp_region_lit;refine qP ?_;rw[HW2.out];refine qP ?_;refine qP ?_;rw[HW3.out];refine wpList_plain rfl (fun K hK=>?_);go_simp;refine HSO.out.mono ?_;rintro e W4 ⟨rfl,hb4⟩;refine hK _ _ ?_;clear hK K HSO;have hA4:=HA3.out.later hb4 HA3.out.lt;have HA4:Hid (W4.heap[g]? =some (.cells Z 44 (0,0))):=Lh hA4;have HGW:Hid ((W4.setRow g F).heap[g]? =some (.cells F 44 (0,0))):=Lh (setRow_heap _ _ _ _ _ _ hA4);have HBW:Hid (Below w.heap.size w (W4.setRow g F)):=Lh ((Ks HB3.out hb4).trans (aA (Nat.le_of_eq HG.out)));clear hA4 hb4;refine wpList_store_row rfl 44 (.tmp 2) (.tmp 6) rfl g F rfl rfl 44 Z HA4.out HFS.out HFZ.out HFO.out ?_;go_wp2_with fail;refine bodyPost_ret (results_cell_row rfl _ _ g 44 F (0,0) _ rfl HGW.out au rfl HFS.out) rfl ?_;exact⟨rfl,HBW.out⟩
theorem Jk(b:BL)(o:Option Addr)(c:Nat)(w:World)(hR:RowIs w o (bytesV b) c)(hV:Cds w)(hl:b.length<=800000):
  Calls Tryz.prog 137 #[.slice o b.length c] w fun e w'=>e=.returned (.agg (bytesV (Da.lf b)).toArray)/\Below w.heap.size w w':=O3 _ rfl dg_zero b o c w hR hV hl
theorem E8(l r:BL)(hl:l.length=32)(hr:r.length=32)(w:World):
  Calls Tryz.prog 168 #[.agg (bytesV l).toArray,.agg (bytesV r).toArray] w fun e w'=>∃g cap,e=.returned (.slice (some ⟨g,0,none⟩) 65 cap)/\w.heap.size<=g/\Buf w' g cap (1::(l++r))/\Below w.heap.size w w':=by
 obtain⟨W1,hW1⟩:=qM (w.alloc (.cells (bytesV l).toArray 44));obtain⟨W2,hW2⟩:=qM (W1.alloc (.cells (bytesV r).toArray 44));have hb1:Below w.heap.size w W1:=by rw[<-hW1];exact aH _ _
 have hb2:Below W1.heap.size W1 W2:=by rw[<-hW2];exact aH _ _
 have hA1:Arr W1 w.heap.size 44 (bytesV l):=by rw[<-hW1];exact Arr.made _ _ _
 have hA2:Arr W2 W1.heap.size 44 (bytesV r):=by rw[<-hW2];exact Arr.made _ _ _
 obtain⟨W3,hW3⟩:=qM ((W2.alloc (.cells #[.int .u8 1] 5)).drew);have hb3:Below W2.heap.size W2 W3:=by rw[<-hW3];exact Kit.dn (aH W2 _) 1
 have hr3:RowIs W3 (some ⟨W2.heap.size,0,none⟩) (bytesV [1]) 1:=by rw[<-hW3];exact(Dh 1 W2).later (Kit.dn' _ 1)
 have hR1:=((hA1.later hb2 hA1.lt).later hb3 (Nat.lt_of_lt_of_le hA1.lt hb2.size)).row (by rw[hl];unfold maxLen;decide);have hR2:=(hA2.later hb3 hA2.lt).row (by rw[hr];unfold maxLen;decide);have hp:=OZ hr3 hR1 hR2;rw[show([1]:BL).length=1 from rfl,hl,hr]at hp;obtain⟨W4,hW4⟩:=qM (W3.alloc (.cells #[.slice (some ⟨W2.heap.size,0,none⟩) 1 1,.slice (some ⟨w.heap.size,0,none⟩) 32 32,.slice (some ⟨W1.heap.size,0,none⟩) 32 32] 22));have hb4:Below W3.heap.size W3 W4:=by rw[<-hW4];exact aH _ _
 rw[hW4]at hp;have hB4:=Ks (Ks (Ks hb1 hb2) hb3) hb4;have CA:=sK [[1],l,r] _ 3 3 W4 hp rfl qS (by simp;omega) qO;have hfl:([[1],l,r]:L8).flatten=1::(l++r):=qS;have hln:(1::(l++r):BL).length=65:=by simp;omega
 rw[hfl,hln]at CA;have HCA:=Lh CA;have HB4:=Lh hB4;have HW1:=Lh hW1;have HW2:=Lh hW2;have HW3:=Lh hW3;have hs1:W1.heap.size=w.heap.size+1:=by rw[<-hW1,World.size_alloc]
 rw[hs1]at hW4;clear hs1;have HW4:=Lh hW4;obtain⟨LA,hLA⟩:=qM ((bytesV l).toArray);obtain⟨RA,hRA⟩:=qM ((bytesV r).toArray);rw[hLA]at HW1⊢;rw[hRA]at HW2⊢;clear CA hp hr3 hb1 hb2 hb3 hb4 hB4 hW1 hW2 hW3 hW4 hLA hRA hA1 hA2 hR1 hR2 hfl hln hl hr;go_enter Tryz.func168,Tryz.ntmps168
 go_upto_region 1 with fail
 rw[HW1.out,HW2.out];refine wp_region_any qK ?_;change wpAny _ _ _ _ _ _ _ (World.drew _);refine wpAny_take (i:=1) (v:=?va1) rfl qK qK qK qI (Or.inl ⟨by rfl,?ha1⟩) ?ra1;case ha1=>(intro w;(go_simp<;>with_reducible rfl))
 refine wpAny_take (i:=2) (v:=?va2) rfl qK qK qK qI (Or.inl ⟨by rfl,?ha2⟩) ?ra2;case ha2=>(intro w;(go_simp<;>with_reducible rfl))
 refine wpAny_ready (rs:=[0]) qK qS ?_;refine AllReady.cons rfl (fun K hK=>?_) AllReady.nil;go_simp;rw[HW3.out];refine hK _ _ ?_;clear hK K;refine wpAny_ready (rs:=[3]) qK qS ?_;refine AllReady.cons rfl (fun K hK=>?_) AllReady.nil;go_simp;rw[HW4.out];refine hK _ _ ?_;clear hK K;refine wpAny_ready (rs:=[4]) qK qS ?_;refine AllReady.cons rfl (fun K hK=>?_) AllReady.nil;go_simp;refine HCA.out.mono ?_;rintro e W5 ⟨g,cap,rfl,hg,hbuf,hb5⟩;refine hK _ _ ?_;clear hK K;have HBF:=Lh hbuf;have HG:=Lh (Nat.le_trans HB4.out.size hg);have HB5:=Lh (Ks HB4.out hb5);clear hbuf hb5 hg HCA HW1 HW2 HW3 HW4 HB4;refine wpAny_ready (rs:=[5]) qK qS ?_;refine AllReady.cons rfl (fun K hK=>?_) AllReady.nil;go_simp;refine hK _ _ ?_;clear hK K;refine wpAny_done qK ?_ _;go_wp2_with fail;go_ret;exact⟨g,cap,rfl,HG.out,HBF.out,HB5.out⟩
theorem O4(Z:Array Value)(hZ:Z=(bytesV (List.replicate 32 0)).toArray)(hzs:∀w,Sem.run Tryz.prog (zeroValue 44) w=.ok (.agg Z) w)
  (l r:BL) (hl:l.length=32) (hr:r.length=32) (w:World) (hV:Cds w):
  Calls Tryz.prog 134 #[.agg (bytesV l).toArray,.agg (bytesV r).toArray] w fun e w'=>e=.returned (.agg (bytesV (Da.nd l r)).toArray)/\Below w.heap.size w w':=by
 obtain⟨W1,hW1⟩:=qM (w.alloc (.cells (bytesV l).toArray 44));obtain⟨W2,hW2⟩:=qM (W1.alloc (.cells (bytesV r).toArray 44));obtain⟨W3,hW3⟩:=qM (W2.alloc (.cells Z 44));have hb1:Below w.heap.size w W1:=by rw[<-hW1];exact aH _ _
 have hb2:Below W1.heap.size W1 W2:=by rw[<-hW2];exact aH _ _
 have hb3:Below W2.heap.size W2 W3:=by rw[<-hW3];exact aH _ _
 have hs1:W1.heap.size=w.heap.size+1:=by rw[<-hW1,World.size_alloc]
 have hs2:W2.heap.size=w.heap.size+1+1:=by rw[<-hW2,World.size_alloc,hs1]
 have hA1:Arr W1 w.heap.size 44 (bytesV l):=by rw[<-hW1];exact Arr.made _ _ _
 have hA2:Arr W2 W1.heap.size 44 (bytesV r):=by rw[<-hW2];exact Arr.made _ _ _
 have hA3:Arr W3 W2.heap.size 44 Z.toList:=by rw[<-hW3];exact Arr.made _ _ _
 have hA13:Arr W3 w.heap.size 44 (bytesV l):=hA1.later (Ks hb2 hb3) hA1.lt;have hA23:Arr W3 W1.heap.size 44 (bytesV r):=hA2.later hb3 hA2.lt;have hB3:=Ks (Ks hb1 hb2) hb3;have HV:=Lh (hV.later hB3);obtain⟨F,hF⟩:=qM ((bytesV (Da.nd l r)).toArray);have hFl:=Da.sJ l r;have HFS:Hid ((Tryz.prog.info? 44).map (·.size)=some F.size):=Lh (by rw[bJ,<-hF];simp[hFl]);have HFO:Hid (F.all (·.oneCell')=true):=Lh (by rw[<-hF];exact all_oneCell_toArray (aG _));have HFZ:Hid (Z.size=F.size):=Lh (by rw[hZ,<-hF];simp[hFl]);obtain⟨LA,hLA⟩:=qM ((bytesV l).toArray);obtain⟨RA,hRA⟩:=qM ((bytesV r).toArray);have HL1:Hid (W3.heap[w.heap.size]? =some (.cells LA 44 (0,0))):=Lh (by rw[<-hLA];exact hA13);have HL2:Hid (W3.heap[W1.heap.size]? =some (.cells RA 44 (0,0))):=Lh (by rw[<-hRA];exact hA23);have HLS:Hid ((Tryz.prog.info? 44).map (·.size)=some LA.size):=Lh (by rw[bJ,<-hLA];simp[hl]);have HRS:Hid ((Tryz.prog.info? 44).map (·.size)=some RA.size):=Lh (by rw[bJ,<-hRA];simp[hr]);have HA3:=Lh hA3;have HA13:=Lh hA13;have HA23:=Lh hA23;have HB3:=Lh hB3;rw[hs1,hs2]at*;have HW1:=Lh hW1;have HW2:=Lh hW2;have HW3:=Lh hW3;have HFF:=Lh hF;have HLA:=Lh hLA;have HRA:=Lh hRA;have HLL:=Lh hl;have HRL:=Lh hr;rw[hLA]at HW1⊢;rw[hRA]at HW2⊢;rw[hF];clear hb1 hb2 hb3 hB3 hs1 hs2 hW1 hW2 hW3 hLA hRA hF hA1 hA2 hA3 hA13 hA23 hFl hZ hl hr hV;go_enter Tryz.func134,Tryz.ntmps134
 go_upto_region 1 with fail
 rw[HW1.out,HW2.out,HW3.out];apply wp_region_lit;refine wpList_load_row rfl 44 (.tmp 2) rfl w.heap.size rfl 44 LA (0,0) _ HL1.out au rfl HLS.out ?_;refine wpList_load_row rfl 44 (.tmp 3) rfl (w.heap.size+1) rfl 44 RA (0,0) _ HL2.out au rfl HRS.out ?_;have IN:=E8 l r HLL.out HRL.out W3;rw[HLA.out,HRA.out]at IN;have HIN:=Lh IN;clear IN;refine wpList_plain rfl (fun K hK=>?_);go_simp;refine HIN.out.mono ?_;rintro e W4 ⟨g,cap,rfl,hg,hbuf,hb4⟩;refine hK _ _ ?_;clear hK K HIN;have hp:=jo hbuf.row;have hln:(1::(l++r):BL).length=65:=by simp[HLL.out,HRL.out]
 rw[hln]at hp;obtain⟨W5,hW5⟩:=qM (W4.alloc (.cells #[.slice (some ⟨g,0,none⟩) 65 cap] 22));have hb5:Below W4.heap.size W4 W5:=by rw[<-hW5];exact aH _ _
 rw[hW5]at hp;have hb45:=Ks hb4 hb5;have SO:=mN [1::(l++r)] (some ⟨W4.heap.size,0,none⟩) 1 W5 hp (HV.out.later hb45) (by simp[HLL.out,HRL.out]) qS;rw[show([1::(l++r)]:L8).flatten=1::(l++r) by simp,show Da.sha (1::(l++r))=Da.nd l r from rfl,HFF.out]at SO;have HSO:Hid (Calls Tryz.prog 33 #[.slice (some ⟨W4.heap.size,0,none⟩) 1 1] W5 fun e w'=>e=.returned (.agg F)/\Below W5.heap.size W5 w'):=Lh SO;have HW5:=Lh hW5;have HA5:=Lh (HA3.out.later hb45 HA3.out.lt);have HB5:=Lh (Ks HB3.out hb45);clear SO hp hln hW5 hb5 hb45 hbuf hb4 hg;refine qP ?_;rw[HW5.out];refine wpList_plain rfl (fun K hK=>?_);go_simp;refine HSO.out.mono ?_;rintro e W6 ⟨rfl,hb6⟩;refine hK _ _ ?_;clear hK K HSO;have hA6:=HA5.out.later hb6 HA5.out.lt;have HA6:Hid (W6.heap[w.heap.size+1+1]? =some (.cells Z 44 (0,0))):=Lh hA6;have HGW:Hid ((W6.setRow (w.heap.size+1+1) F).heap[w.heap.size+1+1]? =some (.cells F 44 (0,0))):=Lh (setRow_heap _ _ _ _ _ _ hA6);have HBW:Hid (Below w.heap.size w (W6.setRow (w.heap.size+1+1) F)):=Lh ((Ks HB5.out hb6).trans (aA qO));clear hA6 hb6;refine wpList_store_row rfl 44 (.tmp 4) (.tmp 9) rfl (w.heap.size+1+1) F rfl rfl 44 Z HA6.out HFS.out HFZ.out HFO.out ?_;go_wp2_with fail;refine bodyPost_ret (results_cell_row rfl _ _ (w.heap.size+1+1) 44 F (0,0) _ rfl HGW.out au rfl HFS.out) rfl ?_;exact⟨rfl,HBW.out⟩
theorem yN(l r:BL)(hl:l.length=32)(hr:r.length=32)(w:World)(hV:Cds w):
  Calls Tryz.prog 134 #[.agg (bytesV l).toArray,.agg (bytesV r).toArray] w fun e w'=>e=.returned (.agg (bytesV (Da.nd l r)).toArray)/\Below w.heap.size w w':=O4 _ rfl dg_zero l r hl hr w hV
namespace Da
def all32(ds:L8):Prop:=∀d∈ds,d.length=32
theorem all32.app{a b:L8}(h:all32 a)(k:all32 b):all32 (a++b):=fun d hd=>by
 rcases List.mem_append.1 hd with h1|h1
 ·exact h d h1
 ·exact k d h1
theorem all32.nil:all32 []:=fun d hd=>by cases hd
theorem all32.one{d:BL}(h:d.length=32):all32 [d]:=fun e he=>by rw[List.mem_singleton]at he;rw[he];exact h
theorem all32.take{a:L8}(h:all32 a)(n:Nat):all32 (a.take n):=fun d hd=>h d (List.mem_of_mem_take hd)
theorem all32.drop{a:L8}(h:all32 a)(n:Nat):all32 (a.drop n):=fun d hd=>h d (List.mem_of_mem_drop hd)
theorem all32.at_{a:L8}(h:all32 a){i:Nat}(hi:i<a.length):(bi a i).length=32:=by
 have e:bi a i=a[i]:=by simp[bi,hi]
 rw[e];exact h _ (List.getElem_mem hi)
theorem all32.lf(bs:L8):all32 (bs.map lf):=by
 intro d hd;obtain⟨b,_,rfl⟩:=List.mem_map.1 hd;exact lQ b
theorem lh{ds:L8}(h:all32 ds):ds.flatten.length=ds.length*32:=by
 induction ds with
 |nil=>rfl
 |cons d ds ih=>
  rw[List.flatten_cons,List.length_append,ih (fun e he=>h e (List.mem_cons_of_mem _ he)),h d qS,List.length_cons];omega
theorem SK{ds:L8}(h:all32 ds)(i j:Nat)(hi:i<ds.length)(hj:j<32):ds.flatten[i*32+j]? =(bi ds i)[j]? :=by
 induction ds generalizing i with
 |nil=>simp at hi
 |cons d ds ih=>
  have hd:=h d qS;rw[List.flatten_cons];cases i with
  |zero=>
   rw[List.getElem?_append_left qO];simp[bi]
  |succ i=>
   rw[List.getElem?_append_right qO,hd,show(i+1)*32+j-32=i*32+j by omega,ih (fun e he=>h e (List.mem_cons_of_mem _ he)) i (by simpa using hi)];simp[bi]
theorem Jn{ds:L8}(h:all32 ds)(k:Nat):(ds.drop k).flatten=ds.flatten.drop (k*32):=by
 by_cases hk:k<=ds.length
 ·have e:ds.flatten=(ds.take k).flatten++(ds.drop k).flatten:=by rw[<-List.flatten_append,List.take_append_drop]
  have hl:(ds.take k).flatten.length=k*32:=by rw[lh (h.take k),List.length_take];congr 1;omega
  rw[e,<-hl,List.drop_left]
 ·rw[List.drop_of_length_le qO,List.drop_of_length_le (by rw[lh h];omega)];rfl
theorem Jo{ds:L8}(h:all32 ds)(k:Nat):(ds.take k).flatten=ds.flatten.take (k*32):=by
 by_cases hk:k<=ds.length
 ·have e:ds.flatten=(ds.take k).flatten++(ds.drop k).flatten:=by rw[<-List.flatten_append,List.take_append_drop]
  have hl:(ds.take k).flatten.length=k*32:=by rw[lh (h.take k),List.length_take];congr 1;omega
  rw[e,<-hl,List.take_left]
 ·rw[List.take_of_length_le qO,List.take_of_length_le (by rw[lh h];omega)]
end Da
structure DgIs(W:World)(o:Option Addr)(ds:L8)(c:Nat):Prop where
 le:ds.length<=c
 cap:c<=maxLen
 nil:o=none->c=0
 all:Da.all32 ds
 cells:0<ds.length->∃b off,o=some ⟨b,off,none⟩/\b<W.heap.size/\W.rangeAt b off (bytesV ds.flatten)
theorem xA{W W':World}{b off:Nat}{cs:List Value}(h:W.rangeAt b off cs)(hb:Below W.heap.size W W')(hlt:b<W.heap.size):W'.rangeAt b off cs:=
 fun j v hv=>by rw[hb.cell (p:=⟨b,off+j,none⟩) hlt];exact h j v hv
theorem DgIs.later{W W':World}{o:Option Addr}{ds:L8}{c:Nat}(h:DgIs W o ds c)(hb:Below W.heap.size W W'):DgIs W' o ds c:=
 ⟨h.le,h.cap,h.nil,h.all,fun h0=>by
  obtain⟨b,off,e,hlt,hc⟩:=h.cells h0;exact⟨b,off,e,Nat.lt_of_lt_of_le hlt hb.size,xA hc hb hlt⟩⟩
theorem DgIs.at_{W:World}{o:Option Addr}{ds:L8}{c:Nat}(h:DgIs W o ds c)(i:Nat)(hi:i<ds.length):
  ∃b off,o=some ⟨b,off,none⟩/\b<W.heap.size/\W.rangeAt b (off+i*32) (bytesV (bi ds i)):=by
 obtain⟨b,off,e,hlt,hc⟩:=h.cells qO;refine⟨b,off,e,hlt,fun j v hv=>?_⟩;have hj:j<32:=by
  have:=(List.getElem?_eq_some_iff.1 hv).1;rw[bytesV_length,h.all.at_ hi]at this;exact this
 rw[Nat.add_assoc];refine hc _ v ?_;unfold bytesV at hv⊢;rw[List.getElem?_map]at hv⊢;rw[Da.SK h.all i j hi hj];exact hv
theorem DgIs.empty{W:World}(o:Option Addr)(c:Nat)(hc:c<=maxLen)(h:o=none->c=0):DgIs W o [] c:=⟨qS,hc,h,Da.all32.nil,fun h=>by simp at h⟩
theorem DgIs.part{W:World}{b off:Nat}{ds:L8}{c:Nat}(h:DgIs W (some ⟨b,off,none⟩) ds c)(k m:Nat)(hm:k+m<=ds.length)(c':Nat)(hc:m<=c')(hc2:c'<=maxLen):
  DgIs W (some ⟨b,off+k*32,none⟩) ((ds.drop k).take m) c':=
 ⟨by rw[List.length_take,List.length_drop];omega,hc2,(fun e=>by cases e),(h.all.drop k).take m,fun h0=>by
  rw[List.length_take,List.length_drop]at h0;obtain⟨b',off',e,hlt,hcl⟩:=h.cells qO;cases e
  refine⟨b,off+k*32,rfl,hlt,fun j v hv=>?_⟩;rw[Nat.add_assoc];refine hcl _ v ?_;rw[Da.Jo (h.all.drop k),Da.Jn h.all]at hv;unfold bytesV at hv⊢;rw[List.getElem?_map]at hv⊢;have hj:j<m*32:=by
   have:=hv;rw[List.getElem?_take]at this;by_cases hh:j<m*32
   ·exact hh
   ·simp[hh]at this
  rw[List.getElem?_take_of_lt hj,List.getElem?_drop]at hv;exact hv⟩
def dgI(T:TypeId):Prop:=(Tryz.prog.info? T).map (fun i=>(i.zero,i.size,i.bytes))=some (some (.agg (bytesV (List.replicate 32 0)).toArray),32,32)
theorem oD:dgI 44:=by unfold dgI;kernel_rfl
theorem jb{T:TypeId}(h:dgI T):∃i,Tryz.prog.info? T=some i/\i.zero=some (.agg (bytesV (List.replicate 32 0)).toArray)/\i.size=32/\i.bytes=32:=by
 unfold dgI at h;cases hi: Tryz.prog.info? T with
 |none=>rw[hi]at h;cases h
 |some i=>
  rw[hi]at h;simp only[Option.map_some,Option.some.injEq,Prod.mk.injEq]at h;exact⟨i,rfl,h.1,h.2.1,h.2.2⟩
theorem mn{T tS:TypeId}(hS: Tryz.prog.underlying tS=some (.slice T))(hT:dgI T)(D:Array Value)(hD:D.size=32)(w:World):
  (Instr.buildSlice tS 1 #[(0,.agg D)]).run Tryz.prog w=.ok (.slice (some ⟨w.heap.size,0,none⟩) 1 1) (w.alloc (.cells D T)):=by
 obtain⟨i,hi,hz,hs,hb⟩:=jb hT;refine run_buildSlice (P:= Tryz.prog) w tS T 1 #[(0,.agg D)] D i _ hS hi hz (by rw[hs];decide) (by rw[hs];decide) ?_;rw[hs];obtain⟨r,hr,hsz,hk⟩:=Great.fill_dense (s:=32) qD [Value.agg D] 0 ((Array.range (1*32)).map ((Value.agg (bytesV (List.replicate 32 0)).toArray).cells[· % (Value.agg (bytesV (List.replicate 32 0)).toArray).cells.size]!)) (by
  intro v hv;rw[List.mem_singleton]at hv;subst hv;exact hD) qS
 rw[show([Value.agg D].zipIdx 0).map (fun x=>(x.2,x.1))=[(0,Value.agg D)] from rfl]at hr;rw[show(#[((0:Nat),Value.agg D)]).toList=[(0,Value.agg D)] from rfl,hr];congr 1
 apply Array.ext_getElem?;intro k;rw[hk k];by_cases h:k<32
 ·rw[if_pos ⟨qO,by simpa using h⟩,show k / 32-0=0 by omega,show k % 32=k by omega];rfl
 ·rw[if_neg (by simp;omega)];have h1:D[k]? =none:=Array.getElem?_eq_none qO;rw[h1];exact Array.getElem?_eq_none (by simp;omega)
theorem Arr.rng{W:World}{b:Nat}{T:TypeId}{xs:List Value}(h:Arr W b T xs):W.rangeAt b 0 xs:=fun j v hv=>by rw[Nat.zero_add,h.cell];exact hv
theorem ky{T tS:TypeId}(hS: Tryz.prog.underlying tS=some (.slice T))(hT:dgI T)(ty:TypeId)(w:World)(base:Nat)(v:Value)(n:Nat)(xs:List Value)(hown:w.ownsRow base T 32 v n xs)
  (b:Nat) (d:BL) (hd:d.length=32) (h:w.rangeAt b 0 (bytesV d)) (hl:n<=1000000) (hbase:base<=w.heap.size):
  ∃g cap w',(Builtin.append_ #[tS,tS] ty #[v,.slice (some ⟨b,0,none⟩) 1 1]).run Tryz.prog w=.ok (.slice (some ⟨g,0,none⟩) (n+1) cap) w'/\w'.ownsRow base T 32 (.slice (some ⟨g,0,none⟩) (n+1) cap) (n+1) (xs++bytesV d)/\
   w.grownBy w' v.ownBlock/\(some g=v.ownBlock∨g=w.heap.size):=by
 obtain⟨i,hi,hz,hs,hb⟩:=jb hT;obtain⟨v',w',h1,h2,h3,_,h5⟩:=run_append_own_at (P:= Tryz.prog) w base tS ty T i _ 32 32 hS hi hz hs hb (by simp[Value.cells]) qD v n xs hown ⟨b,0,none⟩ 1 1 (bytesV d) (by simp[hd]) (fun j u hu=>by rw[Addr.add_mid];exact h j u hu) (aG _)
  (by unfold maxLen;omega) qO hbase
 rcases h2.2 with ⟨_,h0⟩|⟨g,cap,cur,rfl,hg,_⟩
 ·omega
 ·refine⟨g,cap,w',h1,h2,h3,?_⟩;rcases h5 with h5|h5
  ·exact .inl h5
  ·exact .inr (by simpa[Value.ownBlock]using h5)
theorem SQ{T:TypeId}{W:World}{base g n cap:Nat}{xs:List Value}(h:W.ownsRow base T 32 (.slice (some ⟨g,0,none⟩) (n+1) cap) (n+1) xs):W.ownsRow base T 32 (.slice (some ⟨g,0,none⟩) n cap) n (xs.take (n*32)):=by
 obtain⟨h1,h2⟩:=h;refine⟨by rw[List.length_take,h1];omega,?_⟩;rcases h2 with ⟨_,h0⟩|⟨g',cap',cur,e,hg,hh,hle,hm,hs,ht⟩
 ·omega
 ·cases e
  refine .inr ⟨g,cap,cur,rfl,hg,hh,qO,hm,hs,?_⟩;rw[<-ht,List.take_take];congr 1
  omega
theorem za{T:TypeId}{W:World}{base n:Nat}{v:Value}{ds:L8}(h:W.ownsRow base T 32 v n (bytesV ds.flatten))(ha:Da.all32 ds):n=ds.length/\∃o c,v=.slice o n c/\DgIs W o ds c:=by
 have hn:n=ds.length:=by
  have:=h.1;rw[bytesV_length,Da.lh ha]at this;omega
 refine⟨hn,?_⟩;rcases h.2 with ⟨rfl,h0⟩|⟨g,cap,cur,rfl,hg,hh,hle,hm,hs,ht⟩
 ·obtain rfl:ds=[]:=List.eq_nil_of_length_eq_zero qO;exact⟨none,0,by rw[h0],DgIs.empty none 0 (Nat.zero_le _) (fun _=>rfl)⟩
 ·refine⟨some ⟨g,0,none⟩,cap,rfl,qO,hm,(fun e=>by cases e),ha,fun _=>⟨g,0,rfl,(aE.1 hh).1,fun j u hu=>?_⟩⟩;rw[Nat.zero_add,cell_of_row _ _ _ _ _ _ hh];rw[<-ht,List.getElem?_take]at hu;split at hu
  ·simpa using hu
  ·cases hu
theorem j4{T:TypeId}{W:World}{base n:Nat}{v:Value}{xs:List Value}(h:W.ownsRow base T 32 v n xs):∀g,v.ownBlock=some g->base<=g/\∃cur,W.heap[g]? =some (.cells cur T (0,0)):=by
 intro g e;rcases h.2 with ⟨rfl,_⟩|⟨g',cap,cur,rfl,hg,hh,_⟩
 ·cases e
 ·cases e
  exact⟨hg,cur,hh⟩
section
attribute [local go_sem] Oper.semAt_some
def CE(k:Nat)(lb:Array Value)(ds:L8)(Pre:World->Prop):Prop:=
 ∀(l:Nat)(I:Nat->World->Prop)(B Bx:World->Prop)(w:World),(∀i X,I i X->Pre X)->(∀i X X',I i X->Below X.heap.size X X'->I i X')->(∀X X',B X->KeepsOthers X X'->B X')->
  (∀i X,I i X->B X->i<ds.length->YieldAt Fence.wide 0 Tryz.prog l #[.agg (bytesV (bi ds i)).toArray] X fun e X'=>(e=.returned (.bool true)/\I (i+1) X'/\B X')∨(e=.returned (.bool false)/\Bx X'))->
  I 0 w->B w->Calls Tryz.prog k (#[.func (.yield l) #[] #[]]++lb) w fun e X=>(∃v,e=.returned v)/\((I ds.length X/\B X)∨Bx X)
theorem rT(o:Option Addr)(n c:Nat)(w:World):
  Calls Tryz.prog 87 #[.slice o n c] w fun e w'=>e=.returned (.func (.func 136) #[] #[.pointer (some ⟨w.heap.size,0,none⟩)])/\w'=w.alloc (.cells #[.slice o n c] 27):=by
 have hmf:= @makes Tryz.prog;go_enter Tryz.func87,Tryz.ntmps87
 go_wp2
 go_ret;exact⟨rfl,rfl⟩
theorem Jq(o:Option Addr)(n c:Nat)(w:World):
  Calls Tryz.prog 169 #[.slice o n c] w fun e w'=>e=.returned (.func (.func 193) #[] #[.pointer (some ⟨w.heap.size,0,none⟩)])/\w'=w.alloc (.cells #[.slice o n c] 225):=by
 have hmf:= @makes Tryz.prog;go_enter Tryz.func169,Tryz.ntmps169
 go_wp2
 go_ret;exact⟨rfl,rfl⟩
theorem UP(bs:L8)(i:Nat)(h:i<bs.length):bi (bs.map Da.lf) i=Da.lf (bi bs i):=by simp[bi,h]
theorem pX(bs:L8)(o:Option Addr)(c Q:Nat)(hl:∀i,i<bs.length->(bi bs i).length<=800000):
  CE 136 #[.pointer (some ⟨Q,0,none⟩)] (bs.map Da.lf) (fun X=>Boxed X Q 27 (.slice o bs.length c)/\RbIs X o bs c/\Cds X):=by
 intro l I B Bx w hI hA hBk hturn h0 hB;refine(callsIn_wide (n:=0)).1 (callsIn_of_wp Tryz.func136 rfl trivial ?_ rfl);simp only[Tryz.ntmps136,List.size_toArray,List.length_cons,List.length_nil,Nat.reduceAdd,Nat.reduceSub,Array.replicate_succ,Array.replicate_zero,List.push_toArray,List.append_toArray,List.nil_append,List.cons_append];have hq:=(hI _ _ h0).1.cell;have hr0:=(hI _ _ h0).2.1;have hn:bs.length<=9223372036854775807:=by
  have h1:=hr0.le.1;have h2:=hr0.le.2;unfold maxLen at h2;omega
 rw[List.length_map]at hturn⊢;obtain⟨n,hnn⟩:=qM bs.length;rw[hnn]at hturn⊢;have HN:=Lh hnn;have HI:=Lh hI;have HT:=Lh hturn;have HA:=Lh hA;have HBK:=Lh hBk;have HL:=Lh hl;rw[hnn]at hq hn;clear hr0 hnn hI hturn hA hBk hl;gi_wp2
 gi_loopw [4,7] (fun _ p wr=>∃k:Nat,k<=n/\p=.int .i64 (k:Int)/\I k wr/\B wr) (fun _ p wr=>n-(intOf p).toNat)
 case atStart=>exact⟨0,Nat.zero_le _,rfl,h0,hB⟩
 case round=>
  obtain⟨k,hk,rfl,hi,hb⟩:=hrel;by_cases hlt:k<n
  ·have hr:=(HI.out _ _ hi).2.1;have hkd:k<bs.length:=by rw[HN.out];exact hlt
   obtain⟨b1,off1,p1,q1,rfl,hb1,hcell,hrow⟩:=hr.cell k hkd;have hm:=hr.le.2;have hle:=hr.le.1;rw[HN.out]at hle;unfold maxLen at hm;have LE:=Lh (Jk (bi bs k) p1 q1 wr hrow (HI.out _ _ hi).2.2 (HL.out k hkd));obtain⟨D,hD⟩:=qM ((bytesV (Da.lf (bi bs k))).toArray);rw[hD]at LE;have HD:=Lh hD;have HI1:=Lh hi;have HB1:=Lh hb;have HBL:=Lh (UP bs k hkd);obtain⟨L,hL⟩:=qM ((bi bs k).length);rw[hL]at LE hcell;clear hr hm hD hrow hi hb hL hkd;gi_upto_region 3 with fail
   refine wpIn_region_lit ?_;refine wpListIn_plain rfl (fun K hK=>Rf.ah ?_);go_simp;refine hK _ _ ?_;clear hK K;refine wpListIn_plain rfl (fun K hK=>Rf.ah ?_);go_simp;refine hK _ _ ?_;clear hK K;refine wpListIn_plain rfl (fun K hK=>Rf.ah ?_);go_simp;refine LE.out.mono ?_;rintro e X2 ⟨rfl,hbw⟩;refine hK _ _ ?_;clear hK K LE;have hi2:=HA.out _ _ _ HI1.out hbw;have hb2:=HBK.out _ _ HB1.out (bn hbw);have ht:=HT.out k _ hi2 hb2 hlt;rw[HBL.out,HD.out]at ht;obtain⟨fn,tmps,assign,body,hy,hR⟩:=ht;clear hbw hi2 hb2;gi_wp2
   refine⟨rfl,hR.mono ?_⟩;rintro e W3 (⟨rfl,hi3,hb3⟩|⟨rfl,hx3⟩)
   ·gi_wp2
    go_roundw
    case rel=>exact⟨k+1,qO,by go_num,hi3,hb3⟩
    case measure=>simp[intOf];omega
   ·gi_wp2
    refine bodyPost_ret (results_none rfl _ _ _) rfl ?_;exact⟨⟨_,rfl⟩,.inr hx3⟩
  ·obtain rfl:k=n:=qO;gi_wp2
   go_end0
   exact⟨⟨_,rfl⟩,.inl ⟨hi,hb⟩⟩
def Yf(k:Nat)(lb:Array Value)(ds:L8)(Pre:World->Prop):Prop:=
 ∀(l:Nat)(I:Nat->World->Prop)(B Bx:World->Prop)(w:World),(∀i X,I i X->Pre X)->(∀i X X',I i X->Below X.heap.size X X'->I i X')->(∀X X',B X->KeepsOthers X X'->B X')->
  (∀i X,I i X->B X->i<ds.length->YieldAt Fence.wide 0 Tryz.prog l #[.int .i64 ((ds.length-1-i:Nat):Int),.agg (bytesV (bi ds (ds.length-1-i))).toArray] X fun e X'=>(e=.returned (.bool true)/\I (i+1) X'/\B X')∨(e=.returned (.bool false)/\Bx X'))->
  I 0 w->B w->Calls Tryz.prog k (#[.func (.yield l) #[] #[]]++lb) w fun e X=>(∃v,e=.returned v)/\((I ds.length X/\B X)∨Bx X)
theorem Jr(ds:L8)(o:Option Addr)(c Q:Nat):
  Yf 193 #[.pointer (some ⟨Q,0,none⟩)] ds (fun X=>Boxed X Q 225 (.slice o ds.length c)/\DgIs X o ds c):=by
 intro l I B Bx w hI hA hBk hturn h0 hB;refine(callsIn_wide (n:=0)).1 (callsIn_of_wp Tryz.func193 rfl trivial ?_ rfl);simp only[Tryz.ntmps193,List.size_toArray,List.length_cons,List.length_nil,Nat.reduceAdd,Nat.reduceSub,Array.replicate_succ,Array.replicate_zero,List.push_toArray,List.append_toArray,List.nil_append,List.cons_append];have hq:=(hI _ _ h0).1.cell;have hr0:=(hI _ _ h0).2;have hn:ds.length<=9223372036854775807:=by
  have h1:=hr0.le;have h2:=hr0.cap;unfold maxLen at h2;omega
 obtain⟨n,hnn⟩:=qM ds.length;rw[hnn]at hturn⊢;have HN:=Lh hnn;have HI:=Lh hI;have HT:=Lh hturn;have HA:=Lh hA;have HBK:=Lh hBk;rw[hnn]at hq hn;clear hr0 hnn hI hturn hA hBk;gi_wp2
 gi_loopw [3] (fun p wr=>∃k:Nat,k<=n/\p=.int .i64 ((n:Int)-1-(k:Int))/\I k wr/\B wr) (fun p wr=>(intOf p+1).toNat)
 case atStart=>exact⟨0,Nat.zero_le _,by go_num,h0,hB⟩
 case round=>
  obtain⟨k,hk,rfl,hi,hb⟩:=hrel;by_cases hlt:k<n
  ·have hq2:=(HI.out _ _ hi).1.cell;have hr:=(HI.out _ _ hi).2;obtain⟨i,hie⟩:∃i,i=n-1-k:=⟨_,rfl⟩;have hkd:i<ds.length:=by rw[HN.out];omega
   obtain⟨b1,off1,rfl,hb1,hrng⟩:=hr.at_ i hkd;have hd:=hr.all.at_ hkd;have hm:=hr.cap;have hle:=hr.le;rw[HN.out]at hle hq2;unfold maxLen at hm;have HRS:Hid ((Tryz.prog.info? 44).map (·.size)=some (bytesV (bi ds i)).length):=Lh (by rw[bJ];simp[hd]);have ht:=HT.out k _ hi hb hlt;rw[<-hie]at ht;obtain⟨D,hD⟩:=qM ((bytesV (bi ds i)).toArray);rw[hD]at ht;obtain⟨fn,tmps,assign,body,hy,hR⟩:=ht;have HRNG:=Lh hrng;have HD:=Lh hD;have hin:((n:Int)-1-(k:Int))=(i:Int):=qO;rw[hin];have hin2:i<n:=qO;have HIN:=Lh hin;clear hr hrng hm hD hd hi hb hin hie hkd;gi_upto_region 3 with fail
   refine wpIn_region_lit ?_;refine wpListIn_plain rfl (fun K hK=>Rf.ah ?_);go_simp;refine hK _ _ ?_;clear hK K;refine wpListIn_plain rfl (fun K hK=>Rf.ah ?_);go_simp;refine hK _ _ ?_;clear hK K;refine wpListIn_plain rfl (fun K hK=>Rf.ah ?_);go_simp;refine hK _ _ ?_;clear hK K;refine wpListIn_plain rfl (fun K hK=>Rf.ah ?_);go_simp;refine hK _ _ ?_;clear hK K;refine wpListIn_plain rfl (fun K hK=>Rf.ah ?_);go_simp;refine hK _ _ ?_;clear hK K;refine wpListIn_plain rfl (fun K hK=>Rf.ah (wp_load_mid 44 (.tmp 15) rfl b1 (off1+i*32) rfl (bytesV (bi ds i)) _ HRNG.out au rfl HRS.out (hK _ _ ?_)));clear hK K;rw[HD.out];gi_wp2
   refine⟨rfl,hR.mono ?_⟩;rintro e W3 (⟨rfl,hi3,hb3⟩|⟨rfl,hx3⟩)
   ·gi_wp2
    go_roundw
    case rel=>exact⟨k+1,qO,by have:=HIN.out;go_num,hi3,hb3⟩
    case measure=>simp[intOf]<;>omega
   ·gi_wp2
    refine bodyPost_ret (results_none rfl _ _ _) rfl ?_;exact⟨⟨_,rfl⟩,.inr hx3⟩
  ·obtain rfl:k=n:=qO;have hd:decide ((k:Int)-1-(k:Int)>=0)=false:=by simp;omega
   gi_wp2
   go_end0
   exact⟨⟨_,rfl⟩,.inl ⟨hi,hb⟩⟩
end
namespace Da
def jf(us:L8)(d:BL)(k:Nat):BL:=(us.reverse.take k).foldl (fun x d=>nd d x) d
def jw(ws:L8):BL:=match ws.reverse with
 |[]=>sha []
 |d::r=>r.foldl (fun x d=>nd d x) d
theorem S0(us:L8)(d:BL):jf us d 0=d:=rfl
theorem Hb(us:L8)(d:BL)(k:Nat)(h:k<us.length):jf us d (k+1)=nd (bi us (us.length-1-k)) (jf us d k):=by
 unfold jf;rw[List.take_add_one,List.getElem?_reverse h,List.foldl_append];have e:us[us.length-1-k]? =some (bi us (us.length-1-k)):=by
  have:us.length-1-k<us.length:=qO;simp[bi,this]
 rw[e];rfl
theorem yO{us:L8}{d:BL}(hd:d.length=32)(k:Nat)(h:k<=us.length):(jf us d k).length=32:=by
 cases k with
 |zero=>exact hd
 |succ k=>rw[Hb us d k qO];exact sJ _ _
theorem Vs(ws:L8)(h:0<ws.length):jf (ws.take (ws.length-1)) (bi ws (ws.length-1)) (ws.length-1)=jw ws:=by
 rcases List.eq_nil_or_concat ws with rfl|⟨us,d,rfl⟩
 ·simp at h
 ·unfold jf jw;simp[bi];rw[List.take_of_length_le qS,List.foldl_reverse]
theorem O8{c:Nat}{rs:List L8}(h:Wt 0 c rs):jw (rs.reverse.map ov)=ov rs.reverse.flatten:=by
 unfold jw;rw[<-List.map_reverse,List.reverse_reverse];cases rs with
 |nil=>simp[Dc]
 |cons s r=>
  rw[List.map_cons];show(r.map ov).foldl (fun x d=>nd d x) (ov s)=_;rw[List.foldl_map];exact h.top s r rfl
end Da
section
attribute [local go_sem] Oper.semAt_some
theorem yP{W:World}{g:Nat}{old F:Array Value}{T:TypeId}{f:Nat×Nat}(h:W.heap[g]? =some (.cells old T f)):KeepsOthers W (W.setRow g F):=
 KeepsOthers.of_grownBy (i7 F) fun j o e ho=>by cases e;rw[h]at ho;cases ho;rfl
theorem Arr.nc{B:Nat}{X X':World}{b:Nat}{T:TypeId}{xs:List Value}(h:Arr X b T xs)(k:Rf.NC B X X'):Arr X' b T xs:=k.cells h
theorem kC{B:Nat}{X X':World}{b:Nat}{T:TypeId}{v:Value}(h:Boxed X b T v)(k:Rf.NC B X X'):Boxed X' b T v:=k.cells h
theorem Arr.row_ne{W:World}{b g:Nat}{T:TypeId}{xs:List Value}{F:Array Value}(h:Arr W b T xs)(hne:b≠g):Arr (W.setRow g F) b T xs:=by
 unfold Arr at*;rw[setRow_other W g b F hne];exact h
theorem Arr.row_same{W:World}{g:Nat}{T:TypeId}{xs ys:List Value}(h:Arr W g T xs):Arr (W.setRow g ys.toArray) g T ys:=setRow_heap _ _ _ _ _ _ h
theorem f9{W:World}{b g:Nat}{T:TypeId}{v:Value}{F:Array Value}(h:Boxed W b T v)(hne:b≠g):Boxed (W.setRow g F) b T v:=by
 unfold Boxed at*;rw[setRow_other W g b F hne];exact h
structure JnI(us:L8)(d:BL)(o:Option Addr)(c g b4 q:Nat)(w:World)(s:Nat)(X:World):Prop where
 le:s<=us.length
 cur:Arr X b4 44 (bytesV (Da.jf us d s))
 res:Arr X g 44 (bytesV (List.replicate 32 0))
 box:Boxed X q 225 (.slice o us.length c)
 below:Below w.heap.size w X
theorem JnI.nc{us:L8}{d:BL}{o:Option Addr}{c g b4 q B:Nat}{w X X':World}{s:Nat}(h:JnI us d o c g b4 q w s X)(k:Rf.NC B X X')(hB:w.heap.size<=B):JnI us d o c g b4 q w s X':=
 ⟨h.le,h.cur.nc k,h.res.nc k,kC h.box k,h.below.trans (k.below hB h.below.size)⟩
theorem JnI.later{us:L8}{d:BL}{o:Option Addr}{c g b4 q:Nat}{w X X':World}{s:Nat}(h:JnI us d o c g b4 q w s X)(hb:Below X.heap.size X X'):JnI us d o c g b4 q w s X':=
 ⟨h.le,h.cur.later hb h.cur.lt,h.res.later hb h.res.lt,aC h.box hb,Ks h.below hb⟩
theorem Ea(Z:Array Value)(hZ:Z=(bytesV (List.replicate 32 0)).toArray)(hzs:∀w,Sem.run Tryz.prog (zeroValue 44) w=.ok (.agg Z) w)
  (ws:L8) (o:Option Addr) (n c:Nat) (hn:ws.length=n) (w:World) (hR:DgIs w o ws c) (hV:Cds w) (hjl:(Da.jw ws).length=32):
  Calls Tryz.prog 135 #[.slice o n c] w fun e w'=>e=.returned (.agg (bytesV (Da.jw ws)).toArray)/\Below w.heap.size w w':=by
 obtain⟨g,hg⟩:=qM w.heap.size;obtain⟨W1,hW1⟩:=qM (w.alloc (Obj.cells Z 44));have hb1:Below w.heap.size w W1:=by rw[<-hW1];exact aH _ _
 have hs1:W1.heap.size=g+1:=by rw[<-hW1,World.size_alloc,hg]
 have hA1:Arr W1 g 44 (bytesV (List.replicate 32 0)):=by rw[<-hW1,hZ,<-hg];exact Arr.made _ _ _
 have hZs:Z.size=32:=by rw[hZ];simp
 obtain⟨F,hF⟩:=qM ((bytesV (Da.jw ws)).toArray);have hFs:F.size=32:=by rw[<-hF];simp[hjl]
 have HFS:Hid ((Tryz.prog.info? 44).map (·.size)=some F.size):=Lh (by rw[bJ,hFs]);have HFO:Hid (F.all (·.oneCell')=true):=Lh (by rw[<-hF];exact all_oneCell_toArray (aG _));have HFZ:Hid ((bytesV (List.replicate 32 0)).toArray.size=F.size):=Lh (by rw[hFs];simp);have HZS:=Lh hZs;have HF:=Lh hF;have HR:=Lh hR;have HV:=Lh hV;have HW1:=Lh hW1;have HB1:=Lh hb1;have HS1:=Lh hs1;have HA1:=Lh hA1;have HG:=Lh hg;have HZZ:=Lh hZ;have HN:=Lh hn;have hca:=hR.cap;have hcl:=hR.le;rw[hn]at hcl;unfold maxLen at hca;refine Rf.dh Tryz.func135 rfl ?_;simp only[Tryz.ntmps135,List.size_toArray,List.length_cons,List.length_nil,Nat.reduceAdd,Nat.reduceSub,Array.replicate_succ,Array.replicate_zero,List.push_toArray,List.append_toArray,List.nil_append,List.cons_append];clear hR hV hW1 hb1 hs1 hA1 hZ hF hFs hZs hg hn hjl;rw[HF.out];go_upto_region 1 with fail
 rw[HW1.out,HG.out];by_cases h0:n=0
 ·subst h0;obtain rfl:ws=[]:=List.eq_nil_of_length_eq_zero HN.out;have SO:=mN [] none 0 W1 (RbIs.empty none 0 (Nat.zero_le _) (fun _=>rfl)) (HV.out.later HB1.out) qS qS;rw[show Da.sha ([]:L8).flatten=Da.jw [] from rfl,HF.out,List.length_nil]at SO;have HSO:=Lh SO;clear SO;go_upto_region 2 with fail
  apply wp_region_lit;refine wpList_plain rfl (fun K hK=>?_);go_simp;refine HSO.out.mono ?_;rintro e W2 ⟨rfl,hb2⟩;refine hK _ _ ?_;clear hK K HSO;have hA2:=HA1.out.later hb2 HA1.out.lt;have HA2:Hid (W2.heap[g]? =some (.cells (bytesV (List.replicate 32 0)).toArray 44 (0,0))):=Lh hA2;have HGW:Hid ((W2.setRow g F).heap[g]? =some (.cells F 44 (0,0))):=Lh (setRow_heap _ _ _ _ _ _ hA2);have HBW:Hid (Below w.heap.size w (W2.setRow g F)):=Lh ((Ks HB1.out hb2).trans (aA (Nat.le_of_eq HG.out)));clear hA2 hb2;refine wpList_store_row rfl 44 (.tmp 2) (.tmp 10) rfl g F rfl rfl 44 (bytesV (List.replicate 32 0)).toArray HA2.out HFS.out HFZ.out HFO.out ?_;go_wp2_with fail;refine⟨_,results_cell_row rfl _ _ g 44 F (0,0) _ rfl HGW.out au rfl HFS.out,?_⟩;exact⟨rfl,HBW.out⟩
 obtain⟨m,rfl⟩:∃m,n=m+1:=⟨n-1,qO⟩;have hd1:decide ((((m+1:Nat):Int))=0)=false:=by simp;omega
 have hw1:IntKind.i64.wrap (((m+1:Nat):Int)-1)=(m:Int):=by rw[IntKind.wrap_i64];omega
 have hR1:=HR.out.later HB1.out;obtain⟨b1,off1,rfl,hlt1,hrng⟩:=hR1.at_ m (by rw[HN.out];omega);have hdl:=hR1.all.at_ (i:=m) (by rw[HN.out];omega);obtain⟨d,hd⟩:=qM (bi ws m);rw[hd]at hrng hdl;have HRS:Hid ((Tryz.prog.info? 44).map (·.size)=some (bytesV d).length):=Lh (by rw[bJ];simp[hdl]);obtain⟨D,hD⟩:=qM ((bytesV d).toArray);have HDS:Hid ((Tryz.prog.info? 44).map (·.size)=some D.size):=Lh (by rw[bJ,<-hD];simp[hdl]);have HDO:Hid (D.all (·.oneCell')=true):=Lh (by rw[<-hD];exact all_oneCell_toArray (aG _));have HDZ:Hid (Z.size=D.size):=Lh (by rw[HZS.out,<-hD];simp[hdl]);obtain⟨W2,hW2⟩:=qM (W1.alloc (.cells Z 44));obtain⟨W3,hW3⟩:=qM (W2.setRow W1.heap.size D);have hA2:Arr W2 W1.heap.size 44 Z.toList:=by rw[<-hW2];exact Arr.made _ _ _
 have hA3:Arr W3 W1.heap.size 44 (bytesV d):=by rw[<-hW3,<-hD];exact setRow_heap _ _ _ _ _ _ hA2
 have hb3:Below W1.heap.size W1 W3:=by rw[<-hW3,<-hW2];exact(aH _ _).trans (aA qN)
 obtain⟨W4,hW4⟩:=qM (W3.alloc (.cells #[.slice (some ⟨b1,off1,none⟩) m c] 225));have hb4:Below W3.heap.size W3 W4:=by rw[<-hW4];exact aH _ _
 have hX4:Boxed W4 W3.heap.size 225 (.slice (some ⟨b1,off1,none⟩) m c):=by rw[<-hW4];exact Boxed.new _ _ _
 have hs3:W3.heap.size=g+1+1:=by rw[<-hW3,setRow_size,<-hW2,World.size_alloc,HS1.out]
 have hA4:Arr W4 W1.heap.size 44 (bytesV d):=hA3.later hb4 hA3.lt;have hG4:Arr W4 g 44 (bytesV (List.replicate 32 0)):=(HA1.out.later hb3 HA1.out.lt).later hb4 (Nat.lt_of_lt_of_le HA1.out.lt hb3.size);have hB4:Below w.heap.size w W4:=Ks (Ks HB1.out hb3) hb4;obtain⟨us,hus⟩:=qM (ws.take m);have hul:us.length=m:=by rw[<-hus,List.length_take,HN.out];omega
 have hU:DgIs w (some ⟨b1,off1,none⟩) us c:=by
  have:=HR.out.part 0 m (by rw[HN.out];omega) c qO (by unfold maxLen;omega);rwa[Nat.zero_mul,Nat.add_zero,List.drop_zero,hus]at this
 have hJ:Da.jf us d m=Da.jw ws:=by
  have:=Da.Vs ws (by rw[HN.out];omega);rw[HN.out,show m+1-1=m by omega,hus,hd]at this;exact this
 rw[HS1.out]at hA2 hA3 hA4 hW3;rw[hs3]at hX4;have MB:=Lh (Jq (some ⟨b1,off1,none⟩) m c W3);rw[hs3,hW4]at MB;have HRNG:=Lh hrng;have HD:=Lh hD;have HA2:Hid (W2.heap[g+1]? =some (.cells Z 44 (0,0))):=Lh hA2;have HW2:=Lh hW2;have HW3:=Lh hW3;have HJ:=Lh hJ;have HUL:=Lh hul;have HU:=Lh hU;have HDL:=Lh hdl;have HI0:Hid (JnI us d (some ⟨b1,off1,none⟩) c g (g+1) (g+1+1) w 0 W4):=Lh ⟨Nat.zero_le _,by rw[Da.S0];exact hA4,hG4,by rw[hul];exact hX4,hB4⟩;have hlt9:(m:Int)<(m:Int)+1:=qO;clear hrng hd hD hA2 hA3 hb3 hb4 hX4 hs3 hA4 hG4 hB4 hus hul hU hJ hW2 hW3 hW4 hR1 hlt1 hdl;go_upto_region 4 with fail
 apply wp_region_lit;refine qP ?_;refine qP ?_;refine qP ?_;refine wpList_load_mid rfl 44 (.tmp 16) rfl b1 (off1+m*32) rfl (bytesV d) _ HRNG.out au rfl HRS.out ?_;rw[HD.out];refine qP ?_;rw[HW2.out,HS1.out];refine wpList_store_row rfl 44 (.tmp 4) (.tmp 17) rfl (g+1) D rfl rfl 44 Z HA2.out HDS.out HDZ.out HDO.out ?_;rw[HW3.out];go_wp2_with fail;refine MB.out.mono ?_;rintro e w4 ⟨rfl,rfl⟩;rename World=>W4
 clear MB HRNG HW2 HW3 HA2 HRS;go_wp2_with fail;refine Rf.nK (α:=Nat×BL) (σ:=Nat) rfl (enters_of Tryz.func193 qK rfl) (fun x=> #[.int .i64 x.1,.agg (bytesV x.2).toArray]) (fun _=>rfl)
  (JnI us d (some ⟨b1,off1,none⟩) c g (g+1) (g+1+1) w)
  (fun c X=>False)
  (fun s x s' X=>s'=s+1/\s<m/\x=(m-1-s,bi us (m-1-s)))
  0 (fun s=>s=m) ?hI ?hIx ?hV ?h0 ?hseq ?round ?done ?stop
 case hI=>exact fun s X X' h k=>h.nc k HI0.out.below.size
 case hIx=>exact fun c X X' h k=>h
 case hV=>exact fun s x s' X X' h k=>h
 case h0=>exact HI0.out
 case hseq=>
  intro l B Bx X hnc hi hB hk ht;have:=Jr us (some ⟨b1,off1,none⟩) c (g+1+1) l (JnI us d (some ⟨b1,off1,none⟩) c g (g+1) (g+1+1) w) B Bx X ?_ ?_ hk ?_ hi hB
  ·refine this.mono ?_;rintro e X' ⟨hv,(⟨h,hB⟩|hx)⟩
   ·exact⟨hv,.inl ⟨us.length,HUL.out,h,hB⟩⟩
   ·exact⟨hv,.inr hx⟩
  ·exact fun i X h=>⟨h.box,HU.out.later h.below⟩
  ·exact fun i X X' h hb=>h.later hb
  ·intro i X h hB hlt;rw[HUL.out]at hlt⊢;exact(ht i (m-1-i,bi us (m-1-i)) (i+1) X h hB ⟨rfl,hlt,rfl⟩).mono fun e X' h=>h.imp (fun h=>⟨h.1,h.2.1,h.2.2⟩) id
 case round=>
  rintro l s x s' X Z' To hI ⟨rfl,hlt,rfl⟩ hsz HN' HR' HE';have hmi:m-1-s<us.length:=by rw[HUL.out];omega
  have hel:=HU.out.all.at_ hmi;have hst:=Da.Hb us d s (by rw[HUL.out];exact hlt);rw[HUL.out]at hst;have hcl2:=Da.yO (us:=us) HDL.out s (by rw[HUL.out];omega);have hgl:=Da.yO (us:=us) HDL.out (s+1) (by rw[HUL.out];omega);obtain⟨e,he⟩:=qM (bi us (m-1-s));rw[he]at hel hst;rw[he];have NO:=Lh (fun(v:World)(hv:Cds v)=>yN e (Da.jf us d s) hel hcl2 v hv);rw[<-hst]at NO;obtain⟨E,hE⟩:=qM ((bytesV e).toArray);obtain⟨C,hC⟩:=qM ((bytesV (Da.jf us d s)).toArray);obtain⟨G,hG⟩:=qM ((bytesV (Da.jf us d (s+1))).toArray);rw[hE,hC,hG]at NO;have HES:Hid ((Tryz.prog.info? 44).map (·.size)=some E.size):=Lh (by rw[bJ,<-hE];simp[hel]);have HEO:Hid (E.all (·.oneCell')=true):=Lh (by rw[<-hE];exact all_oneCell_toArray (aG _));have HEZ:Hid (Z.size=E.size):=Lh (by rw[HZS.out,<-hE];simp[hel]);have HCS:Hid ((Tryz.prog.info? 44).map (·.size)=some C.size):=Lh (by rw[bJ,<-hC];simp[hcl2]);have HGS:Hid ((Tryz.prog.info? 44).map (·.size)=some G.size):=Lh (by rw[bJ,<-hG];simp[hgl]);have HGO:Hid (G.all (·.oneCell')=true):=Lh (by rw[<-hG];exact all_oneCell_toArray (aG _));have HGZ:Hid (C.size=G.size):=Lh (by rw[<-hC,<-hG];simp[hcl2,hgl]);have HE:=Lh hE;have HC:=Lh hC;have HG2:=Lh hG;have HSZ:=Lh hsz;have HII:=Lh hI;rw[hE];clear hmi hel hst hcl2 hgl he hE hC hG hsz hI;gi_upto_region 6 with fail
  refine Rf.plain_round qK (by rintro⟨a,w,h⟩;exact h) ?_;refine qP ?_;refine wpList_store_row rfl 44 (.tmp 6) (.tmp 23) rfl Z'.heap.size E rfl rfl 44 Z (World.alloc_heap_new Z' _) HES.out HEZ.out HEO.out ?_;refine wpList_nil ?_;refine⟨(aH _ _).trans (aA qN),fun Y hY hnew hsy=>?_⟩;have hY6:Y.heap[X.heap.size]? =some (.cells E 44 (0,0)):=by
   rw[hnew _ qN,<-HSZ.out];exact setRow_heap _ _ _ _ _ _ (World.alloc_heap_new Z' _)
  have hJ:=HII.out.later hY;have hcur:Y.heap[g+1]? =some (.cells C 44 (0,0)):=by rw[<-HC.out];exact hJ.cur
  have HNO:=Lh (NO.out Y (HV.out.later hJ.below));have HJJ:=Lh hJ;have HY:=Lh hY;have HY6:=Lh hY6;have HCUR:=Lh hcur;rw[HSZ.out];clear hY hnew hsy hY6 hJ hcur;gi_upto_region 7 with fail
  refine Rf.plain_round qK (by rintro⟨a,w,h⟩;exact h) ?_;refine wpList_load_row rfl 44 (.tmp 6) rfl X.heap.size rfl 44 E (0,0) _ HY6.out au rfl HES.out ?_;refine wpList_load_row rfl 44 (.tmp 4) rfl (g+1) rfl 44 C (0,0) _ HCUR.out au rfl HCS.out ?_;refine wpList_plain rfl (fun K hK=>?_);go_simp;refine HNO.out.mono ?_;rintro e' Y2 ⟨rfl,hb2⟩;refine hK _ _ ?_;clear hK K HNO;have hJ2:=HJJ.out.later hb2;have hc2:Y2.heap[g+1]? =some (.cells C 44 (0,0)):=by rw[<-HC.out];exact hJ2.cur
  have HC2:=Lh hc2;have HFI:Hid (KeepsOthers X (Y2.setRow (g+1) G)/\JnI us d (some ⟨b1,off1,none⟩) c g (g+1) (g+1+1) w (s+1) (Y2.setRow (g+1) G)):=Lh ⟨(bn HY.out).trans ((bn hb2).trans (yP hc2)),
   ⟨by rw[HUL.out];omega,by rw[<-HG2.out];exact hJ2.cur.row_same,hJ2.res.row_ne qO,f9 hJ2.box qO,hJ2.below.trans (aA (by have:=HG.out;omega))⟩⟩
  clear hb2 hJ2 hc2;refine wpList_store_row rfl 44 (.tmp 4) (.tmp 26) rfl (g+1) G rfl rfl 44 C HC2.out HGS.out HGZ.out HGO.out ?_;refine wpList_nil ?_;exact HN'.out _ _ HFI.out.1 HFI.out.2
 case done=>
  rintro D' s X hD' hs hI hK';rw[hs]at hI;have hcur:X.heap[g+1]? =some (.cells F 44 (0,0)):=by
   have:=hI.cur;rw[HJ.out]at this;unfold Arr at this;rw[HF.out]at this;exact this
  have hres:=hI.res;have hne:D'≠g:=fun e=>by
   subst e;rw[show X.heap[D']? =_ from hres]at hK';cases hK'
  have hK2:(X.setRow g F).heap[D']? =some (.deferred (some [])):=by rw[setRow_other X g D' F hne];exact hK'
  have HK2:=Lh hK2;have hg2:((X.setRow g F).putObj D' (.deferred none)).heap[g]? =some (.cells F 44 (0,0)):=by
   rw[World.putObj_heap_other qO];exact setRow_heap _ _ _ _ _ _ hres
  have HG2:=Lh hg2;have HBW:Hid (Below w.heap.size w ((X.setRow g F).putObj D' (.deferred none))):=Lh
   ((hI.below.trans (aA (Nat.le_of_eq HG.out))).trans (belowK_b (w:=w) qN (X.setRow g F) D' _ _ (by have:=HI0.out.below.size;omega) hK2 rfl rfl))
  have HCUR:=Lh hcur;have HRES:Hid (X.heap[g]? =some (.cells (bytesV (List.replicate 32 0)).toArray 44 (0,0))):=Lh hres;clear hcur hres hne hK2 hg2 hI hK';go_upto_region 8 with fail
  apply wp_region_lit;refine wpList_load_row rfl 44 (.tmp 4) rfl (g+1) rfl 44 F (0,0) _ HCUR.out au rfl HFS.out ?_;refine wpList_store_row rfl 44 (.tmp 2) (.tmp 27) rfl g F rfl rfl 44 (bytesV (List.replicate 32 0)).toArray HRES.out HFS.out HFZ.out HFO.out ?_;go_wp2_with fail;refine Rf.leaves HK2.out (results_cell_row rfl _ _ g 44 F (0,0) _ rfl HG2.out au rfl HFS.out) ?_;exact⟨rfl,HBW.out⟩
 case stop=>exact fun D c X hD h=>h.elim
theorem CG(ws:L8)(o:Option Addr)(n c:Nat)(hn:ws.length=n)(w:World)(hR:DgIs w o ws c)(hV:Cds w)(hjl:(Da.jw ws).length=32):
  Calls Tryz.prog 135 #[.slice o n c] w fun e w'=>e=.returned (.agg (bytesV (Da.jw ws)).toArray)/\Below w.heap.size w w':=Ea _ rfl dg_zero ws o n c hn w hR hV hjl
end
namespace Da
theorem all32.ovs{rs:List L8}(h:all32 rs.reverse.flatten):all32 (rs.reverse.map ov):=by
 intro d hd;obtain⟨s,hs,rfl⟩:=List.mem_map.1 hd;exact f8 fun e he=>h e (List.mem_flatten.2 ⟨s,hs,he⟩)
theorem Wt.keep{j c:Nat}{r:List L8}(h:Wt j c r):r.length<=c:=by
 induction h with
 |nil j=>exact Nat.le_refl _
 |even h ih=>omega
 |odd hs h ih=>simp;omega
end Da
section
attribute [local go_sem] Oper.semAt_some
def stk(rs:List L8):List Value:=bytesV (rs.reverse.map Da.ov).flatten
structure RtB(ds:L8)(g:Nat)(w:World)(s:Nat)(rs:List L8)(v:Value)(X:World):Prop where
 own:X.ownsRow (g+3) 44 32 v rs.length (stk rs)
 box:Boxed X (g+1) 225 v
 cnt:Boxed X (g+2) 3 (.int .i64 (s:Int))
 res:Arr X g 44 (bytesV (List.replicate 32 0))
 below:Below w.heap.size w X
 wg:w.heap.size<=g
structure RtI(ds:L8)(g:Nat)(w:World)(s:Nat)(rs:List L8)(v:Value)(X:World):Prop where
 b:RtB ds g w s rs v X
 le:s<=ds.length
 wt:Da.Wt 0 s rs
 flat:rs.reverse.flatten=ds.take s
theorem eT{X X':World}{T:TypeId}{base n sz:Nat}{v:Value}{xs:List Value}(h:X.ownsRow base T sz v n xs)(hb:Below X.heap.size X X'):X'.ownsRow base T sz v n xs:=
 World.ownsRow.kept (row:=none) h ⟨hb.os,hb.tape,hb.output,hb.size,fun i hi _=>hb.block i hi⟩ (by cases v.ownBlock<;>simp)
theorem RtB.nc{ds:L8}{g s B:Nat}{w X X':World}{rs:List L8}{v:Value}(h:RtB ds g w s rs v X)(k:Rf.NC B X X')(hB:w.heap.size<=B):RtB ds g w s rs v X':=
 ⟨k.owns h.own,kC h.box k,kC h.cnt k,h.res.nc k,h.below.trans (k.below hB h.below.size),h.wg⟩
theorem RtB.later{ds:L8}{g s:Nat}{w X X':World}{rs:List L8}{v:Value}(h:RtB ds g w s rs v X)(hb:Below X.heap.size X X'):RtB ds g w s rs v X':=
 ⟨eT h.own hb,aC h.box hb,aC h.cnt hb,h.res.later hb h.res.lt,Ks h.below hb,h.wg⟩
theorem RtB.size{ds:L8}{g s:Nat}{w X:World}{rs:List L8}{v:Value}(h:RtB ds g w s rs v X):g+3<=X.heap.size:=by
 have:=h.cnt.lt;omega
structure RtL(ds:L8)(g p:Nat)(w X:World)(s left:Nat)(rs:List L8)(cur:L8)(v:Value)(Y:World):Prop where
 b:RtB ds g w s rs v Y
 cell:Arr Y p 44 (bytesV (Da.ov cur))
 keep:KeepsOthers X Y
 apart:∀k,v.ownBlock=some k->k<p
 pg:g+3<=p
 flat:rs.reverse.flatten++cur=ds.take (s+1)
 lv:∃j,cur.length=2^j/\Da.Wt j left rs/\∀r,Da.Wt j (left+1) r->Da.Wt 0 (s+1) r
theorem RtL.later{ds:L8}{g p s left:Nat}{w X Y Y':World}{rs:List L8}{cur:L8}{v:Value}(h:RtL ds g p w X s left rs cur v Y)(hb:Below Y.heap.size Y Y'):RtL ds g p w X s left rs cur v Y':=
 ⟨h.b.later hb,h.cell.later hb h.cell.lt,h.keep.trans (bn hb),h.apart,h.pg,h.flat,h.lv⟩
theorem tw{ds:L8}(ha:Da.all32 ds){s:Nat}{rs:List L8}{cur:L8}(h:rs.reverse.flatten++cur=ds.take (s+1)):Da.all32 (rs.reverse.map Da.ov)/\(Da.ov cur).length=32:=by
 have h2:Da.all32 (rs.reverse.flatten++cur):=by rw[h];exact ha.take _
 exact⟨Da.all32.ovs fun d hd=>h2 d (List.mem_append_left _ hd),Da.f8 fun d hd=>h2 d (List.mem_append_right _ hd)⟩
theorem RtL.odd{ds:L8}{g p s left:Nat}{w X Y:World}{rs:List L8}{cur:L8}{v:Value}(h:RtL ds g p w X s left rs cur v Y)(ha:Da.all32 ds)(ho:left % 2=1):
  ∃(s0:L8)(r':List L8)(g' cap:Nat),rs=s0::r'/\v=.slice (some ⟨g',0,none⟩) (r'.length+1) cap/\r'.length+1<=cap/\cap<=maxLen/\Y.rangeAt g' (r'.length*32) (bytesV (Da.ov s0))/\(Da.ov s0).length=32/\
   Da.nd (Da.ov s0) (Da.ov cur)=Da.ov (s0++cur)/\(Da.ov (s0++cur)).length=32/\r'.length<left/\
   ∀Y',Below Y.heap.size Y Y'->RtL ds g p w X s (left / 2) r' (s0++cur) (.slice (some ⟨g',0,none⟩) r'.length cap) ((Y'.setRow p (bytesV (Da.ov (s0++cur))).toArray).setCell ⟨g+1,0,none⟩ (.slice (some ⟨g',0,none⟩) r'.length cap)):=by
 obtain⟨j,hc,hw,hr⟩:=h.lv;obtain⟨s0,r',rfl,hs0,hw'⟩:=hw.last ho;obtain⟨al,_⟩:=tw ha h.flat;have hov:=h.b.own;have hown:=za (T:= 44) h.b.own al;have e1:((s0::r').reverse.map Da.ov)=r'.reverse.map Da.ov++[Da.ov s0]:=qS;rcases hov.2 with ⟨_,h0⟩|⟨g',cap,cur',rfl,hg',hh,hle,hm,hs,ht⟩
 ·simp at h0
 obtain⟨_,o,c,e2,hd⟩:=hown;cases e2
 have hat:=hd.at_ r'.length (by rw[e1];simp);obtain⟨b1,off1,e3,hb1,hrng⟩:=hat;cases e3
 have e4:bi ((s0::r').reverse.map Da.ov) r'.length=Da.ov s0:=by rw[e1];simp[bi]
 rw[e4,Nat.zero_add]at hrng;have hl0:(Da.ov s0).length=32:=al _ (by rw[e1];simp);have hj:=Da.GW hs0 (a:=cur) (by rw[hc];exact Nat.two_pow_pos _) qO;have hfl:r'.reverse.flatten++(s0++cur)=ds.take (s+1):=by rw[<-h.flat];simp
 have hjl:=(tw ha hfl).2;have hkeep:=hw'.keep;have hlen:(s0::r').length=r'.length+1:=rfl;refine⟨s0,r',g',cap,rfl,by rw[hlen],by rw[<-hlen];exact hle,hm,hrng,hl0,hj.symm,hjl,qO,fun Y' hb=>?_⟩;have h2:=h.later hb;have hgp:g'<p:=h.apart g' rfl;have hcell:=h2.cell;have hr1:(Y'.setRow p (bytesV (Da.ov (s0++cur))).toArray).grownBy ((Y'.setRow p (bytesV (Da.ov (s0++cur))).toArray).setCell ⟨g+1,0,none⟩ (.slice (some ⟨g',0,none⟩) r'.length cap)) (some (g+1)):=grownBy_setCell' _ _ _;have hr0:Y'.grownBy (Y'.setRow p (bytesV (Da.ov (s0++cur))).toArray) (some p):=i7 _;have hpg:=h.pg;have own1:Y'.ownsRow (g+3) 44 32 (.slice (some ⟨g',0,none⟩) r'.length cap) r'.length (stk r'):=by
  have:=SQ h2.b.own;unfold stk at this⊢;rw[e1,List.flatten_append]at this;have hlen2:(bytesV (r'.reverse.map Da.ov).flatten).length=r'.length*32:=by
   rw[bytesV_length,Da.lh (fun d hd=>al d (by rw[e1];exact List.mem_append_left _ hd))];simp
  rw[pb,<-hlen2,List.take_left]at this;exact this
 have box1:Boxed (Y'.setRow p (bytesV (Da.ov (s0++cur))).toArray) (g+1) 225 _:=f9 h2.b.box qO;refine⟨⟨?_,box1.set _,?_,?_,?_,h.b.wg⟩,?_,?_,fun k e=>?_,hpg,hfl,j+1,by rw[List.length_append,hs0,hc,Nat.pow_succ];omega,hw',fun r hr'=>?_⟩
 ·exact World.ownsRow.kept (World.ownsRow.kept own1 hr0 (.inr (by simp[Value.ownBlock];omega))) hr1 (.inr (by simp[Value.ownBlock];omega))
 ·have:=f9 (F:=(bytesV (Da.ov (s0++cur))).toArray) h2.b.cnt (g:=p) qO;unfold Boxed at this⊢;rw[hr1.block _ (aE.1 this).1 qS];exact this
 ·have:=h2.b.res.row_ne (F:=(bytesV (Da.ov (s0++cur))).toArray) (g:=p) qO;unfold Arr at this⊢;rw[hr1.block _ (aE.1 this).1 qS];exact this
 ·have hgw:=h.b.wg;exact(h2.b.below.trans (aA qO)).setCell (p:=⟨g+1,0,none⟩) (by show w.heap.size<=g+1;omega) _
 ·have:=(hcell.row_same (ys:=bytesV (Da.ov (s0++cur))));unfold Arr at this⊢;rw[hr1.block _ (aE.1 this).1 (by simp;omega)];exact this
 ·exact h2.keep.trans ((yP hcell).trans (KeepsOthers.setCell _ _ _))
 ·cases e
  exact hgp
 ·refine hr r ?_;have e5:left=2*(left / 2)+1:=qO;have:=Da.Wt.even hr';rwa[show 2*(left / 2+1)=left+1 by omega]at this
theorem RtL.push{ds:L8}{g p s left:Nat}{w X Y Y1 Y2:World}{rs:List L8}{cur:L8}{v:Value}(h:RtL ds g p w X s left rs cur v Y)(hls:s<ds.length)(ho:left % 2=0)(hb:Below Y.heap.size Y Y1)
  {g2 cap2:Nat} (hown:Y2.ownsRow (g+3) 44 32 (.slice (some ⟨g2,0,none⟩) (rs.length+1) cap2) (rs.length+1) (stk rs++bytesV (Da.ov cur))) (hg:Y1.grownBy Y2 v.ownBlock):
  Boxed Y2 (g+1) 225 v/\Boxed (Y2.setCell ⟨g+1,0,none⟩ (.slice (some ⟨g2,0,none⟩) (rs.length+1) cap2)) (g+2) 3 (.int .i64 (s:Int))/\
  RtI ds g w (s+1) (cur::rs) (.slice (some ⟨g2,0,none⟩) (rs.length+1) cap2) ((Y2.setCell ⟨g+1,0,none⟩ (.slice (some ⟨g2,0,none⟩) (rs.length+1) cap2)).setCell ⟨g+2,0,none⟩ (.int .i64 ((s:Int)+1)))/\
  KeepsOthers X ((Y2.setCell ⟨g+1,0,none⟩ (.slice (some ⟨g2,0,none⟩) (rs.length+1) cap2)).setCell ⟨g+2,0,none⟩ (.int .i64 ((s:Int)+1))):=by
 have h1:=h.later hb;obtain⟨j,hc,hw,hr⟩:=h.lv;have hne:∀k,k<g+3->some k≠v.ownBlock:=fun k hk e=>by
  have:=(j4 h1.b.own k e.symm).1;omega
 have bx:∀k T u,k<g+3->Boxed Y1 k T u->Boxed Y2 k T u:=fun k T u hk hx=>by
  unfold Boxed at*;rw[hg.block k (aE.1 hx).1 (hne k hk)];exact hx
 have hbox:=bx _ _ _ qO h1.b.box;have hcnt:=bx _ _ _ qO h1.b.cnt;have hres:Arr Y2 g 44 (bytesV (List.replicate 32 0)):=by
  have hx:=h1.b.res;unfold Arr at*;rw[hg.block g (aE.1 hx).1 (hne g qO)];exact hx
 have k1:Y2.grownBy (Y2.setCell ⟨g+1,0,none⟩ (.slice (some ⟨g2,0,none⟩) (rs.length+1) cap2)) (some (g+1)):=grownBy_setCell' _ _ _;have hcnt1:Boxed (Y2.setCell ⟨g+1,0,none⟩ (.slice (some ⟨g2,0,none⟩) (rs.length+1) cap2)) (g+2) 3 (.int .i64 (s:Int)):=by
  unfold Boxed at*;rw[k1.block _ (aE.1 hcnt).1 qS];exact hcnt
 have k2:(Y2.setCell ⟨g+1,0,none⟩ (.slice (some ⟨g2,0,none⟩) (rs.length+1) cap2)).grownBy ((Y2.setCell ⟨g+1,0,none⟩ (.slice (some ⟨g2,0,none⟩) (rs.length+1) cap2)).setCell ⟨g+2,0,none⟩ (.int .i64 ((s:Int)+1))) (some (g+2)):=grownBy_setCell' _ _ _;have hg2:=(j4 hown g2 rfl).1;have hwg:=h.b.wg;refine⟨hbox,hcnt1,⟨⟨?_,?_,by have:=hcnt1.set (.int .i64 ((s:Int)+1));rwa[show((s:Int)+1)=((s+1:Nat):Int) by omega]at this⊢,?_,?_,hwg⟩,hls,?_,?_⟩,?_⟩
 ·have e:stk (cur::rs)=stk rs++bytesV (Da.ov cur):=by
   unfold stk;simp[bytesV]
  rw[e];exact World.ownsRow.kept (World.ownsRow.kept hown k1 (.inr (by simp[Value.ownBlock];omega))) k2 (.inr (by simp[Value.ownBlock];omega))
 ·have hb1:=hbox.set (.slice (some ⟨g2,0,none⟩) (rs.length+1) cap2);unfold Boxed at hb1⊢;rw[k2.block _ (aE.1 hb1).1 qS];exact hb1
 ·have hr1:Arr (Y2.setCell ⟨g+1,0,none⟩ (.slice (some ⟨g2,0,none⟩) (rs.length+1) cap2)) g 44 (bytesV (List.replicate 32 0)):=by
   unfold Arr at hres⊢;rw[k1.block _ (aE.1 hres).1 qS];exact hres
  unfold Arr at hr1⊢;rw[k2.block _ (aE.1 hr1).1 qS];exact hr1
 ·have b2:Below w.heap.size w Y2:=Below.grown h1.b.below hg (by have:=h1.b.below.size;omega) (fun k e=>by have:=(j4 h1.b.own k e).1;omega);exact(b2.setCell (p:=⟨g+1,0,none⟩) (by show w.heap.size<=g+1;omega) _).setCell (p:=⟨g+2,0,none⟩) (by show w.heap.size<=g+2;omega) _
 ·exact hr _ (hw.push ho hc)
 ·have:=h.flat;simpa using this
 ·refine h1.keep.trans ((KeepsOthers.of_grownBy hg fun k o e ho=>?_).trans ((KeepsOthers.setCell _ _ _).trans (KeepsOthers.setCell _ _ _)));obtain⟨_,cur',h2⟩:=j4 h1.b.own k e;rw[h2]at ho;cases ho
  rfl
theorem oH{o:Oper}{a:Act}{w:World}{K:Act->World->Prop}{Q:Exit->Act->World->Prop}(s x:Operand)(t:TypeId)(ho:o.op=.call {callee:=.builtin .append,args:=#[s,x],argTypes:=#[t,t]})(v y:Value)(hs:a.eval s=v)(hx:a.eval x=y)
  (v':Value) (w':World) (hrun:(Builtin.append_ #[t,t] o.type #[v,y]).run Tryz.prog w=.ok v' w') (h:K (a.put o.dst v') w'):o.wp Tryz.prog a w K Q:=by
 unfold Oper.wp execOp;simp only[ho,resolve,invoke,builtin,Sem.run_bind,Sem.run_pure,Result.andThen_ok,List.map_toArray,List.map_cons,List.map_nil,hs,hx,hrun];exact h
theorem qU{o:Oper}{a:Act}{w:World}{K:Act->World->Prop}{Q:Exit->Act->World->Prop}(t:TypeId)(len:Nat)(parts:Array (Nat×Operand))(ho:o.op=.buildSlice t len parts)(ps:Array (Nat×Value))(hp:(parts.map fun(i,x)=>(i,a.eval x))=ps)
  (v':Value) (w':World) (hrun:(Instr.buildSlice t len ps).run Tryz.prog w=.ok v' w') (h:K (a.put o.dst v') w'):o.wp Tryz.prog a w K Q:=by
 subst hp;unfold Oper.wp execOp;simp only[ho,Sem.run_bind,hrun,Result.andThen_ok];exact h
theorem Js(Z:Array Value)(hZ:Z=(bytesV (List.replicate 32 0)).toArray)(hzs:∀w,Sem.run Tryz.prog (zeroValue 44) w=.ok (.agg Z) w)
  (kf:Nat) (lb:Array Value) (ds:L8) (Pre:World->Prop) (hG:CE kf lb ds Pre) (ek:∀args w,(callFunc kf args).run Tryz.prog w=.ok (.enter kf args) w)
  (w:World) (hP:∀X,Below w.heap.size w X->Pre X) (hV:Cds w) (ha:Da.all32 ds) (hl:ds.length<=100000):
  Calls Tryz.prog 86 #[.func (.func kf) #[] lb] w fun e w'=>e=.returned (.agg (bytesV (Da.ov ds)).toArray)/\Below w.heap.size w w':=by
 obtain⟨g,hg⟩:=qM w.heap.size;obtain⟨W1,hW1⟩:=qM (w.alloc (Obj.cells Z 44));obtain⟨W2,hW2⟩:=qM (W1.alloc (.cells #[.slice none 0 0] 225));obtain⟨W3,hW3⟩:=qM (W2.alloc (.cells #[.int .i64 0] 3));have hb1:Below w.heap.size w W1:=by rw[<-hW1];exact aH _ _
 have hb2:Below W1.heap.size W1 W2:=by rw[<-hW2];exact aH _ _
 have hb3:Below W2.heap.size W2 W3:=by rw[<-hW3];exact aH _ _
 have hs1:W1.heap.size=g+1:=by rw[<-hW1,World.size_alloc,hg]
 have hs2:W2.heap.size=g+2:=by rw[<-hW2,World.size_alloc,hs1]
 have hs3:W3.heap.size=g+3:=by rw[<-hW3,World.size_alloc,hs2]
 have hA1:Arr W1 g 44 (bytesV (List.replicate 32 0)):=by rw[<-hW1,hZ,<-hg];exact Arr.made _ _ _
 have hX2:Boxed W2 (g+1) 225 (.slice none 0 0):=by rw[<-hW2,<-hs1];exact Boxed.new _ _ _
 have hX3:Boxed W3 (g+2) 3 (.int .i64 0):=by rw[<-hW3,<-hs2];exact Boxed.new _ _ _
 have hZs:Z.size=32:=by rw[hZ];simp
 have hol:=Da.f8 (l:=ds) ha;obtain⟨F,hF⟩:=qM ((bytesV (Da.ov ds)).toArray);have hFs:F.size=32:=by rw[<-hF];simp[hol]
 have HFS:Hid ((Tryz.prog.info? 44).map (·.size)=some F.size):=Lh (by rw[bJ,hFs]);have HFO:Hid (F.all (·.oneCell')=true):=Lh (by rw[<-hF];exact all_oneCell_toArray (aG _));have HFZ:Hid ((bytesV (List.replicate 32 0)).toArray.size=F.size):=Lh (by rw[hFs];simp);have HI0:Hid (RtI ds g w 0 [] (.slice none 0 0) W3):=Lh ⟨⟨World.ownsRow_nil _ _ _ _,aC hX2 hb3,hX3,(hA1.later hb2 hA1.lt).later hb3 (Nat.lt_of_lt_of_le hA1.lt hb2.size),Ks (Ks hb1 hb2) hb3,Nat.le_of_eq hg⟩,Nat.zero_le _,Da.Wt.nil 0,rfl⟩;have HGG:=Lh hG;have HEK:=Lh ek;have HP:=Lh hP;have HV:=Lh hV;have HAL:=Lh ha;have HZS:=Lh hZs;have HF:=Lh hF;have HW1:=Lh hW1;have HW2:=Lh hW2;have HW3:=Lh hW3;have HS1:=Lh hs1;have HS2:=Lh hs2;have HS3:=Lh hs3;have HG:=Lh hg;refine Rf.dh Tryz.func86 rfl ?_;simp only[Tryz.ntmps86,List.size_toArray,List.length_cons,List.length_nil,Nat.reduceAdd,Nat.reduceSub,Array.replicate_succ,Array.replicate_zero,List.push_toArray,List.append_toArray,List.nil_append,List.cons_append];rw[HF.out];obtain⟨N,hN⟩:=qM ds.length;have HN:=Lh hN;rw[hN]at hl;clear hG ek hP hV ha hZ hW1 hW2 hW3 hb1 hb2 hb3 hs1 hs2 hs3 hA1 hX2 hX3 hF hFs hg hol hZs hN;go_upto_region 1 with fail
 rw[HW1.out,HG.out];go_upto_region 2 with fail
 rw[HW2.out,HS1.out];go_upto_region 3 with fail
 rw[HW3.out,HS2.out];go_wp2_with fail;refine Rf.nK (α:=BL) (σ:=Nat) rfl HEK.out (fun x=> #[.agg (bytesV x).toArray]) (fun _=>rfl)
  (fun s X=>∃rs v,RtI ds g w s rs v X)
  (fun c X=>False)
  (fun s x s' X=>s'=s+1/\s<N/\x=bi ds s)
  0 (fun s=>s=N) ?hI ?hIx ?hV ?h0 ?hseq ?round ?done ?stop
 case hI=>exact fun s X X' ⟨rs,v,h⟩ k=>⟨rs,v,h.b.nc k (by have:=HI0.out.b.below.size;exact this),h.le,h.wt,h.flat⟩
 case hIx=>exact fun c X X' h k=>h
 case hV=>exact fun s x s' X X' h k=>h
 case h0=>exact⟨_,_,HI0.out⟩
 case hseq=>
  intro l B Bx X hnc hi hB hk ht;refine(HGG.out l (fun s X=>∃rs v,RtI ds g w s rs v X) B Bx X ?_ ?_ hk ?_ hi hB).mono ?_
  ·exact fun i X ⟨rs,v,h⟩=>HP.out X h.b.below
  ·exact fun i X X' ⟨rs,v,h⟩ hb=>⟨rs,v,h.b.later hb,h.le,h.wt,h.flat⟩
  ·intro i X h hB hlt;rw[HN.out]at hlt;exact(ht i (bi ds i) (i+1) X h hB ⟨rfl,hlt,rfl⟩).mono fun e X' h=>h.imp (fun h=>⟨h.1,h.2.1,h.2.2⟩) id
  ·rintro e X' ⟨hv,(⟨h,hB⟩|hx)⟩
   ·exact⟨hv,.inl ⟨ds.length,HN.out,h,hB⟩⟩
   ·exact⟨hv,.inr hx⟩
 case round=>
  rintro l s x s' X Z' To ⟨rs0,v0,hI⟩ ⟨rfl,hlt,rfl⟩ hsz HN' HR' HE';have hel:=HAL.out.at_ (i:=s) (by rw[HN.out];exact hlt);obtain⟨e,he⟩:=qM (bi ds s);have HEQ:=Lh he;rw[he]at hel;rw[he];obtain⟨E,hE⟩:=qM ((bytesV e).toArray);have HES:Hid ((Tryz.prog.info? 44).map (·.size)=some E.size):=Lh (by rw[bJ,<-hE];simp[hel]);have HEO:Hid (E.all (·.oneCell')=true):=Lh (by rw[<-hE];exact all_oneCell_toArray (aG _));have HEZ:Hid (Z.size=E.size):=Lh (by rw[HZS.out,<-hE];simp[hel]);have HE:=Lh hE;have HSZ:=Lh hsz;have HII:=Lh hI;rw[hE];clear hel he hE hsz hI;gi_upto_region 4 with fail
  refine Rf.plain_round qK (by rintro⟨a,w,h⟩;exact h) ?_;refine qP ?_;refine wpList_store_row rfl 44 (.tmp 5) (.tmp 9) rfl Z'.heap.size E rfl rfl 44 Z (World.alloc_heap_new Z' _) HES.out HEZ.out HEO.out ?_;refine wpList_nil ?_;refine⟨(aH _ _).trans (aA qN),fun Y hY hnew hsy=>?_⟩;rw[HSZ.out];obtain⟨p,hp⟩:=qM X.heap.size;have hL0:RtL ds g p w X s s rs0 [e] v0 Y:=by
   have hI:=HII.out;refine⟨hI.b.later hY,?_,bn hY,fun k e2=>?_,by rw[<-hp];exact hI.b.size,?_,0,rfl,hI.wt,fun r h=>h⟩
   ·rw[Da.Dd];unfold Arr;rw[<-hp,hnew _ qN,<-HSZ.out,HE.out];exact setRow_heap _ _ _ _ _ _ (World.alloc_heap_new Z' _)
   ·obtain⟨_,cur,h2⟩:=j4 hI.b.own k e2;rw[<-hp];exact(aE.1 h2).1
   ·rw[hI.flat,List.take_add_one];congr 1
    have:s<ds.length:=by rw[HN.out];exact hlt
    rw[<-HEQ.out];simp[bi,this]
  have hc4:=hL0.b.cnt.cell;rw[hp];have HL0:=Lh hL0;clear hY hnew hsy hL0 hp;gi_upto_region 6 with fail
  gi_loopw [6,7] (fun t6 _ wr=>∃(left:Nat)(rs:List L8)(cur:L8)(v:Value),t6=.int .i64 (left:Int)/\left<=N/\RtL ds g p w X s left rs cur v wr) (fun t6 _ _=>(intOf t6).toNat)
  case atStart=>exact⟨s,rs0,[e],v0,rfl,qO,HL0.out⟩
  case round=>
   rename World=>Y1
   obtain⟨left,rs,cur,v,rfl,hln,hL⟩:=hrel;have hc3:=hL.b.box.cell;have hLd:=hL.later (Kit.dn' Y1 1);by_cases ho:left % 2=1
   ·obtain⟨s0,r',g',cap,rfl,rfl,hrc,hcm,hrng,hl0,hnd,hjl,hrl,hnx⟩:=hLd.odd HAL.out ho;have hcl:=(tw HAL.out hLd.flat).2;have NO:=yN (Da.ov s0) (Da.ov cur) hl0 hcl Y1.drew (HV.out.later hLd.b.below);rw[hnd]at NO;have HLD:=Lh hLd;have hpg:=hLd.pg;obtain⟨m,hm⟩:=qM r'.length;rw[hm]at hrc hrng hrl hnx hc3 HLD hLd;obtain⟨A,hA⟩:=qM ((bytesV (Da.ov s0)).toArray);obtain⟨C,hC⟩:=qM ((bytesV (Da.ov cur)).toArray);obtain⟨G,hG⟩:=qM ((bytesV (Da.ov (s0++cur))).toArray);rw[hA,hC,hG]at NO;rw[hG]at hnx;have HCC:Hid (Y1.drew.heap[p]? =some (.cells C 44 (0,0))):=Lh (by rw[<-hC];exact hLd.cell);have HRS:Hid ((Tryz.prog.info? 44).map (·.size)=some (bytesV (Da.ov s0)).length):=Lh (by rw[bJ];simp[hl0]);have HCS:Hid ((Tryz.prog.info? 44).map (·.size)=some C.size):=Lh (by rw[bJ,<-hC];simp[hcl]);have HGS:Hid ((Tryz.prog.info? 44).map (·.size)=some G.size):=Lh (by rw[bJ,<-hG];simp[hjl]);have HGO:Hid (G.all (·.oneCell')=true):=Lh (by rw[<-hG];exact all_oneCell_toArray (aG _));have HGZ:Hid (C.size=G.size):=Lh (by rw[<-hC,<-hG];simp[hcl,hjl]);have HA:=Lh hA;have HC:=Lh hC;have HNO:=Lh NO;have HRNG:=Lh hrng;have HNX:=Lh hnx;have hrem:Int.tmod (left:Int) 2=1:=by rw[Int.tmod_eq_emod_of_nonneg qO];omega
    have hquo:Int.tdiv (left:Int) 2=((left / 2:Nat):Int):=by rw[Int.tdiv_eq_ediv_of_nonneg qO];omega
    have hc3d:Y1.drew.cell? ⟨g+1,0,none⟩=some (.slice (some ⟨g',0,none⟩) (m+1) cap):=hc3;have hml:(m:Int)<(m:Int)+1:=qO;have hw1:IntKind.i64.wrap (((m+1:Nat):Int)-1)=(m:Int):=by
     unfold maxLen at hcm;rw[IntKind.wrap_i64];omega
    unfold maxLen at hcm;clear hL hLd NO hl0 hcl hjl hnd hA hC hG hrng hnx hm;gi_upto_region 9 with fail
    refine Rf.gj qK qK ?_;refine wpAnyIn_take (i:=1) (v:=.int .i64 (m:Int)) rfl rfl qK qK qK qI ⟨Or.inl ⟨by rfl,fun w=>by go_simp⟩,fun _=>rfl⟩ ?_;refine wpAnyIn_ready (rs:=[0,4]) qK qS ?_;refine AllReadyIn.cons rfl (fun K hK=>?_) (AllReadyIn.cons rfl (fun K hK=>?_) AllReadyIn.nil)
    ·(go_simp;refine hK _ _ ?_;clear hK K)
     refine wpAnyIn_take (i:=2) (v:=.pointer (some ⟨g',m*32,none⟩)) rfl rfl qK qK qK qI ⟨Or.inl ⟨by rfl,fun w=>by go_simp⟩,fun _=>rfl⟩ ?_;refine wpAnyIn_ready (rs:=[3,4]) qK qS ?_;refine AllReadyIn.cons rfl (fun K hK=>?_) (AllReadyIn.cons rfl (fun K hK=>?_) AllReadyIn.nil)
     ·(rw[if_pos (by rfl)];refine Rf.ah (wp_load_mid 44 (.tmp 21) rfl g' (m*32) rfl (bytesV (Da.ov s0)) _ HRNG.out au rfl HRS.out (hK _ _ ?_));clear hK K;rw[HA.out])
      refine wpAnyIn_ready (rs:=[4]) qK qS ?_;refine AllReadyIn.cons rfl (fun K hK=>?_) AllReadyIn.nil
      (rw[if_pos (by rfl)];refine Rf.ah (wp_load_row 44 (.tmp 5) rfl p rfl 44 C (0,0) _ HCC.out au rfl HCS.out (hK _ _ ?_));clear hK K)
      refine wpAnyIn_ready (rs:=[5]) qK qS ?_;refine AllReadyIn.cons rfl (fun K hK=>?_) AllReadyIn.nil;rw[if_pos (by rfl)];refine Rf.ah ?_;go_simp;refine HNO.out.mono ?_;rintro e' Y2 ⟨rfl,hb2⟩;refine hK _ _ ?_;clear hK K;have hn2:=HNX.out Y2 hb2;have hc2:Y2.heap[p]? =some (.cells C 44 (0,0)):=by rw[<-HC.out];exact(HLD.out.later hb2).cell
      have hbx:=f9 (F:=G) (HLD.out.later hb2).b.box (g:=p) (by have:=HLD.out.pg;omega);have hc3':=hbx.cell;have hf3':=hbx.frozen;have HN2:=Lh hn2;have HC2:=Lh hc2;clear hn2 hc2 hb2 hbx;refine wpAnyIn_ready (rs:=[6]) qK qS ?_;refine AllReadyIn.cons rfl (fun K hK=>?_) AllReadyIn.nil;rw[if_pos (by rfl)];refine Rf.ah (wp_store_row 44 (.tmp 5) (.tmp 24) rfl p G rfl rfl 44 C HC2.out HGS.out HGZ.out HGO.out (hK _ _ ?_));clear hK K;refine wpAnyIn_done qK ?_ _;gi_wp2
      go_roundw
      case rel=>exact⟨left / 2,r',s0++cur,_,by go_num,qO,HN2.out⟩
      case measure=>simp[intOf];omega
     ·(rw[if_pos (by rfl)];refine Rf.ah (wp_load_row 44 (.tmp 5) rfl p rfl 44 C (0,0) _ HCC.out au rfl HCS.out (hK _ _ ?_));clear hK K)
      refine wpAnyIn_ready (rs:=[3]) qK qS ?_;refine AllReadyIn.cons rfl (fun K hK=>?_) AllReadyIn.nil
      (rw[if_pos (by rfl)];refine Rf.ah (wp_load_mid 44 (.tmp 21) rfl g' (m*32) rfl (bytesV (Da.ov s0)) _ HRNG.out au rfl HRS.out (hK _ _ ?_));clear hK K;rw[HA.out])
      refine wpAnyIn_ready (rs:=[5]) qK qS ?_;refine AllReadyIn.cons rfl (fun K hK=>?_) AllReadyIn.nil;rw[if_pos (by rfl)];refine Rf.ah ?_;go_simp;refine HNO.out.mono ?_;rintro e' Y2 ⟨rfl,hb2⟩;refine hK _ _ ?_;clear hK K;have hn2:=HNX.out Y2 hb2;have hc2:Y2.heap[p]? =some (.cells C 44 (0,0)):=by rw[<-HC.out];exact(HLD.out.later hb2).cell
      have hbx:=f9 (F:=G) (HLD.out.later hb2).b.box (g:=p) (by have:=HLD.out.pg;omega);have hc3':=hbx.cell;have hf3':=hbx.frozen;have HN2:=Lh hn2;have HC2:=Lh hc2;clear hn2 hc2 hb2 hbx;refine wpAnyIn_ready (rs:=[6]) qK qS ?_;refine AllReadyIn.cons rfl (fun K hK=>?_) AllReadyIn.nil;rw[if_pos (by rfl)];refine Rf.ah (wp_store_row 44 (.tmp 5) (.tmp 24) rfl p G rfl rfl 44 C HC2.out HGS.out HGZ.out HGO.out (hK _ _ ?_));clear hK K;refine wpAnyIn_done qK ?_ _;gi_wp2
      go_roundw
      case rel=>exact⟨left / 2,r',s0++cur,_,by go_num,qO,HN2.out⟩
      case measure=>simp[intOf];omega
    ·(rw[if_pos (by rfl)];refine Rf.ah (wp_load_row 44 (.tmp 5) rfl p rfl 44 C (0,0) _ HCC.out au rfl HCS.out (hK _ _ ?_));clear hK K)
     refine wpAnyIn_ready (rs:=[0]) qK qS ?_;refine AllReadyIn.cons rfl (fun K hK=>?_) AllReadyIn.nil;go_simp;refine hK _ _ ?_;clear hK K;refine wpAnyIn_take (i:=2) (v:=.pointer (some ⟨g',m*32,none⟩)) rfl rfl qK qK qK qI ⟨Or.inl ⟨by rfl,fun w=>by go_simp⟩,fun _=>rfl⟩ ?_;refine wpAnyIn_ready (rs:=[3]) qK qS ?_;refine AllReadyIn.cons rfl (fun K hK=>?_) AllReadyIn.nil
     (rw[if_pos (by rfl)];refine Rf.ah (wp_load_mid 44 (.tmp 21) rfl g' (m*32) rfl (bytesV (Da.ov s0)) _ HRNG.out au rfl HRS.out (hK _ _ ?_));clear hK K;rw[HA.out])
     refine wpAnyIn_ready (rs:=[5]) qK qS ?_;refine AllReadyIn.cons rfl (fun K hK=>?_) AllReadyIn.nil;rw[if_pos (by rfl)];refine Rf.ah ?_;go_simp;refine HNO.out.mono ?_;rintro e' Y2 ⟨rfl,hb2⟩;refine hK _ _ ?_;clear hK K;have hn2:=HNX.out Y2 hb2;have hc2:Y2.heap[p]? =some (.cells C 44 (0,0)):=by rw[<-HC.out];exact(HLD.out.later hb2).cell
     have hbx:=f9 (F:=G) (HLD.out.later hb2).b.box (g:=p) (by have:=HLD.out.pg;omega);have hc3':=hbx.cell;have hf3':=hbx.frozen;have HN2:=Lh hn2;have HC2:=Lh hc2;clear hn2 hc2 hb2 hbx;refine wpAnyIn_ready (rs:=[6]) qK qS ?_;refine AllReadyIn.cons rfl (fun K hK=>?_) AllReadyIn.nil;rw[if_pos (by rfl)];refine Rf.ah (wp_store_row 44 (.tmp 5) (.tmp 24) rfl p G rfl rfl 44 C HC2.out HGS.out HGZ.out HGO.out (hK _ _ ?_));clear hK K;refine wpAnyIn_done qK ?_ _;gi_wp2
     go_roundw
     case rel=>exact⟨left / 2,r',s0++cur,_,by go_num,qO,HN2.out⟩
     case measure=>simp[intOf];omega
   ·have hal:=tw HAL.out hL.flat;have ho':left % 2=0:=qO;obtain⟨C,hC⟩:=qM ((bytesV (Da.ov cur)).toArray);have hCs:C.size=32:=by rw[<-hC];simp[hal.2]
    have HCC:Hid (Y1.heap[p]? =some (.cells C 44 (0,0))):=Lh (by rw[<-hC];exact hL.cell);have HCS:Hid ((Tryz.prog.info? 44).map (·.size)=some C.size):=Lh (by rw[bJ,hCs]);have hbs:=mn (tS:= 225) Tryz.underlying225 oD C hCs Y1;have hba:=aH Y1 (.cells C 44);have hrow:(Y1.alloc (.cells C 44)).rangeAt Y1.heap.size 0 (bytesV (Da.ov cur)):=by rw[<-hC];exact(Arr.made Y1 44 (bytesV (Da.ov cur))).rng
    have hlw:rs.length<=left:=by obtain⟨j,_,h2,_⟩:=hL.lv;exact h2.keep
    obtain⟨g2,cap2,Y2,hrun,hown2,hgr2,_⟩:=ky (tS:= 225) Tryz.underlying225 oD 225 _ (g+3) v rs.length (stk rs) (eT hL.b.own hba) Y1.heap.size (Da.ov cur) hal.2 hrow qO (by have:=hL.b.size;have:=hba.size;omega);obtain⟨hbx,hcn,hRI,hKO⟩:=hL.push (by rw[HN.out];exact hlt) ho' hba hown2 hgr2;have hc4':=hcn.cell;have hf4':=hcn.frozen;have hc3':=hbx.cell;have hf3':=hbx.frozen;have HRUN:=Lh hrun;have HRI:=Lh hRI;have HKO:=Lh hKO;have hrem:Int.tmod (left:Int) 2=0:=by rw[Int.tmod_eq_emod_of_nonneg qO];omega
    have hw1:IntKind.i64.wrap ((s:Int)+1)=(s:Int)+1:=by rw[IntKind.wrap_i64];omega
    clear hL hLd hal hC hCs hba hrow hrun hown2 hgr2 hbx hcn hRI hKO;gi_upto_region 11 with fail
    refine wpIn_region_lit ?_;refine wpListIn_plain rfl (fun K hK=>Rf.je l (fun c h=>by cases h) ?_);go_simp;refine hK _ _ ?_;clear hK K;refine wpListIn_plain rfl (fun K hK=>Rf.je l (fun c h=>by cases h) (wp_load_row 44 (.tmp 5) rfl p rfl 44 C (0,0) _ HCC.out au rfl HCS.out (hK _ _ ?_)));clear hK K;refine wpListIn_plain rfl (fun K hK=>Rf.je l (fun c h=>by cases h) (qU 225 1 _ rfl #[(0,.agg C)] (by first|rfl|simp[Act.eval,Act.put]) _ _ hbs (hK _ _ ?_)));clear hK K;refine wpListIn_plain rfl (fun K hK=>Rf.je l (fun c h=>by cases h) (oH (.tmp 28) (.tmp 30) 225 rfl _ _ rfl rfl _ _ HRUN.out (hK _ _ ?_)));clear hK K hbs;refine wpListIn_plain rfl (fun K hK=>Rf.je l (fun c h=>by cases h) ?_);go_simp;refine hK _ _ ?_;clear hK K;refine wpListIn_nil ?_;gi_wp2
    exact HN'.out _ _ HKO.out ⟨_,_,HRI.out⟩
 case done=>
  rintro D' s X hD' hs ⟨rs,v,hI⟩ hK';have hfl:rs.reverse.flatten=ds:=by
   rw[hI.flat,hs,List.take_of_length_le (by rw[HN.out];exact Nat.le_refl _)]
  have hall:Da.all32 (rs.reverse.map Da.ov):=Da.all32.ovs (by rw[hfl];exact HAL.out);have hjw:Da.jw (rs.reverse.map Da.ov)=Da.ov ds:=by rw[Da.O8 hI.wt,hfl]
  obtain⟨hn,o,c,rfl,hdg⟩:=za hI.b.own hall;have JO:=CG (rs.reverse.map Da.ov) o rs.length c hn.symm X hdg (HV.out.later hI.b.below) (by rw[hjw];exact Da.f8 HAL.out);rw[hjw,HF.out]at JO;have hc3:=hI.b.box.cell;have HJO:=Lh JO;have HII:=Lh hI;have HKK:=Lh hK';have HS3':=HI0.out.b.below.size;clear hfl hall hjw hn hdg JO hI hK';go_upto_region 13 with fail
  apply wp_region_lit;refine qP ?_;refine wpList_plain rfl (fun K hK=>?_);go_simp;refine HJO.out.mono ?_;rintro e X2 ⟨rfl,hb2⟩;refine hK _ _ ?_;clear hK K HJO;have hres:=(HII.out.b.later hb2).res;have hK2:X2.heap[D']? =some (.deferred (some [])):=by rw[hb2.block _ (aE.1 HKK.out).1];exact HKK.out
  have hne:D'≠g:=fun e=>by
   subst e;rw[show X2.heap[D']? =_ from hres]at hK2;cases hK2
  have hK3:(X2.setRow g F).heap[D']? =some (.deferred (some [])):=by rw[setRow_other X2 g D' F hne];exact hK2
  have hg2:((X2.setRow g F).putObj D' (.deferred none)).heap[g]? =some (.cells F 44 (0,0)):=by
   rw[World.putObj_heap_other qO];exact setRow_heap _ _ _ _ _ _ hres
  have HBW:Hid (Below w.heap.size w ((X2.setRow g F).putObj D' (.deferred none))):=Lh
   ((((HII.out.b.later hb2).below).trans (aA (Nat.le_of_eq HG.out))).trans (belowK_b (w:=w) qN (X2.setRow g F) D' _ _ qO hK3 rfl rfl))
  have HK3:=Lh hK3;have HG2:=Lh hg2;have HRES:Hid (X2.heap[g]? =some (.cells (bytesV (List.replicate 32 0)).toArray 44 (0,0))):=Lh hres;clear hres hK2 hne hK3 hg2 hb2;refine wpList_store_row rfl 44 (.tmp 2) (.tmp 35) rfl g F rfl rfl 44 (bytesV (List.replicate 32 0)).toArray HRES.out HFS.out HFZ.out HFO.out ?_;go_wp2_with fail;refine Rf.leaves HK3.out (results_cell_row rfl _ _ g 44 F (0,0) _ rfl HG2.out au rfl HFS.out) ?_;exact⟨rfl,HBW.out⟩
 case stop=>exact fun D c X hD h=>h.elim
end
section
attribute [local go_sem] Oper.semAt_some
theorem wI(kf:Nat)(lb:Array Value)(ds:L8)(Pre:World->Prop)(hG:CE kf lb ds Pre)(ek:∀args w,(callFunc kf args).run Tryz.prog w=.ok (.enter kf args) w)
  (w:World) (hP:∀X,Below w.heap.size w X->Pre X) (hV:Cds w) (ha:Da.all32 ds) (hl:ds.length<=100000):
  Calls Tryz.prog 86 #[.func (.func kf) #[] lb] w fun e w'=>e=.returned (.agg (bytesV (Da.ov ds)).toArray)/\Below w.heap.size w w':=Js _ rfl dg_zero kf lb ds Pre hG ek w hP hV ha hl
theorem O9(Z:Array Value)(hZ:Z=(bytesV (List.replicate 32 0)).toArray)(hzs:∀w,Sem.run Tryz.prog (zeroValue 44) w=.ok (.agg Z) w)
  (bs:L8) (o:Option Addr) (n c:Nat) (hn:bs.length=n) (w:World) (hR:RbIs w o bs c) (hV:Cds w) (hl:bs.length<=100000) (hll:∀i,i<bs.length->(bi bs i).length<=800000):
  Calls Tryz.prog 45 #[.slice o n c] w fun e w'=>e=.returned (.agg (bytesV (Da.mth bs)).toArray)/\Below w.heap.size w w':=by
 obtain⟨g,hg⟩:=qM w.heap.size;obtain⟨W1,hW1⟩:=qM (w.alloc (Obj.cells Z 44));obtain⟨W2,hW2⟩:=qM (W1.alloc (.cells #[.slice o n c] 27));have hb1:Below w.heap.size w W1:=by rw[<-hW1];exact aH _ _
 have hb2:Below W1.heap.size W1 W2:=by rw[<-hW2];exact aH _ _
 have hA1:Arr W1 g 44 Z.toList:=by rw[<-hW1,<-hg];exact Arr.made _ _ _
 have hX2:Boxed W2 W1.heap.size 27 (.slice o n c):=by rw[<-hW2];exact Boxed.new _ _ _
 have hB2:=Ks hb1 hb2;have RO:=wI 136 #[.pointer (some ⟨W1.heap.size,0,none⟩)] (bs.map Da.lf) _ (pX bs o c W1.heap.size hll) (enters_of Tryz.func136 qK rfl) W2
  (fun X hb=>⟨by rw[hn];exact aC hX2 hb,(hR.later hB2).later hb,(hV.later hB2).later hb⟩) (hV.later hB2) (Da.all32.lf bs) (by rw[List.length_map];exact hl)
 rw[show Da.ov (bs.map Da.lf)=Da.mth bs from rfl]at RO;have hol:(Da.mth bs).length=32:=Da.gE bs;obtain⟨F,hF⟩:=qM ((bytesV (Da.mth bs)).toArray);have HFS:Hid ((Tryz.prog.info? 44).map (·.size)=some F.size):=Lh (by rw[bJ,<-hF];simp[hol]);have HFO:Hid (F.all (·.oneCell')=true):=Lh (by rw[<-hF];exact all_oneCell_toArray (aG _));have HFZ:Hid (Z.size=F.size):=Lh (by rw[hZ,<-hF];simp[hol]);rw[hF]at RO⊢;have MK:=Lh (rT o n c W1);rw[hW2]at MK;have HRO:=Lh RO;have HA2:=Lh (hA1.later hb2 hA1.lt);have HB2:=Lh hB2;have HW1:=Lh hW1;have HG:=Lh hg;clear RO hb1 hb2 hA1 hX2 hB2 hW1 hW2 hF hol hZ hR hV hl hn hg hll;go_enter Tryz.func45,Tryz.ntmps45
 go_upto_region 1 with fail
 rw[HW1.out,HG.out];apply wp_region_lit;refine qP ?_;refine wpList_plain rfl (fun K hK=>?_);go_simp;refine MK.out.mono ?_;rintro e w2 ⟨rfl,rfl⟩;refine hK _ _ ?_;clear hK K MK;refine wpList_plain rfl (fun K hK=>?_);go_simp;refine HRO.out.mono ?_;rintro e W3 ⟨rfl,hb3⟩;refine hK _ _ ?_;clear hK K HRO;have hA3:=HA2.out.later hb3 HA2.out.lt;have HA3:Hid (W3.heap[g]? =some (.cells Z 44 (0,0))):=Lh hA3;have HGW:Hid ((W3.setRow g F).heap[g]? =some (.cells F 44 (0,0))):=Lh (setRow_heap _ _ _ _ _ _ hA3);have HBW:Hid (Below w.heap.size w (W3.setRow g F)):=Lh ((Ks HB2.out hb3).trans (aA (Nat.le_of_eq HG.out)));clear hA3 hb3;refine wpList_store_row rfl 44 (.tmp 2) (.tmp 5) rfl g F rfl rfl 44 Z HA3.out HFS.out HFZ.out HFO.out ?_;go_wp2_with fail;refine bodyPost_ret (results_cell_row rfl _ _ g 44 F (0,0) _ rfl HGW.out au rfl HFS.out) rfl ?_;exact⟨rfl,HBW.out⟩
theorem Jt(bs:L8)(o:Option Addr)(n c:Nat)(hn:bs.length=n)(w:World)(hR:RbIs w o bs c)(hV:Cds w)(hl:bs.length<=100000)(hll:∀i,i<bs.length->(bi bs i).length<=800000):
  Calls Tryz.prog 45 #[.slice o n c] w fun e w'=>e=.returned (.agg (bytesV (Da.mth bs)).toArray)/\Below w.heap.size w w':=O9 _ rfl dg_zero bs o n c hn w hR hV hl hll
end
