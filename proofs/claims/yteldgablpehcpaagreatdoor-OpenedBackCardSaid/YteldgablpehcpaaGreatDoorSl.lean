/- Sl -/
import Derived.Test.YteldgablpehcpaaGreatDoorKit
import Derived.Lib.Hide
import Derived.Outline
import Derived.WalkSpells
import Derived.Laws.BytesArg
import Derived.BigQuiet
import Derived.Deep.SlicePairs
import Derived.SizedLaws
import Derived.Deep.Strs
set_option linter.unusedVariables false
set_option linter.unusedSimpArgs false
set_option maxRecDepth 100000
set_option maxHeartbeats 8000000
namespace Go.Proofs.YteldgablpehcpaaGreatDoor
open Go.ChangeShapes Go.WideShapes Go.ChangeAt Go.RowKit
structure RowIs(W:World)(o:Option Addr)(vs:List Value)(c:Nat):Prop where
 le:vs.length<=c
 cap:c<=maxLen
 nil:o=none->c=0
 cells:0<vs.length->∃b off,o=some ⟨b,off,none⟩/\b<W.heap.size/\∀i v,vs[i]? =some v->W.cell? ⟨b,off+i,none⟩=some v
theorem RowIs.later{W W':World}{o:Option Addr}{vs:List Value}{c:Nat}(h:RowIs W o vs c)(hb:Below W.heap.size W W'):RowIs W' o vs c:=
 ⟨h.le,h.cap,h.nil,fun h0=>by
  obtain⟨b,off,e,hlt,hc⟩:=h.cells h0;exact⟨b,off,e,Nat.lt_of_lt_of_le hlt hb.size,fun i v hv=>by rw[hb.cell (p:=⟨b,off+i,none⟩) hlt];exact hc i v hv⟩⟩
def bytesV(z:BL):List Value:=z.map fun x=>.int .u8 (x.toNat:Int)
def aF(z:List Int):List Value:=z.map (.int .i64)
@[simp] theorem bytesV_length(z:BL):(bytesV z).length=z.length:=by simp[bytesV]
@[simp] theorem bM(z:List Int):(aF z).length=z.length:=by simp[aF]
theorem aB(z:BL)(i:Nat)(h:i<z.length):(bytesV z)[i]? =some (.int .u8 ((z.getD i 0).toNat:Int)):=by
 simp[bytesV,h]
theorem gQ(z:List Int)(i:Nat)(h:i<z.length):(aF z)[i]? =some (.int .i64 (z.getD i 0)):=by
 simp[aF,h]
theorem aG(z:BL):∀u∈bytesV z,u.oneCell'=true:=by
 intro u hu;obtain⟨x,_,rfl⟩:=List.mem_map.1 hu;rfl
theorem LD{n:Int}(w:(Lit.int .u8 n).wf=true):0<=n/\n<=255:=by simpa[Lit.wf,IntKind.min,IntKind.max,IntKind.signed,IntKind.bits]using w
theorem i64_wf{n:Int}(w:(Lit.int .i64 n).wf=true): -9223372036854775808<=n/\n<=9223372036854775807:=by simpa[Lit.wf,IntKind.min,IntKind.max,IntKind.signed,IntKind.bits]using w
theorem ao:(Tryz.prog.info? 5).map (fun i=>(i.zero,i.size,i.bytes))=some (some (.int .u8 0),1,1):=qK
theorem RowIs.adds{W:World}{o:Option Addr}{vs:List Value}{c:Nat}(h:RowIs W o vs c):∀ad,o=some ad->∀j u,vs[j]? =some u->W.cell? (ad.add j)=some u:=by
 intro ad ha j u hu;have hj:=(List.getElem?_eq_some_iff.1 hu).1;obtain⟨b,off,ho,hb,hc⟩:=h.cells qO;rw[ha]at ho;obtain rfl:=Option.some.inj ho;rw[add_plain];exact hc j u hu
theorem fJ{P:Program}{W:World}{o:Option Addr}{z:BL}{c:Nat}(h:RowIs W o (bytesV z) c){src e dst:TypeId}(hs:P.underlying src=some (.slice e))(he:P.underlying e=some (.int .u8))(hd:P.underlying dst=some .string)(n:Nat):
  (convert src dst (.slice o z.length n)).run P W=.ok (.string ⟨z.toArray⟩) W:=by
 rw[run_convert_bytes_string W src dst e o z.length n hs he hd];cases o with
 |none=>
  have h0:=h.nil rfl;have hl:=h.le;have hz:z=[]:=by
   apply List.eq_nil_of_length_eq_zero;simp only[bytesV_length]at hl;omega
  subst hz;simp[Conv.bytesToString];rfl
 |some a=>
  have hl:(loadCells a z.length).run P W=.ok ((z.map fun x=>(x.toNat:Int)).map (Value.int .u8)).toArray W:=by
   have:=run_loadCells_list (P:=P) W a (bytesV z) (h.adds a rfl);simpa[bytesV,Function.comp_def]using this
  rw[run_bytesToString W a z.length n _ hl,foldl_push_bytes];simp[ByteArray.empty,ByteArray.emptyWithCapacity,Function.comp_def];rfl
def tL(v:Option Value):UInt8:=match v with
 |some (.int _ k)=>UInt8.ofNat k.toNat
 |_=>0
theorem uK{k:Int}(w:(Lit.int .u8 k).wf=true):((tL (some (.int .u8 k))).toNat:Int)=k:=by
 have:=LD w;simp only[tL,UInt8.toNat_ofNat'];omega
theorem open_u8arr{H:Type}{enc:TypeId×Value->H}{P:Program}{W:World}{r:Reach}{base b0:Nat}{sp:Nat->Bool}{hd:Bool}{t e:TypeId}{n:Nat}{v:Value}{d:DataW H}{p:List MemPlace}
  (ht:P.underlying t=some (.array n e)) (he:P.underlying e=some (.int .u8)) (hc:P.cellsOf e=1) (hn:P.cellsOf t=n) (hval:Value.okWide P W r base t v)
  (h:DataW.Trod enc P W b0 sp hd t v d p):∃s:BL,s.length=n/\v=.agg (bytesV s).toArray:=by
 obtain⟨cs,rfl,hsz⟩:∃cs,v=.agg cs/\cs.size=P.cellsOf t:=by
  simp only[Value.okWide,ht]at hval;obtain⟨cs,h1,h2,_⟩:=hval;exact⟨cs,h1,h2⟩
 obtain⟨fuel,hf⟩:=h;obtain⟨xs,m,rfl,hx,hl,hxl,hi⟩:=DataW.trod_array ht hf;have hcell:∀i,i<n->cs[i]? =some (.int .u8 ((tL cs[i]?).toNat:Int)):=fun i hin=>by
  have h1:=hi i hin;rw[hc,Nat.mul_one,List.getElem?_eq_getElem qO]at h1;obtain⟨k,hk,_,hw⟩:=DataW.trod_int he h1;have h2:(Value.agg cs).cells[i]? =some (.int .u8 k):=by
   have h3:=congrArg (fun l=>l[0]?) hk;simpa using h3
  have h4:cs[i]? =some (.int .u8 k):=by simpa[Value.cells]using h2
  rw[h4,uK hw]
 refine⟨(List.range n).map fun i=>tL cs[i]?,qS,?_⟩;congr 1
 apply Array.ext
 ·simp[hsz,hn]
 ·intro i h1 h2;have h3:=hcell i qO;rw[Array.getElem?_eq_getElem h1]at h3;simp only[bytesV,List.map_map,List.getElem_toArray,List.getElem_map,List.getElem_range,Function.comp];rw[Array.getElem?_eq_getElem h1];exact Option.some.inj h3
theorem jA{H:Type}{enc:TypeId×Value->H}{P:Program}{W:World}{fuel:Nat}{t e:TypeId}{c0:Value}{y:DataW H×List MemPlace}
  (ht:P.underlying t=some (.slice e)) (he:P.underlying e=some (.int .u8)) (hc:P.cellsOf e=1)
  (h:DataW.trod enc P W 0 (fun _=>true) true fuel t [c0]=some y) (hlt:∀x∈y.2,x.block<W.heap.size):
  ∃(o:Option Addr)(c:Nat)(z:BL),c0=.slice o z.length c/\RowIs W o (bytesV z) c:=by
 rcases open_ints ht he hc h with ⟨hcs,hx⟩|⟨a,len,cap,zs,hcs,_,hl,hm,hz,hx,hcell,hwz⟩
 ·simp at hcs;subst hcs;exact⟨none,0,[],rfl,⟨Nat.le_refl _,Nat.zero_le _,fun _=>rfl,fun h=>absurd h qS⟩⟩
 ·simp at hcs;subst hcs;subst hx;simp only[if_true]at hz;have hlen:(zs.take len).length=len:=by simp;omega
  have e:∀n∈zs,((UInt8.ofNat n.toNat).toNat:Int)=n:=fun n hn=>by
   have:=LD (hwz n hn);simp only[UInt8.toNat_ofNat'];omega
  refine⟨some a,cap,(zs.take len).map fun n=>UInt8.ofNat n.toNat,by rw[List.length_map,hlen],⟨by simp;omega,hm,(fun h=>by cases h),fun h0=>?_⟩⟩;have h1:0<len:=by simp at h0;omega
  obtain⟨b,off,spot⟩:=a;have hspot:spot=none:=by simpa[Addr.add]using World.cell?_spot (hcell 0 qO)
  subst hspot;refine⟨b,off,rfl,hlt (.cell b off) (MemPlace.mem_row.2 ⟨0,qO,qS⟩),fun i v hv=>?_⟩;have hi:i<len:=by
   have:=(List.getElem?_eq_some_iff.1 hv).1;simp at this;omega
  have hc2:=hcell i qO;rw[add_plain]at hc2;rw[hc2,<-hv];have hi2:i<zs.length:=qO;unfold bytesV;rw[List.getElem?_map,List.getElem?_map,List.getElem?_take_of_lt hi,List.getElem?_eq_getElem hi2];simp only[Option.map_some];rw[e _ (List.getElem_mem hi2)];simp[List.getElem?_eq_getElem hi2]
