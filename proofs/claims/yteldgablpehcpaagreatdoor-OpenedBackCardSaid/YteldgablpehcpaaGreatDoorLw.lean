/- Lw -/
import Derived.Laws.IdiomCopy
import Derived.Test.YteldgablpehcpaaGreatDoorShu
set_option linter.unusedVariables false
set_option linter.unusedSimpArgs false
set_option maxRecDepth 100000
set_option maxHeartbeats 8000000
namespace Go.Proofs.YteldgablpehcpaaGreatDoor
open Go.RowKit
def Sl5(xs:List Value):Prop:=∃(o0 o1 o2 o3 o4:Option Addr)(l0 l1 l2 l3 l4 c0 c1 c2 c3 c4:Nat),xs=[.slice o0 l0 c0,.slice o1 l1 c1,.slice o2 l2 c2,.slice o3 l3 c3,.slice o4 l4 c4]
theorem Els.five{W:World}{bs:L8}{xs:List Value}(h:Els W bs xs)(hl:bs.length=5):Sl5 xs:=by
 have hx:xs.length=5:=h.len.trans hl
 match xs,hx with
 |[x0,x1,x2,x3,x4],_=>
  obtain⟨y0,e0,o0,c0,r0,_⟩:=h.get 0 qO;obtain⟨y1,e1,o1,c1,r1,_⟩:=h.get 1 qO;obtain⟨y2,e2,o2,c2,r2,_⟩:=h.get 2 qO;obtain⟨y3,e3,o3,c3,r3,_⟩:=h.get 3 qO;obtain⟨y4,e4,o4,c4,r4,_⟩:=h.get 4 qO;simp at e0 e1 e2 e3 e4;subst e0 e1 e2 e3 e4;exact⟨o0,o1,o2,o3,o4,_,_,_,_,_,c0,c1,c2,c3,c4,by rw[r0,r1,r2,r3,r4]⟩
namespace Da
def pk(l:L8)(q:Nat):L8:=(List.range 5).map fun i=>if i<q then bi l i else[]
def lb(q:Nat):ByteArray:=match q with
 |0=>⟨#[109,97,115,107]⟩
 |1=>⟨#[112,108,97,99,101]⟩
 |2=>⟨#[115,101,110,116,105,110,101,108]⟩
 |3=>⟨#[116,97,103]⟩
 |_=>⟨#[115,112,111,116]⟩
end Da
theorem Ev{W:World}{z:BL}{ad:Addr}{c b:Nat}{T:TypeId}{xs:List Value}(hr:RowIs W (some ad) (bytesV z) c)(h0:0<z.length)(hA:Arr W b T xs)(hx:∀v∈xs,∃o l c,v=.slice o l c):ad.block≠b:=fun e=>by
 obtain⟨b',off,e2,_,hc⟩:=hr.cells (by rw[bytesV_length];exact h0);obtain rfl:=Option.some.inj e2;have h1:=hc 0 _ (aB z 0 h0);subst e;rw[hA.cell]at h1;obtain⟨o,l,c',h2⟩:=hx _ (List.mem_of_getElem? h1);cases h2
theorem RowV.putArr{W W':World}{z:BL}{x:Value}{b:Nat}{T:TypeId}{xs:List Value}(hr:RowV z x W)(hA:Arr W b T xs)(hx:∀v∈xs,∃o l c,v=.slice o l c)(hg:W.grownBy W' (some b)):RowV z x W':=by
 obtain⟨o,c,rfl,hr⟩:=hr;refine⟨o,c,rfl,hr.kept hg fun h0 ad e=>?_⟩;subst e;rw[bytesV_length]at h0;exact fun e=>Ev hr h0 hA hx (Option.some.inj e)
theorem Els.putArr{W W':World}{bs:L8}{ys:List Value}{b:Nat}{T:TypeId}{xs:List Value}(h:Els W bs ys)(hA:Arr W b T xs)(hx:∀v∈xs,∃o l c,v=.slice o l c)(hg:W.grownBy W' (some b)):Els W' bs ys:=
 ⟨h.len,fun i x hi=>(h.at_ i x hi).putArr hA hx hg⟩
theorem Els.set{W:World}{bs:L8}{xs:List Value}(h:Els W bs xs)(i:Nat){b:BL}{v:Value}(hv:RowV b v W):Els W (bs.set i b) (xs.set i v):=by
 refine⟨by simp[h.len],fun j x hx=>?_⟩;have hl:=h.len;have hj:j<xs.length:=by have:=(List.getElem?_eq_some_iff.1 hx).1;simpa using this
 rw[List.getElem?_set]at hx;by_cases e:i=j
 ·subst e;rw[if_pos rfl,if_pos hj]at hx;obtain rfl:=Option.some.inj hx;have:bi (bs.set i b) i=b:=by simp[bi,List.getD,show i<bs.length by omega]
  rw[this];exact hv
 ·rw[if_neg e]at hx;have:bi (bs.set i b) j=bi bs j:=by simp[bi,List.getD,List.getElem?_set_ne e]
  rw[this];exact h.at_ j x hx
theorem Els.slices{W:World}{bs:L8}{xs:List Value}(h:Els W bs xs):∀v∈xs,∃o l c,v=.slice o l c:=fun v hv=>by
 obtain⟨i,hi,rfl⟩:=List.mem_iff_getElem.1 hv;obtain⟨o,c,e,_⟩:=h.at_ i _ (List.getElem?_eq_getElem hi);exact⟨o,_,c,e⟩
theorem pT{P:Program}{ops:Array Oper}{Q:Exit->Act->World->Prop}{i:Nat}{o:Oper}{b:Act}{v:World}{K:Act->World->Prop}(ho:ops[i]? =some o)(hg:o.guard=none)(h:o.wp P b v K Q):wpOp P ops Q i K b v:=by
 unfold wpOp;rw[ho];dsimp only;rw[if_pos (by simp[Region.wanted,hg])];exact .inl h
