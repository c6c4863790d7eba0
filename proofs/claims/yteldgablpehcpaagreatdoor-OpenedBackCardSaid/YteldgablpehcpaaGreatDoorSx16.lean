/- Sx16 -/
import Derived.Test.YteldgablpehcpaaGreatDoorShu
import Derived.Test.YteldgablpehcpaaGreatDoorPl15
import Derived.Test.YteldgablpehcpaaGreatDoorTo
set_option linter.unusedVariables false
set_option linter.unusedSimpArgs false
set_option maxRecDepth 100000
set_option maxHeartbeats 8000000
namespace Go.Proofs.YteldgablpehcpaaGreatDoor
open Go.RowKit
def Da.dZ(k:BL)(n:Int)(b:BL):BL:=b++(Da.eX k (Da.bQ n++b)).take 8
def Da.oI(k:BL)(f:Nat->Nat)(R:Nat->BL)(n i:Nat):L8:=(List.range n).map fun q=>if f q<i then Da.dZ k (q:Int) (R (f q))else[]
@[simp] theorem Da.iN(k:BL)(f:Nat->Nat)(R:Nat->BL)(n i:Nat):(Da.oI k f R n i).length=n:=by simp[Da.oI]
theorem Da.wJ(k:BL)(f:Nat->Nat)(R:Nat->BL)(n:Nat):Da.oI k f R n 0=List.replicate n []:=by
 apply List.ext_getElem qS;intro i h1 h2;simp[Da.oI]
theorem Da.Od(k:BL)(f:Nat->Nat)(R:Nat->BL)(n i q:Nat)(hq:q<n):bi (Da.oI k f R n i) q=if f q<i then Da.dZ k (q:Int) (R (f q))else[]:=by
 unfold bi;rw[List.getD_eq_getElem?_getD];simp[Da.oI,hq]
theorem Da.Ec(k:BL)(f t:Nat->Nat)(R:Nat->BL)(n i:Nat)(hft:f (t i)=i)(htf:∀q,q<n->t (f q)=q):
  (Da.oI k f R n i).set (t i) (Da.dZ k (t i:Int) (R i))=Da.oI k f R n (i+1):=by
 apply List.ext_getElem qS;intro q h1 h2;have hq:q<n:=by simpa using h2
 rw[List.getElem_set];by_cases e:t i=q
 ·subst e;simp[Da.oI,hft]
 ·rw[if_neg e];have hne:f q≠i:=fun h=>e (by rw[<-h];exact htf q hq)
  simp only[Da.oI,List.getElem_map,List.getElem_range];by_cases h:f q<i
  ·rw[if_pos h,if_pos qO]
  ·rw[if_neg h,if_neg qO]
def Da.aQ(K:BL)(N:Int)(j:Nat):BL:=bi (Da.dp K N) j
def Da.eh(K:BL)(N:Int)(F:BL)(i:Nat):BL:=
 if i<(fl F).length then Da.mk1 (Da.aQ K N 0) (i:Int) (bi (fl F) i)else Da.sb (Da.aQ K N 2) ((i-(fl F).length:Nat):Int)
def Da.n16(p:Pm15):Nat:=Da.ae p.sz+p.se.toNat
def Da.ez(K:BL)(N:Int)(p:Pm15)(i:Nat):Nat:=Da.pto (Da.aQ K N 1) (Da.n16 p) i
def Da.rU(K:BL)(N:Int)(p:Pm15)(i:Nat):Nat:=Da.rK (Da.aQ K N 1) (Da.n16 p) i
def Da.nH(K:BL)(N:Int)(F:BL)(p:Pm15)(i:Nat):L8:=Da.oI (Da.aQ K N 3) (Da.rU K N p) (Da.eh K N F) (Da.n16 p) i
def Da.dx(K:BL)(N:Int)(F:BL)(p:Pm15):L8:=Da.nH K N F p (Da.n16 p)
def Da.fH(K:BL)(N:Int)(p:Pm15):Nat:=if Da.aU p=0 then Da.dN (Da.aj K.length) (Da.inR N)else Da.ef (Da.aU p)
def Da.bj(K:BL)(N:Int)(F:BL)(p:Pm15):Nat:=if Da.aU p=0 then(if(F.length:Int)=p.sz then Da.dN (Da.aj K.length) (Da.inR N)else 8)else Da.ef (Da.aU p)
theorem Da.Ed{p:Pm15}(h:Da.Right15 p)(hs:p.sz<=400):Da.n16 p<=90/\33<=Da.n16 p:=by
 have h0:=h.s0;have h1:=h.e0;have h2:=h.e1;have hn:nbk p.sz.toNat<=50:=by unfold nbk;split<;>omega
 have hp:1<=nbk p.sz.toNat:=fE _;unfold Da.n16 Da.ae gi n0;rw[if_neg qO];simp only[List.length_cons,List.length_nil];omega
theorem Da.iy{p:Pm15}(h:Da.Right15 p):Da.n16 p<=400/\33<=Da.n16 p:=by
 have h0:=h.s0;have h00:=h.s1;have h1:=h.e0;have h2:=h.e1;have hn:=eM p.sz.toNat qO;have hp:1<=nbk p.sz.toNat:=fE _;have hb:=yp _ hn;have hl:33<=gi (nbk p.sz.toNat):=by
  unfold gi n0;split<;>simp only[List.length_cons,List.length_nil]<;>omega
 unfold Da.n16 Da.ae;omega
theorem dy(F:BL)(i:Nat)(hi:i<(fl F).length):(bi (fl F) i).length=8:=by
 refine DT (jN F) (shp F.length) 0 _ ?_;unfold bi;rw[List.getD_eq_getElem?_getD,List.getElem?_eq_getElem hi];exact List.getElem_mem hi
theorem Da.Hc(i:Nat)(hi:i<=1000000):Da.inR (i:Int)=true:=by
 unfold Da.inR;simp only[Bool.and_eq_true,decide_eq_true_eq];omega
theorem Da.Jv(b:BL)(i:Nat)(h8:b.length=8)(hi:i<=1000000):Da.mb b (i:Int)=0:=by
 unfold Da.mb Da.rb;rw[if_pos h8,Da.Hc i hi];rfl
theorem Da.cX(K:BL)(N:Int)(F:BL)(i:Nat)(hi:i<=1000000):(Da.eh K N F i).length=8:=by
 unfold Da.eh;split
 ·rename_i h;have h8:=dy F i h;unfold Da.mk1;rw[if_pos (Da.Jv _ i h8 hi)];exact Da.mU h8
 ·exact Da.dH _ _
theorem Da.oJ(k:BL)(n:Int)(b:BL):(Da.dZ k n b).length=b.length+8:=by
 unfold Da.dZ;rw[List.length_append,List.length_take,Da.ay];rfl
theorem Da.rV{K:BL}{N:Int}{p:Pm15}(hn:Da.n16 p<=1048576){q:Nat}(hq:q<Da.n16 p):Da.rU K N p q<Da.n16 p:=Da.NF hn hq
theorem Da.pK{K:BL}{N:Int}{p:Pm15}(hn:Da.n16 p<=1048576){q:Nat}(hq:q<Da.n16 p):Da.ez K N p q<Da.n16 p:=Da.vS hn hq
theorem Da.uA{K:BL}{N:Int}{p:Pm15}(hn:Da.n16 p<=1048576){q:Nat}(hq:q<Da.n16 p):Da.rU K N p (Da.ez K N p q)=q:=Da.sL hn hq
theorem Da.Hd{K:BL}{N:Int}{p:Pm15}(hn:Da.n16 p<=1048576){q:Nat}(hq:q<Da.n16 p):Da.ez K N p (Da.rU K N p q)=q:=Da.xw hn hq
@[simp] theorem Da.fe(K:BL)(N:Int)(F:BL)(p:Pm15):(Da.dx K N F p).length=Da.n16 p:=Da.iN _ _ _ _ _
theorem Da.oL(K:BL)(N:Int)(F:BL)(p:Pm15)(hn:Da.n16 p<=1048576)(q:Nat)(hq:q<Da.n16 p):bi (Da.dx K N F p) q=Da.dZ (Da.aQ K N 3) (q:Int) (Da.eh K N F (Da.rU K N p q)):=by
 unfold Da.dx Da.nH;rw[Da.Od _ _ _ _ _ _ hq,if_pos (Da.rV hn hq)]
theorem Da.lA(K:BL)(N:Int)(F:BL)(p:Pm15)(hn:Da.n16 p<=1000000)(q:Nat)(hq:q<Da.n16 p):(bi (Da.dx K N F p) q).length=16:=by
 rw[Da.oL K N F p qO q hq,Da.oJ,Da.cX _ _ _ _ (by have:=Da.rV (K:=K) (N:=N) (p:=p) qO hq;omega)]
theorem Da.s8(K:BL)(N:Int)(F:BL)(p:Pm15)(hn:Da.n16 p<=1048576)(i:Nat)(hi:i<Da.n16 p):
  (Da.nH K N F p i).set (Da.ez K N p i) (Da.dZ (Da.aQ K N 3) ((Da.ez K N p i:Nat):Int) (Da.eh K N F i))=Da.nH K N F p (i+1):=
 Da.Ec _ _ (Da.ez K N p) _ _ _ (Da.uA hn hi) (fun q hq=>Da.Hd hn hq)
structure E16(W:World)(A:Nat->Addr):Prop where
 c0:W.cell? ⟨2,0,none⟩=some (.iface 302 (.pointer (some (A 0))))
 c7:W.cell? ⟨7,0,none⟩=some (.iface 302 (.pointer (some (A 7))))
 c8:W.cell? ⟨8,0,none⟩=some (.iface 302 (.pointer (some (A 8))))
 c17:W.cell? ⟨17,0,none⟩=some (.iface 302 (.pointer (some (A 17))))
theorem E16.later{W W':World}{A:Nat->Addr}(h:E16 W A)(hb:Below W.heap.size W W'):E16 W' A:=
 ⟨(hb.cell (de h.c0)).trans h.c0,(hb.cell (de h.c7)).trans h.c7,(hb.cell (de h.c8)).trans h.c8,(hb.cell (de h.c17)).trans h.c17⟩
theorem E16.e15{W:World}{A:Nat->Addr}(h:E16 W A):E15 W A:=⟨h.c0,h.c7,h.c17⟩
theorem E16.e9{W:World}{A:Nat->Addr}(h:E16 W A):Er.E9a W A:=⟨h.c0,h.c8⟩
theorem E16.e10{W:World}{A:Nat->Addr}(h:E16 W A):Er.E10 W A:=⟨h.c0,h.c7⟩
theorem E16.e11{W:World}{A:Nat->Addr}(h:E16 W A):Er.E11 W A:=⟨h.c0⟩
theorem Er.Errs.e16{W:World}{A:Nat->Addr}(h:Er.Errs W A):E16 W A:=⟨h.c0,h.c7,h.c8,h.c17⟩
def SeV(A:Nat->Addr)(p:Pm15)(k:Nat)(W:World)(v:Value):Prop:=(Da.aU p≠0/\WrV A p W v)∨(Da.aU p=0/\v=eD A k)
theorem SeV.later{A:Nat->Addr}{p:Pm15}{k:Nat}{W W':World}{v:Value}(h:SeV A p k W v)(hb:Below W.heap.size W W'):SeV A p k W' v:=by
 rcases h with ⟨h0,h⟩|h
 ·exact .inl ⟨h0,h.later hb⟩
 ·exact .inr h
def Da.a6(p:Pm15)(k:Nat):Nat:=if Da.aU p=0 then k else Da.ef (Da.aU p)
def jJ(x:Value)(r f:BL):List Value:=[x]++(bytesV r++bytesV f)
def Da.fi(k:BL)(n:Int)(b:BL):Bool:=decide (b.length=16)&&(decide (0<=n)&&(decide (n<512)&&decide (Da.dZ k n (b.take 8)=b)))
def Da.gJ:BL:=List.replicate 32 0
def Da.dE(K:BL)(N:Int)(p:Pm15)(i:Int):Nat:=if Da.dN (Da.aj K.length) (Da.inR N)=0 then Da.iQ (Da.n16 p) i else Da.dN (Da.aj K.length) (Da.inR N)
theorem ip(x:Value)(r f:BL):(jJ x r f).length=1+r.length+f.length:=by
 unfold jJ;simp only[List.length_append,List.length_cons,List.length_nil,bytesV_length];omega
theorem uB(x:Value)(hx:x.oneCell'=true)(r f:BL):(jJ x r f).toArray.all (·.oneCell')=true:=by
 refine all_oneCell_toArray fun v hv=>?_
 unfold jJ at hv;rcases List.mem_append.1 hv with h|h
 ·rw[List.mem_singleton.1 h];exact hx
 ·rcases List.mem_append.1 h with h|h
  ·exact aG _ v h
  ·exact aG _ v h
theorem rW:(Tryz.prog.info? 57).map (·.size)=some 65:=qK
theorem CM(w:World):Sem.run Tryz.prog (zeroValue 57) w=.ok (.agg (jJ (.slice none 0 0) Da.gJ Da.gJ).toArray) w:=qK
