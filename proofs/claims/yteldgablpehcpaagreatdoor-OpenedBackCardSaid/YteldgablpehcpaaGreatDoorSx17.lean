/- Sx17 -/
import Derived.Test.YteldgablpehcpaaGreatDoorSx16
set_option linter.unusedVariables false
set_option linter.unusedSimpArgs false
set_option maxRecDepth 100000
set_option maxHeartbeats 8000000
namespace Go.Proofs.YteldgablpehcpaaGreatDoor
open Go.RowKit
def Da.lB(k:BL)(S:L8)(q:Nat):Bool:=Da.fi k (q:Int) (bi S q)
theorem Da.wK{k:BL}{S:L8}{q:Nat}(h:Da.lB k S q=true):(bi S q).length=16:=by
 unfold Da.lB Da.fi at h;rw[Bool.and_eq_true,decide_eq_true_eq]at h;exact h.1
def Da.iU(k:BL)(t:Nat->Nat)(S:L8)(n j:Nat):L8:=(List.range n).map fun i=>if t i<j/\Da.lB k S (t i)=true then(bi S (t i)).take 8 else[]
@[simp] theorem Da.iO(k:BL)(t:Nat->Nat)(S:L8)(n j:Nat):(Da.iU k t S n j).length=n:=by simp[Da.iU]
theorem Da.Eh(k:BL)(t:Nat->Nat)(S:L8)(n:Nat):Da.iU k t S n 0=List.replicate n []:=by
 apply List.ext_getElem qS;intro i h1 h2;simp[Da.iU]
theorem Da.Oi(k:BL)(t:Nat->Nat)(S:L8)(n j i:Nat)(hi:i<n):bi (Da.iU k t S n j) i=if t i<j/\Da.lB k S (t i)=true then(bi S (t i)).take 8 else[]:=kt _ _ _ hi
theorem Da.Ei(k:BL)(f t:Nat->Nat)(S:L8)(n j:Nat)(hft:∀i,i<n->f (t i)=i)(htf:t (f j)=j)(hok:Da.lB k S j=true):(Da.iU k t S n j).set (f j) ((bi S j).take 8)=Da.iU k t S n (j+1):=by
 apply List.ext_getElem qS;intro i h1 h2;have hi:i<n:=by simpa using h2
 rw[List.getElem_set];by_cases e:f j=i
 ·subst e;simp only[Da.iU,List.getElem_map,List.getElem_range];rw[if_pos trivial,if_pos (by rw[htf];exact⟨qO,hok⟩),htf]
 ·rw[if_neg e];have hne:t i≠j:=fun h=>e (by rw[<-h];exact hft i hi)
  simp only[Da.iU,List.getElem_map,List.getElem_range];by_cases h:t i<j/\Da.lB k S (t i)=true
  ·rw[if_pos h,if_pos ⟨qO,h.2⟩]
  ·rw[if_neg h,if_neg (fun g=>h ⟨qO,g.2⟩)]
theorem Da.Ej(k:BL)(t:Nat->Nat)(S:L8)(n j:Nat)(hok:Da.lB k S j=false):Da.iU k t S n j=Da.iU k t S n (j+1):=by
 apply List.ext_getElem qS;intro i h1 h2;simp only[Da.iU,List.getElem_map,List.getElem_range];by_cases h:t i<j/\Da.lB k S (t i)=true
 ·rw[if_pos h,if_pos ⟨qO,h.2⟩]
 ·rw[if_neg h,if_neg (fun g=>h ⟨by
   have:t i≠j:=fun e=>by rw[e,hok]at g;cases g.2
   omega,g.2⟩)]
def Da.lD(k:BL)(S:L8):Nat->Nat
 |0=>0
 |j+1=>Da.lD k S j+if Da.lB k S j=true then 0 else 1
theorem Da.S6(k:BL)(S:L8)(j:Nat):Da.lD k S j<=j:=by
 induction j with
 |zero=>exact Nat.le_refl _
 |succ j ih=>unfold Da.lD;split<;>omega
def Da.pQ(k:BL)(B:L8)(j:Nat):L8:=(List.range B.length).map fun i=>if i<j/\(bi B i).length=8 then Da.mk8 k (i:Int) (bi B i)else[]
@[simp] theorem Da.tA(k:BL)(B:L8)(j:Nat):(Da.pQ k B j).length=B.length:=by simp[Da.pQ]
theorem Da.Jy(k:BL)(B:L8):Da.pQ k B 0=List.replicate B.length []:=by
 apply List.ext_getElem qS;intro i h1 h2;simp[Da.pQ]
theorem Da.Jz(k:BL)(B:L8)(j:Nat)(h8:(bi B j).length=8):(Da.pQ k B j).set j (Da.mk8 k (j:Int) (bi B j))=Da.pQ k B (j+1):=by
 apply List.ext_getElem qS;intro i h1 h2;rw[List.getElem_set];by_cases e:j=i
 ·subst e;simp only[Da.pQ,List.getElem_map,List.getElem_range];rw[if_pos trivial,if_pos ⟨qO,h8⟩]
 ·rw[if_neg e];simp only[Da.pQ,List.getElem_map,List.getElem_range];by_cases h:i<j/\(bi B i).length=8
  ·rw[if_pos h,if_pos ⟨qO,h.2⟩]
  ·rw[if_neg h,if_neg (fun g=>h ⟨qO,g.2⟩)]
theorem Da.KA(k:BL)(B:L8)(j:Nat)(h8:(bi B j).length≠8):Da.pQ k B j=Da.pQ k B (j+1):=by
 apply List.ext_getElem qS;intro i h1 h2;simp only[Da.pQ,List.getElem_map,List.getElem_range];by_cases h:i<j/\(bi B i).length=8
 ·rw[if_pos h,if_pos ⟨qO,h.2⟩]
 ·rw[if_neg h,if_neg (fun g=>h ⟨by
   have:i≠j:=fun e=>h8 (by rw[<-e];exact g.2)
   omega,g.2⟩)]
def Da.mo(K:BL)(N:Int)(p:Pm15)(S:L8):L8:=Da.iU (Da.aQ K N 3) (Da.ez K N p) S (Da.n16 p) (Da.n16 p)
def Da.jK(K:BL)(N:Int)(p:Pm15)(S:L8):L8:=Da.pQ (Da.aQ K N 0) ((Da.mo K N p S).take (Da.ae p.sz)) (Da.ae p.sz)
theorem Da.oM(K:BL)(N:Int)(p:Pm15)(S:L8):(Da.jK K N p S).length=Da.ae p.sz:=by
 unfold Da.jK Da.mo Da.n16;simp
theorem Da.S7(K:BL)(N:Int)(p:Pm15)(S:L8)(hn:Da.n16 p<=1048576)(i:Nat)(hi:i<Da.ae p.sz):
  bi (Da.jK K N p S) i=if Da.lB (Da.aQ K N 3) S (Da.ez K N p i)=true then Da.mk8 (Da.aQ K N 0) (i:Int) ((bi S (Da.ez K N p i)).take 8)else[]:=by
 have hin:i<Da.n16 p:=by unfold Da.n16;omega
 have hl:((Da.mo K N p S).take (Da.ae p.sz)).length=Da.ae p.sz:=by
  unfold Da.mo Da.n16;simp
 have hb:bi ((Da.mo K N p S).take (Da.ae p.sz)) i=if Da.lB (Da.aQ K N 3) S (Da.ez K N p i)=true then(bi S (Da.ez K N p i)).take 8 else[]:=by
  have h1:bi ((Da.mo K N p S).take (Da.ae p.sz)) i=bi (Da.mo K N p S) i:=by
   unfold bi;rw[List.getD_eq_getElem?_getD,List.getD_eq_getElem?_getD,List.getElem?_take_of_lt hi]
  rw[h1];unfold Da.mo;rw[Da.Oi _ _ _ _ _ _ hin];have hlt:=Da.pK (K:=K) (N:=N) (p:=p) hn hin;by_cases h:Da.lB (Da.aQ K N 3) S (Da.ez K N p i)=true
  ·rw[if_pos ⟨hlt,h⟩,if_pos h]
  ·rw[if_neg (fun g=>h g.2),if_neg h]
 have hu:bi (Da.jK K N p S) i=if i<Da.ae p.sz/\(bi ((Da.mo K N p S).take (Da.ae p.sz)) i).length=8 then Da.mk8 (Da.aQ K N 0) (i:Int) (bi ((Da.mo K N p S).take (Da.ae p.sz)) i)else[]:=by
  unfold Da.jK Da.pQ;exact kt _ _ _ (by rw[hl];exact hi)
 rw[hu,hb];by_cases h:Da.lB (Da.aQ K N 3) S (Da.ez K N p i)=true
 ·rw[if_pos h,if_pos h,if_pos ⟨hi,by rw[List.length_take,Da.wK h];rfl⟩]
 ·rw[if_neg h,if_neg h,if_neg (fun g=>by have:=g.2;simp at this)]
def Da.fS(K:BL)(N:Int)(p:Pm15)(m:Nat):Nat:=if Da.dN (Da.aj K.length) (Da.inR N)=0 then(if m=Da.n16 p then 0 else 4)else Da.dN (Da.aj K.length) (Da.inR N)
def Da.Op17(K:BL)(N:Int)(p:Pm15)(S:L8)(R:Nat)(F:BL)(g:Nat)(E C:List Int):Prop:=
 (Da.a6 p (Da.fS K N p S.length)≠0/\R=Da.fS K N p S.length/\F=[]/\g=0/\E=[]/\C=[])∨
 (Da.a6 p (Da.fS K N p S.length)=0/\(∀V,MndAll (Da.jK K N p S) (shp p.sz.toNat) V (shp p.sz.toNat).length->¬j3 ((af (shp p.sz.toNat) V (shp p.sz.toNat).length).drop p.sz.toNat))/\R=17/\F=[]/\g=0/\E=[]/\C=[])∨
 (Da.a6 p (Da.fS K N p S.length)=0/\∃V,MndAll (Da.jK K N p S) (shp p.sz.toNat) V (shp p.sz.toNat).length/\j3 ((af (shp p.sz.toNat) V (shp p.sz.toNat).length).drop p.sz.toNat)/\R=0/\
  F=(af (shp p.sz.toNat) V (shp p.sz.toNat).length).take p.sz.toNat/\g=Da.lD (Da.aQ K N 3) S (Da.n16 p)/\E=erG (Da.jK K N p S) (shp p.sz.toNat) (shp p.sz.toNat).length/\C=chG (Da.jK K N p S) (shp p.sz.toNat) V (shp p.sz.toNat).length)
structure E17(W:World)(A:Nat->Addr):Prop where
 e:E16 W A
 s:Er.Six W A
 c3:W.cell? ⟨0,0,none⟩=some (.iface 302 (.pointer (some (A 3))))
theorem E17.later{W W':World}{A:Nat->Addr}(h:E17 W A)(hb:Below W.heap.size W W'):E17 W' A:=
 ⟨h.e.later hb,h.s.later hb,(hb.cell (de h.c3)).trans h.c3⟩
theorem Er.Errs.e17{W:World}{A:Nat->Addr}(h:Er.Errs W A):E17 W A:=⟨h.e16,h.six,h.c3⟩
def kg(S:L8):Prop:=S.length<=100/\∀b∈S,b.length<=60
