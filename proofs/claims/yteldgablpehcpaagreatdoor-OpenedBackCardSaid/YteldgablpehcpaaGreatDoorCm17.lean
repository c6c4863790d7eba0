/- Cm17 -/
import Derived.Test.YteldgablpehcpaaGreatDoorCl17
set_option linter.unusedVariables false
set_option linter.unusedSimpArgs false
set_option maxRecDepth 100000
set_option maxHeartbeats 8000000
namespace Go.Proofs.YteldgablpehcpaaGreatDoor
open Go.RowKit
def Da.fV(E C:List Int):Bool:=decide (E.length=C.length)&&Da.oX E C E.length
theorem Da.F7{E C:List Int}{k n:Nat}(h:Da.oX E C k=false)(hn:k<=n):Da.oX E C n=false:=by
 induction n with
 |zero=>obtain rfl:k=0:=by omega
        exact h
 |succ n ih=>
  by_cases e:k=n+1
  ·rw[<-e];exact h
  ·unfold Da.oX;rw[ih qO,Bool.false_and]
theorem kH{E:List Int}{k:Nat}(h:k<E.length):E.getD k 0∈E:=by
 rw[List.getD_eq_getElem?_getD,List.getElem?_eq_getElem h];exact List.getElem_mem h
def aBC(E C:List Int)(n:Nat)(w:World)(iv:Value)(wr:World):Prop:=∃k:Nat,k<=n/\iv=.int .i64 (k:Int)/\Da.oX E C k=true/\wr=w
theorem AA(W:World)(x0:Int)(oE oC:Option Addr)(cE cC:Nat)(E C:List Int)(hE:RowIs W oE (aF E) cE)(hC:RowIs W oC (aF C) cC)(iE:∀n∈E,bG n)(iC:∀n∈C,bG n):
  Calls Tryz.prog 24 #[.agg #[.int .i64 x0,.slice oE E.length cE,.slice oC C.length cC]] W fun e w'=>e=.returned (.bool (Da.fV E C))/\Below W.heap.size W w':=by
 obtain⟨g,hg⟩:=qM W.heap.size;obtain⟨n,hn⟩:=qM E.length;obtain⟨m,hm⟩:=qM C.length;have he1:=hE.le;have he2:=hE.cap;have hc1:=hC.le;have hc2:=hC.cap;simp at he1 hc1;unfold maxLen at he2 hc2;rw[hn]at he1⊢;rw[hm]at hc1⊢;obtain⟨W1,hW1⟩:=qM (W.alloc (.cells #[.int .i64 x0,.slice oE n cE,.slice oC m cC] 39));have hb1:Below W.heap.size W W1:=by rw[<-hW1];exact aH _ _
 have hA1:Arr W1 g 39 [.int .i64 x0,.slice oE n cE,.slice oC m cC]:=by rw[<-hW1,<-hg];exact World.alloc_heap_new W _
 have hf1:W1.cell? ⟨g,1,none⟩=some (.slice oE n cE):=by rw[hA1.cell];rfl
 have hf2:W1.cell? ⟨g,2,none⟩=some (.slice oC m cC):=by rw[hA1.cell];rfl
 have HEE:=Lh (hE.later hb1);have HCC:=Lh (hC.later hb1);have HIE:=Lh iE;have HIC:=Lh iC;have HB1:=Lh hb1;have HW1:=Lh hW1;have HG:=Lh hg;have HN:=Lh hn;have HM:=Lh hm;have HDF:Hid (Da.fV E C=(decide (n=m)&&Da.oX E C n)):=Lh (by unfold Da.fV;rw[hn,hm]);clear hE hC iE iC hg hn hm hW1 hb1 hA1;go_enter Tryz.func24,Tryz.ntmps24
 go_upto_region 1 with fail
 rw[HW1.out,HG.out];by_cases hnm:n=m
 rotate_left
 ·have hq1:((n:Int) !=(m:Int))=true:=by rw[bne_iff_ne];omega
  have hq2:((n:Int)==(m:Int))=false:=beq_false_of_ne qO;have HF:Hid (Da.fV E C=false):=Lh (by rw[HDF.out,decide_eq_false hnm,Bool.false_and]);clear hnm;go_wp2_with fail;go_ret;exact⟨by rw[HF.out];rfl,HB1.out⟩
 subst hnm;have HD2:Hid (Da.fV E C=Da.oX E C n):=Lh (by rw[HDF.out,decide_eq_true rfl,Bool.true_and]);have hq3:((n:Int) !=(n:Int))=false:=qS;go_wp2_with fail;go_loopw [15] (fun iv wr=>aBC E C n W1 iv wr) (fun iv _=>n-(intOf iv).toNat)
 case atStart=>exact⟨0,Nat.zero_le _,rfl,rfl,rfl⟩
 case round=>
  obtain⟨k,hk,rfl,hbr,rfl⟩:=hrel;by_cases hlt:k<n
  ·have hk0:(0:Int)<=(k:Int):=qO;have hk1:(k:Int)<(n:Int):=qO;obtain⟨b1,off1,rfl,_,hce⟩:=HEE.out.cells (by simp;have:=HN.out;omega);obtain⟨b2,off2,rfl,_,hcc⟩:=HCC.out.cells (by simp;have:=HM.out;omega);have hx1:=hce k _ (gQ E k (by have:=HN.out;omega));have hx2:=hcc k _ (gQ C k (by have:=HM.out;omega));have hi1:=HIE.out _ (kH (E:=E) (k:=k) (by have:=HN.out;omega));have hi2:=HIC.out _ (kH (E:=C) (k:=k) (by have:=HM.out;omega));have hs:Da.oX E C (k+1)=(Da.oX E C k&&Da.kG (E.getD k 0) (C.getD k 0)):=rfl;rw[hbr,Bool.true_and]at hs;obtain⟨e,he⟩:=qM (E.getD k 0);obtain⟨t,ht⟩:=qM (C.getD k 0);rw[he]at hx1 hi1 hs;rw[ht]at hx2 hi2 hs;have hbo:=Cn e t hi1 hi2 wr;obtain⟨b,hb⟩:=qM (Da.kG e t);rw[hb]at hbo hs;have HBO:=Lh hbo;have HS:=Lh hs;clear hce hcc hi1 hi2 hs he ht hbo hb hbr;cases b with
   |true=>
    go_wp2_with fail;refine HBO.out.mono ?_;rintro e w' ⟨rfl,rfl⟩;go_wp2_with fail;go_roundw
    case rel=>exact⟨k+1,qO,by go_num,HS.out,rfl⟩
    case measure=>simp[intOf];omega
   |false=>
    have HF:Hid (Da.fV E C=false):=Lh (by rw[HD2.out];exact Da.F7 HS.out qO);go_wp2_with fail;refine HBO.out.mono ?_;rintro e w' ⟨rfl,rfl⟩;go_wp2_with fail;go_ret;exact⟨by rw[HF.out];rfl,HB1.out⟩
  ·obtain rfl:k=n:=qO;have HT:Hid (Da.fV E C=true):=Lh (by rw[HD2.out];exact hbr);clear hbr;go_wp2_with fail;go_ret;exact⟨by rw[HT.out];rfl,HB1.out⟩
