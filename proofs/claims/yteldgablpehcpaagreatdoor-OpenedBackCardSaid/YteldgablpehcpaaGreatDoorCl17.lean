/- Cl17 -/
import Derived.Test.YteldgablpehcpaaGreatDoorCi17
set_option linter.unusedVariables false
set_option linter.unusedSimpArgs false
set_option maxRecDepth 100000
set_option maxHeartbeats 8000000
namespace Go.Proofs.YteldgablpehcpaaGreatDoor
open Go.RowKit
def Da.kG(e t:Int):Bool:=(decide (0<=e)&&decide (e<=32))&&((decide (0<=t)&&decide (t<=32))&&decide (e+2*t<=32))
def Da.oX(E C:List Int):Nat->Bool
 |0=>true
 |k+1=>Da.oX E C k&&Da.kG (E.getD k 0) (C.getD k 0)
theorem p9(n:Int)(w:World):Calls Tryz.prog 92 #[.int .i64 n] w fun e w'=>e=.returned (.bool (decide (0<=n)&&decide (n<=32)))/\w'=w:=by
 by_cases h1:0<=n
 ·by_cases h2:n<=32
  ·have d1:decide (n>=0)=true:=decide_eq_true h1;have d2:decide (0<=n)=true:=decide_eq_true h1;have d3:decide (n<=32)=true:=decide_eq_true h2;go_enter Tryz.func92,Tryz.ntmps92
   go_wp2_with fail;go_ret;exact⟨by first|rfl|(rw[d2,d3];rfl),rfl⟩
  ·have d1:decide (n>=0)=true:=decide_eq_true h1;have d2:decide (0<=n)=true:=decide_eq_true h1;have d3:decide (n<=32)=false:=decide_eq_false h2;go_enter Tryz.func92,Tryz.ntmps92
   go_wp2_with fail;go_ret;exact⟨by first|rfl|(rw[d2,d3];rfl),rfl⟩
 ·have d1:decide (n>=0)=false:=decide_eq_false h1;have d2:decide (0<=n)=false:=decide_eq_false h1;go_enter Tryz.func92,Tryz.ntmps92
  go_wp2_with fail;go_ret;exact⟨by first|rfl|(rw[d2];rfl),rfl⟩
theorem Cn(e t:Int)(he:bG e)(ht:bG t)(w:World):Calls Tryz.prog 51 #[.int .i64 e,.int .i64 t] w fun x w'=>x=.returned (.bool (Da.kG e t))/\w'=w:=by
 have g1:=p9 e w;have g2:=p9 t w;unfold Da.kG;obtain⟨b1,hb1⟩:=qM ((decide (0<=e)&&decide (e<=32)));obtain⟨b2,hb2⟩:=qM ((decide (0<=t)&&decide (t<=32)));rw[hb1]at g1⊢;rw[hb2]at g2⊢;have G1:=Lh g1;have G2:=Lh g2;have HB1:=Lh hb1;have HB2:=Lh hb2;clear g1 g2 hb1 hb2;cases b1 with
 |false=>
  go_enter Tryz.func51,Tryz.ntmps51
  go_upto_region 1 with fail
  apply wp_region_lit;refine qP ?_;refine wpList_plain rfl (fun K hK=>?_);go_simp;refine G1.out.mono ?_;rintro e w' ⟨rfl,rfl⟩;refine hK _ _ ?_;clear hK K;refine qP ?_;iterate 2 refine wpList_skip (by rfl) ?_
  refine qP ?_;refine qP ?_;iterate 5 refine wpList_skip (by rfl) ?_
  refine qP ?_;refine qP ?_;go_wp2_with fail;go_ret;exact⟨rfl,rfl⟩
 |true=>
  cases b2 with
  |false=>
   go_enter Tryz.func51,Tryz.ntmps51
   go_upto_region 1 with fail
   apply wp_region_lit;refine qP ?_;refine wpList_plain rfl (fun K hK=>?_);go_simp;refine G1.out.mono ?_;rintro e w' ⟨rfl,rfl⟩;refine hK _ _ ?_;clear hK K;refine qP ?_;refine BigFrame.wpList_want (by rfl) (fun K hK=>?_);go_simp;refine hK _ _ ?_;clear hK K;refine BigFrame.wpList_want (by rfl) (fun K hK=>?_);go_simp;refine G2.out.mono ?_;rintro e w' ⟨rfl,rfl⟩;refine hK _ _ ?_;clear hK K;refine qP ?_;refine qP ?_;iterate 5 refine wpList_skip (by rfl) ?_
   refine qP ?_;refine qP ?_;go_wp2_with fail;go_ret;exact⟨rfl,rfl⟩
  |true=>
   have h1:=HB1.out;have h2:=HB2.out;rw[Bool.and_eq_true,decide_eq_true_eq,decide_eq_true_eq]at h1 h2;have hw1:IntKind.i64.wrap (2*t)=2*t:=by rw[IntKind.wrap_i64];omega
   have hw2:IntKind.i64.wrap (e+2*t)=e+2*t:=by rw[IntKind.wrap_i64];omega
   go_enter Tryz.func51,Tryz.ntmps51
   go_upto_region 1 with fail
   apply wp_region_lit;refine qP ?_;refine wpList_plain rfl (fun K hK=>?_);go_simp;refine G1.out.mono ?_;rintro e w' ⟨rfl,rfl⟩;refine hK _ _ ?_;clear hK K;refine qP ?_;refine BigFrame.wpList_want (by rfl) (fun K hK=>?_);go_simp;refine hK _ _ ?_;clear hK K;refine BigFrame.wpList_want (by rfl) (fun K hK=>?_);go_simp;refine G2.out.mono ?_;rintro e w' ⟨rfl,rfl⟩;refine hK _ _ ?_;clear hK K;refine qP ?_;refine qP ?_;iterate 5 (refine BigFrame.wpList_want (by rfl) (fun K hK=>?_);go_simp;refine hK _ _ ?_;clear hK K)
   refine qP ?_;refine qP ?_;go_wp2_with fail;go_ret;exact⟨by first|rfl|simp,rfl⟩
