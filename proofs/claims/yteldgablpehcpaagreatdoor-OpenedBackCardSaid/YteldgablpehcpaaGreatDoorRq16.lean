/- Rq16 -/
import Derived.Test.YteldgablpehcpaaGreatDoorRw16
import Derived.Test.YteldgablpehcpaaGreatDoorRbk
set_option linter.unusedVariables false
set_option linter.unusedSimpArgs false
set_option maxRecDepth 100000
set_option maxHeartbeats 8000000
namespace Go.Proofs.YteldgablpehcpaaGreatDoor
open Go.RowKit
section
variable {P:Program} {md:Region.Mode} {ops:Array Oper} {Q:Exit->Act->World->Prop} {S:World->Prop} {fuel:Nat} {listed:Array Bool} {a:Act} {w:World}
theorem aI{i:Nat}{o:Oper}{d:Tmp}{x:Value}(hi:ops[i]? =some o)(hd:o.dst=some d)
  (hs:Region.noSelect ops=true) (hf:Region.free md ops listed i=true) (hr:(Region.ready md ops listed).contains i=true)
  (hQ:∀c a w,Q (.panic c) (a.put o.dst x) w->Q (.panic c) a w) (hy:YieldsIf P ops S o x a) (hS:S w)
  (h:wpAnyH P md ops Q S fuel (listed.setIfInBounds i true) {a with tmps:=a.tmps.setIfInBounds d x} w):wpAnyH P md ops Q S (fuel+1) listed a w:=
 wpAnyH_take hi hs hf hr hQ hy hS (by rw[hd];exact h)
theorem sd{i:Nat}{o:Oper}{K:Act->World->Prop}(ho:ops[i]? =some o)(hw:Region.wanted o (yielded ops a.tmps)=true)(h:o.wp P a w K Q):wpOp P ops Q i K a w:=by
 unfold wpOp;rw[ho];dsimp only;rw[if_pos hw];exact .inl h
theorem dF{i:Nat}{o:Oper}(hr:Region.ready md ops listed=[i])(ho:ops[i]? =some o)(hw:Region.wanted o (yielded ops a.tmps)=true)
  (h:∀K:Act->World->Prop,(∀a' w',S w'->wpAnyH P md ops Q S fuel (listed.setIfInBounds i true) a' w'->K a' w')->o.wp P a w K Q):wpAnyH P md ops Q S (fuel+1) listed a w:=
 wpAnyH_all hr qS fun j hj=>by
  obtain rfl:j=i:=by simpa using hj
  exact sd ho hw (h _ fun a' w' h1 h2=>⟨h1,h2⟩)
end
theorem iP(W:World)(g q:Nat)(v:Value):W.grownBy (W.setCell ⟨g,q,none⟩ v) (some g):=
 ⟨rfl,rfl,rfl,by simp[World.setCell],fun k hk hne=>by
  simp only[World.setCell,Array.getElem?_modify];rw[if_neg (fun e=>hne (by rw[e]))]⟩
theorem mr(W:World)(n:Nat):Els W (List.replicate n []) (List.replicate n (.slice none 0 0)):=
 ⟨qS,fun i x hx=>by
  have hi:=(List.getElem?_eq_some_iff.1 hx).1;simp at hi;rw[List.getElem?_replicate,if_pos hi]at hx;injection hx with hx
  subst hx;have:bi (List.replicate n []) i=[]:=by unfold bi;simp[List.getD_eq_getElem?_getD,List.getElem?_replicate,hi]
  rw[this];exact RowV.nil W⟩
