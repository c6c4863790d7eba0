/- Pl15 -/
import Derived.Test.YteldgablpehcpaaGreatDoorOp15
import Derived.Test.YteldgablpehcpaaGreatDoorRrb
import Derived.Test.YteldgablpehcpaaGreatDoorTr
import Derived.Lib.ItoaNum
import Derived.Lib.ItoaLen
import Derived.Lib.LaidTab
import Derived.Lib.ItoaMem
import Derived.Laws.StructEq
set_option linter.unusedVariables false
set_option linter.unusedSimpArgs false
set_option maxRecDepth 100000
set_option maxHeartbeats 8000000
namespace Go.Proofs.YteldgablpehcpaaGreatDoor
open Go.RowKit
def txt15(l:BL):Value:=.string ⟨l.toArray⟩
theorem dw(p:Pm15):(pmA p).all (·.oneCell')=true:=by simp[pmA,Value.oneCell']
def c15(r:Nat):UInt8:=UInt8.ofNat (48+r)
structure E15(W:World)(A:Nat->Addr):Prop where
 c0:W.cell? ⟨2,0,none⟩=some (.iface 302 (.pointer (some (A 0))))
 c7:W.cell? ⟨7,0,none⟩=some (.iface 302 (.pointer (some (A 7))))
 c17:W.cell? ⟨17,0,none⟩=some (.iface 302 (.pointer (some (A 17))))
theorem de{W:World}{a:Addr}{v:Value}(h:W.cell? a=some v):a.block<W.heap.size:=by
 unfold World.cell? at h;cases hh:W.heap[a.block]? with
 |none=>simp[hh]at h
 |some o=>exact(aE.1 hh).1
theorem E15.later{W W':World}{A:Nat->Addr}(h:E15 W A)(hb:Below W.heap.size W W'):E15 W' A:=
 ⟨(hb.cell (de h.c0)).trans h.c0,(hb.cell (de h.c7)).trans h.c7,(hb.cell (de h.c17)).trans h.c17⟩
theorem Er.Errs.e15{W:World}{A:Nat->Addr}(h:Er.Errs W A):E15 W A:=⟨h.c0,h.c7,h.c17⟩
def WrAt(W:World)(b:Nat)(f:BL)(n:Int)(e:Value):Prop:=W.heap[b]? =some (.cells #[txt15 f,.int .i64 n,e] 159 (0,0))
theorem WrAt.lt{W:World}{b:Nat}{f:BL}{n:Int}{e:Value}(h:WrAt W b f n e):b<W.heap.size:=(aE.1 h).1
theorem WrAt.later{W W':World}{b:Nat}{f:BL}{n:Int}{e:Value}(h:WrAt W b f n e)(hb:Below W.heap.size W W'):WrAt W' b f n e:=(hb.block b h.lt).trans h
theorem WrAt.cell{W:World}{b:Nat}{f:BL}{n:Int}{e:Value}(h:WrAt W b f n e):W.cell? ⟨b,2,none⟩=some e:=by unfold World.cell?;rw[show W.heap[b]? =_ from h];rfl
def jQ(b:Nat):Value:=.iface 157 (.pointer (some ⟨b,0,none⟩))
def ec(A:Nat->Addr)(k:Nat):Value:=.iface 302 (.pointer (some (A (k-1))))
def WrV(A:Nat->Addr)(p:Pm15)(W:World)(v:Value):Prop:=
 (Da.aU p=0/\v=.nilIface)∨(Da.aU p≠0/\∃b,v=jQ b/\WrAt W b (Da.js (Da.aU p)) (Da.cH p (Da.aU p)) (ec A (Da.ef (Da.aU p))))
theorem WrV.later{A:Nat->Addr}{p:Pm15}{W W':World}{v:Value}(h:WrV A p W v)(hb:Below W.heap.size W W'):WrV A p W' v:=by
 rcases h with h|⟨h0,b,e,h⟩
 ·exact .inl h
 ·exact .inr ⟨h0,b,e,h.later hb⟩
theorem aM:(Tryz.prog.info? 24).map (·.size)=some 6:=qK
