/- Err -/
import Derived.Test.YteldgablpehcpaaGreatDoorKit
import Derived.LaidEql
import Derived.Stop.Asserts
import Derived.RowKitTokens
import Derived.Lib.Hide
import Derived.Outline
set_option linter.unusedVariables false
set_option linter.unusedSimpArgs false
set_option maxRecDepth 100000
set_option maxHeartbeats 8000000
namespace Go.Proofs.YteldgablpehcpaaGreatDoor
open Go.RowKit Go.Extern.Stop Go.Stop Go.Extern
namespace Er
structure Errs(W:World)(A:Nat->Addr):Prop where
 inj:∀i j,i<20->j<20->A i=A j->i=j
 c0:W.cell? ⟨2,0,none⟩=some (.iface 302 (.pointer (some (A 0))))
 c1:W.cell? ⟨3,0,none⟩=some (.iface 302 (.pointer (some (A 1))))
 c2:W.cell? ⟨4,0,none⟩=some (.iface 302 (.pointer (some (A 2))))
 c3:W.cell? ⟨0,0,none⟩=some (.iface 302 (.pointer (some (A 3))))
 c4:W.cell? ⟨1,0,none⟩=some (.iface 302 (.pointer (some (A 4))))
 c5:W.cell? ⟨5,0,none⟩=some (.iface 302 (.pointer (some (A 5))))
 c6:W.cell? ⟨6,0,none⟩=some (.iface 302 (.pointer (some (A 6))))
 c7:W.cell? ⟨7,0,none⟩=some (.iface 302 (.pointer (some (A 7))))
 c8:W.cell? ⟨8,0,none⟩=some (.iface 302 (.pointer (some (A 8))))
 c9:W.cell? ⟨9,0,none⟩=some (.iface 302 (.pointer (some (A 9))))
 c10:W.cell? ⟨10,0,none⟩=some (.iface 302 (.pointer (some (A 10))))
 c11:W.cell? ⟨11,0,none⟩=some (.iface 302 (.pointer (some (A 11))))
 c12:W.cell? ⟨12,0,none⟩=some (.iface 302 (.pointer (some (A 12))))
 c13:W.cell? ⟨13,0,none⟩=some (.iface 302 (.pointer (some (A 13))))
 c14:W.cell? ⟨14,0,none⟩=some (.iface 302 (.pointer (some (A 14))))
 c15:W.cell? ⟨15,0,none⟩=some (.iface 302 (.pointer (some (A 15))))
 c16:W.cell? ⟨16,0,none⟩=some (.iface 302 (.pointer (some (A 16))))
 c17:W.cell? ⟨17,0,none⟩=some (.iface 302 (.pointer (some (A 17))))
 c18:W.cell? ⟨18,0,none⟩=some (.iface 302 (.pointer (some (A 18))))
 c19:W.cell? ⟨19,0,none⟩=some (.iface 302 (.pointer (some (A 19))))
 block:∀i,i<20->∃c t,W.heap[(A i).block]? =some (.cells c t (0,0))
theorem Errs.later{W W':World}{A:Nat->Addr}(h:Errs W A)(hb:Below W.heap.size W W'):Errs W' A:=by
 have k:∀(g:Nat)(v:Value),W.cell? ⟨g,0,none⟩=some v->W'.cell? ⟨g,0,none⟩=some v:=by
  intro g v hc;have hlt:g<W.heap.size:=by
   unfold World.cell? at hc;cases hh:W.heap[g]? with
   |none=>simp[hh]at hc
   |some o=>exact(aE.1 hh).1
  rw[hb.cell (p:=⟨g,0,none⟩) hlt];exact hc
 refine⟨h.inj,k _ _ h.c0,k _ _ h.c1,k _ _ h.c2,k _ _ h.c3,k _ _ h.c4,k _ _ h.c5,k _ _ h.c6,k _ _ h.c7,k _ _ h.c8,k _ _ h.c9,k _ _ h.c10,k _ _ h.c11,k _ _ h.c12,k _ _ h.c13,k _ _ h.c14,k _ _ h.c15,k _ _ h.c16,k _ _ h.c17,k _ _ h.c18,k _ _ h.c19,?_⟩;intro i hi;obtain⟨c,t,hh⟩:=h.block i hi;have hlt:(A i).block<W.heap.size:=(aE.1 hh).1;exact⟨c,t,by rw[hb.block _ hlt];exact hh⟩
structure Six(W:World)(A:Nat->Addr):Prop where
 c0:W.cell? ⟨2,0,none⟩=some (.iface 302 (.pointer (some (A 0))))
 c7:W.cell? ⟨7,0,none⟩=some (.iface 302 (.pointer (some (A 7))))
 c9:W.cell? ⟨9,0,none⟩=some (.iface 302 (.pointer (some (A 9))))
 c15:W.cell? ⟨15,0,none⟩=some (.iface 302 (.pointer (some (A 15))))
 c16:W.cell? ⟨16,0,none⟩=some (.iface 302 (.pointer (some (A 16))))
 c19:W.cell? ⟨19,0,none⟩=some (.iface 302 (.pointer (some (A 19))))
theorem Six.later{W W':World}{A:Nat->Addr}(h:Six W A)(hb:Below W.heap.size W W'):Six W' A:=by
 have k:∀(g:Nat)(v:Value),W.cell? ⟨g,0,none⟩=some v->W'.cell? ⟨g,0,none⟩=some v:=by
  intro g v hc;have hlt:g<W.heap.size:=by
   unfold World.cell? at hc;cases hh:W.heap[g]? with
   |none=>simp[hh]at hc
   |some o=>exact(aE.1 hh).1
  rw[hb.cell (p:=⟨g,0,none⟩) hlt];exact hc
 exact⟨k _ _ h.c0,k _ _ h.c7,k _ _ h.c9,k _ _ h.c15,k _ _ h.c16,k _ _ h.c19⟩
theorem Errs.six{W:World}{A:Nat->Addr}(h:Errs W A):Six W A:=⟨h.c0,h.c7,h.c9,h.c15,h.c16,h.c19⟩
instance {W:World} {A:Nat->Addr}:Coe (Errs W A) (Six W A):=⟨Errs.six⟩
end Er
