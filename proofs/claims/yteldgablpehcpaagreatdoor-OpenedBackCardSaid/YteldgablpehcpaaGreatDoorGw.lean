/- Gw -/
import Derived.Test.YteldgablpehcpaaGreatDoorIns
import Derived.Lib.SliceRun
set_option linter.unusedVariables false
set_option linter.unusedSimpArgs false
set_option maxRecDepth 100000
set_option maxHeartbeats 8000000
namespace Go.Proofs.YteldgablpehcpaaGreatDoor
open Go.RowKit
theorem fG{w:World}{base n:Nat}{v:Value}{z:BL}(h:w.ownsRow base 5 1 v n (bytesV z))(h0:0<n)(hn:n=z.length):∃g cap,v=.slice (some ⟨g,0,none⟩) z.length cap/\base<=g/\Buf w g cap z:=by
 subst hn;rcases h.2 with ⟨_,h1⟩|⟨g,cap,cur,rfl,hg,_⟩
 ·omega
 ·exact⟨g,cap,rfl,hg,World.ownsRow.mono h (Nat.zero_le _)⟩
theorem rD(n:Nat)(w:World)(h0:0<n)(hl:n<=10000):
  Calls Tryz.prog 105 #[.slice none 0 0,.int .i64 n] w fun e w'=>∃g cap,e=.returned (.slice (some ⟨g,0,none⟩) 0 cap)/\w'.ownsRow w.heap.size 5 1 (.slice (some ⟨g,0,none⟩) 0 cap) 0 (bytesV [])/\Below w.heap.size w w':=by
 have hd1:decide ((n:Int)<0)=false:=decide_eq_false qO;have hd2:decide ((0:Int)<(n:Int))=true:=decide_eq_true qO;have HOWN:Hid (w.ownsRow w.heap.size 5 1 (.slice none 0 0) 0 (bytesV [])):=Lh (World.ownsRow_nil _ _ _ _);go_enter Tryz.func105,Tryz.ntmps105
 go_wp2_with (at_builtin;refine qs rfl (.tmp 20) (.tmp 21) rfl w.heap.size _ 0 [] rfl HOWN.out n h0 rfl qO qO qN ?_)
 intro v2 w2 hv hgr;have hb2:=own_below (n:=0) qB HOWN.out hgr;obtain⟨hl2,h3⟩:=hv;rcases h3 with ⟨_,h3⟩|⟨g,cap,cur,rfl,hg,hh,h4,h5,h6,h7⟩
 ·omega
 have hown:w2.ownsRow w.heap.size 5 1 (.slice (some ⟨g,0,none⟩) 0 cap) 0 (bytesV []):=⟨rfl,.inr ⟨g,cap,cur,rfl,hg,hh,Nat.zero_le _,h5,h6,by simp[bytesV]⟩⟩;have HV:=Lh hown;have HB:=Lh hb2;unfold maxLen at h5;clear hl2 hgr hb2 hg hh h6 h7 hown HOWN;go_wp2
 go_ret;exact⟨g,cap,rfl,HV.out,HB.out⟩
