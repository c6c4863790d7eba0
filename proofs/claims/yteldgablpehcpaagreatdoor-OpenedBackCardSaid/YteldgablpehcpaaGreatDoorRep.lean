/- Rep -/
import Derived.Test.YteldgablpehcpaaGreatDoorLoc
import Derived.Test.YteldgablpehcpaaGreatDoorPe
set_option linter.unusedVariables false
set_option linter.unusedSimpArgs false
set_option maxRecDepth 100000
set_option maxHeartbeats 8000000
namespace Go.Proofs.YteldgablpehcpaaGreatDoor
open Go.RowKit
namespace Gf
theorem Nl(f g s:Nat->UInt8)(k:Nat):cv (cv f g) s k=cv f (cv g s) k:=by
 unfold cv;have e1:∀i,i<k+1->gm (sm (fun a=>gm (f a) (g (i-a))) (i+1)) (s (k-i))=sm (fun a=>gm (f a) (gm (ps a g i) (s (k-i)))) (k+1):=fun i hi=>by
  have h1:sm (fun a=>gm (f a) (g (i-a))) (i+1)=sm (fun a=>gm (f a) (ps a g i)) (k+1):=by
   rw[fW (n:=i+1) (m:=k+1) qO (fun a ha=>by unfold ps;rw[if_neg qO,aO])];exact aW fun a ha=>by unfold ps;rw[if_pos qO]
  rw[h1,aX,<-jC];exact aW fun a _=>by rw[aX,aS]
 rw[aW e1,Gd];refine aW fun a ha=>?_
 rw[jC];congr 1
 rw[show k+1=a+(k-a+1) by omega,yg,bU (fun i hi=>by unfold ps;rw[if_neg qO,aK]),UInt8.zero_xor];exact aW fun i hi=>by
  unfold ps;rw[if_pos qO,Nat.add_sub_cancel_left,Nat.sub_sub]
theorem zQ(a b:BL):co (bB a b)=cv (co a) (co b):=funext fun k=>bY a b k
theorem Gl(f g:Nat->UInt8)(k:Nat):cv f g k=cv g f k:=by
 unfold cv;rw[NV];exact aW fun i hi=>by rw[show k-(k-i)=i by omega,aX]
theorem R7(x:UInt8)(w:BL)(p:Nat)(hp:p<w.length)(y:UInt8):hv x (w.set p (co w p^^^y))=hv x w^^^gm y (px x (w.length-1-p)):=by
 induction w generalizing p with
 |nil=>cases hp
 |cons c w ih=>
  cases p with
  |zero=>
   rw[qZ,eV,eV,show co (c::w) 0=c from rfl,iY,List.length_cons];rw[show w.length+1-1-0=w.length by omega,UInt8.xor_assoc,UInt8.xor_assoc,UInt8.xor_comm (gm y _)]
  |succ p=>
   rw[qC,eV,eV,show co (c::w) (p+1)=co w p by simp[co],List.length_set,ih p (by simpa using hp),List.length_cons];rw[show w.length+1-1-(p+1)=w.length-1-p by omega,UInt8.xor_assoc]
end Gf
def dd(W:BL)(l:List (Nat×UInt8)):BL:=l.foldl (fun w e=>w.set e.1 (co w e.1^^^e.2)) W
theorem pJ(W:BL)(e:Nat×UInt8)(l:List (Nat×UInt8)):dd W (e::l)=dd (W.set e.1 (co W e.1^^^e.2)) l:=rfl
theorem yI(W:BL)(e:Nat×UInt8)(l:List (Nat×UInt8)):dd W (l++[e])=(dd W l).set e.1 (co (dd W l) e.1^^^e.2):=by
 unfold dd;rw[List.foldl_append];rfl
@[simp] theorem du(W:BL)(l:List (Nat×UInt8)):(dd W l).length=W.length:=by
 induction l generalizing W with
 |nil=>rfl
 |cons e l ih=>rw[pJ,ih,List.length_set]
theorem R8(n:Nat)(l:List (Nat×UInt8))(W:BL)(hW:W.length=n)(h:∀e∈l,e.1<n)(j:Nat):Gf.hv (Gf.al j) (dd W l)=Gf.hv (Gf.al j) W^^^Gf.ls (l.map fun e=>(e.2,Gf.al (n-1-e.1))) j:=by
 induction l generalizing W with
 |nil=>exact UInt8.xor_zero.symm
 |cons e l ih=>
  rw[pJ,ih _ (by rw[List.length_set,hW]) (fun d hd=>h d (by simp[hd])),Gf.R7 _ _ _ (by rw[hW];exact h e qS),List.map_cons,Gf.d6,hW,Gf.AV,Gf.AV,Nat.mul_comm,UInt8.xor_assoc]
theorem Bd(l:List (Nat×UInt8))(W:BL)(p:Nat)(h:p ∉ l.map (·.1)):co (dd W l) p=co W p:=by
 induction l generalizing W with
 |nil=>rfl
 |cons e l ih=>
  rw[List.map_cons,List.mem_cons,not_or]at h;rw[pJ,ih _ h.2,cj,if_neg (fun e2=>h.1 e2.1.symm)]
def xsN(n:Nat)(H:List Nat):BL:=H.map fun p=>Gf.al (n-1-p)
@[simp] theorem jt(n:Nat)(H:List Nat):(xsN n H).length=H.length:=by simp[xsN]
theorem sR{n:Nat}{H:List Nat}(hn:n<=255)(h:H.Nodup)(hp:∀p∈H,p<n):(xsN n H).Nodup:=by
 induction H with
 |nil=>exact List.nodup_nil
 |cons p H ih=>
  have hn2:=List.nodup_cons.1 h;unfold xsN;rw[List.map_cons,List.nodup_cons];refine⟨fun hm=>?_,ih hn2.2 fun q hq=>hp q (by simp[hq])⟩;obtain⟨q,hq,he⟩:=List.mem_map.1 hm;have h1:=hp p qS;have h2:=hp q (by simp[hq]);have he:=(Gf.uS _ _).1 he;obtain rfl:q=p:=qO;exact hn2.1 hq
theorem zR(m:Nat):∃y,Gf.gm (Gf.al m) y=1:=by
 refine⟨Gf.gd 1 (Gf.al m),?_⟩;rw[Gf.aX];exact Gf.sj _ _ (Gf.lM m)
structure All(n:Nat)(z:List Int)(H P:List Nat):Prop where
 nd:P.Nodup
 lt:∀p∈P,p<n
 mem:∀p,p<n->(p∈P↔((p:Int)∈z∨p∈H))
structure Reg(W C:BL)(n L:Nat)(z:List Int)(H:List Nat):Prop where
 lw:W.length=n
 hn:n<=255
 ok:EOk n z
 rf:RF (dC (a7 W) (Gf.aV (xsL n z))) C L
 few:2*L+z.length<=32
 nd:H.Nodup
 len:H.length=L
 mem:∀p∈H,p<n/\(p:Int) ∉ z/\∃y,Gf.gm (Gf.al (n-1-p)) y=1/\evL C y=0
theorem iL{n:Nat}{z:List Int}(hok:EOk n z){q:Int}(hq:q∈z):0<=q/\q<n:=by
 obtain⟨k,hk,rfl⟩:=List.getElem_of_mem hq;have:=hok.1 k hk;unfold ci at this;rw[List.getD_eq_getElem?_getD,List.getElem?_eq_getElem hk]at this;exact this
theorem vk{n:Nat}{z:List Int}(hok:EOk n z):z.Nodup:=by
 rw[List.nodup_iff_pairwise_ne,List.pairwise_iff_getElem];intro i j hi hj hij;have:=hok.2.1 j i hij hj;unfold ci at this;rw[List.getD_eq_getElem?_getD,List.getElem?_eq_getElem hj,List.getD_eq_getElem?_getD,List.getElem?_eq_getElem hi]at this;exact fun e=>this e.symm
theorem All.length{n:Nat}{z:List Int}{H P:List Nat}(h:All n z H P)(hok:EOk n z)(hH:H.Nodup)(hm:∀p∈H,p<n/\(p:Int) ∉ z):P.length=z.length+H.length:=by
 have hzn:(z.map Int.toNat).Nodup:=by
  have h1:=vk hok;rw[List.nodup_iff_pairwise_ne,List.pairwise_map];rw[List.nodup_iff_pairwise_ne]at h1;refine List.Pairwise.imp_of_mem (fun{a b} ha hb hab=>?_) h1;have:=iL hok ha;have:=iL hok hb;omega
 have hall:(z.map Int.toNat++H).Nodup:=List.nodup_append.2 ⟨hzn,hH,fun a ha b hb e=>by
  subst e;obtain⟨q,hq,rfl⟩:=List.mem_map.1 ha;have:=iL hok hq;exact(hm _ hb).2 (by rw[Int.toNat_of_nonneg this.1];exact hq)⟩
 have h1:=gW P (z.map Int.toNat++H) h.nd fun p hp=>by
  rcases(h.mem p (h.lt p hp)).1 hp with h2|h2
  ·exact List.mem_append.2 (.inl (List.mem_map.2 ⟨p,h2,qS⟩))
  ·exact List.mem_append.2 (.inr h2)
 have h2:=gW (z.map Int.toNat++H) P hall fun p hp=>by
  rcases List.mem_append.1 hp with h2|h2
  ·obtain⟨q,hq,rfl⟩:=List.mem_map.1 h2;have:=iL hok hq;exact(h.mem q.toNat qO).2 (.inl (by rw[Int.toNat_of_nonneg this.1];exact hq))
  ·exact(h.mem p (hm p h2).1).2 (.inr h2)
 simp at h1 h2;omega
theorem Reg.all_len{W C:BL}{n L:Nat}{z:List Int}{H P:List Nat}(h:Reg W C n L z H)(hP:All n z H P):P.length=z.length+L:=by
 rw[hP.length h.ok h.nd fun p hp=>⟨(h.mem p hp).1,(h.mem p hp).2.1⟩,h.len]
theorem Reg.loc{W C:BL}{n L:Nat}{z:List Int}{H P:List Nat}(h:Reg W C n L z H)(hP:All n z H P)(j:Nat):co (bB C (Gf.aV (xsL n z))) j=co (Gf.aV (xsN n P)) j:=by
 have hl:=h.all_len hP;refine Gf.N1 _ _ (sR h.hn hP.nd hP.lt) ?_ (fun i hi=>?_) (fun x hx=>?_) j
 ·rw[bY];show(0:UInt8)^^^Gf.gm (co C 0) (co (Gf.aV (xsL n z)) 0)=1;rw[h.rf.run.one,Gf.lY,Gf.iX,UInt8.zero_xor]
 ·rw[jt,hl]at hi;rw[bY];refine Gf.bU fun a ha=>?_
  by_cases h1:a<=L
  ·rw[show co (Gf.aV (xsL n z)) (i-a)=0 from aZ (by rw[ix];omega),Gf.aO]
  ·rw[show co C a=0 from aZ (by have:=h.rf.len;omega),Gf.aK]
 ·obtain⟨p,hp,rfl⟩:=List.mem_map.1 hx;have hpn:=hP.lt p hp;rcases(hP.mem p hpn).1 hp with h1|h1
  ·obtain⟨y,hy⟩:=zR (n-1-p);refine⟨y,hy,?_⟩;rw[oh,(Gf.iJ _ _ _ (Gf.lM _) hy).2 ((kZ h.hn hpn h.ok.1).2 h1),Gf.aO]
  ·obtain⟨_,_,y,hy,he⟩:=h.mem p h1;refine⟨y,hy,?_⟩;rw[oh,he,Gf.aK]
theorem RF.run_all{W C:BL}{n L:Nat}{z:List Int}(hrf:RF (dC (a7 W) (Gf.aV (xsL n z))) C L)(hle:z.length<=32)(k:Nat)(h1:z.length+L<=k)(h2:k<32):Gf.cv (co (bB C (Gf.aV (xsL n z)))) (co (a7 W)) k=0:=by
 have hfl:=mh (a7 W) n z;rw[Gf.zQ,Gf.Nl];have hr:=hrf.run.run (k-z.length) qO (by rw[hfl];omega);rw[<-hr];unfold Gf.dis;show Gf.sm _ (k+1)=_;rw[Gf.fW (n:=L+1) (m:=k+1) qO (fun i hi=>by rw[show co C i=0 from aZ (by have:=hrf.len;omega),Gf.aK])];refine Gf.aW fun i hi=>?_
 rw[zP _ _ _ (by rw[hfl];omega),qL,ix,Nat.add_sub_cancel,Gf.zQ,Gf.Gl,show z.length+(k-z.length-i)=k-i by omega]
theorem Reg.run{W C:BL}{n L:Nat}{z:List Int}{H P:List Nat}(h:Reg W C n L z H)(hP:All n z H P):Gf.Run (co (a7 W)) 32 (co (Gf.aV (xsN n P))) (xsN n P).length:=by
 have hl:=h.all_len hP;refine⟨Gf.lY _,fun k h1 h2=>?_⟩;rw[jt,hl]at h1⊢;rw[<-h.rf.run_all h.ok.2.2 k h1 h2,show co (bB C (Gf.aV (xsL n z)))=co (Gf.aV (xsN n P)) from funext (h.loc hP)];unfold Gf.dis Gf.cv;exact(Gf.fW qO fun i hi=>by rw[show co (Gf.aV (xsN n P)) i=0 from aZ (by rw[Gf.az,jt,hl];omega),Gf.aK]).symm
def ET(W:BL)(n:Nat)(l:List (Nat×UInt8)):Prop:=∀j,j<32->Gf.ls (l.map fun e=>(e.2,Gf.al (n-1-e.1))) j=co (a7 W) j
theorem Nm(n:Nat)(P:List Nat)(l:List (UInt8×UInt8))(h:l.map (·.2)=xsN n P):∃l2:List (Nat×UInt8),l2.map (·.1)=P/\l2.map (fun e=>(e.2,Gf.al (n-1-e.1)))=l:=by
 induction P generalizing l with
 |nil=>
  have:l=[]:=by
   have:=congrArg List.length h;simpa using this
  exact⟨[],rfl,by rw[this];rfl⟩
 |cons p P ih=>
  cases l with
  |nil=>cases h
  |cons e l=>
   simp only[xsN,List.map_cons,List.cons.injEq]at h;obtain⟨l2,h1,h2⟩:=ih l h.2;refine⟨(p,e.1)::l2,by rw[List.map_cons,h1],?_⟩;rw[List.map_cons,h2,<-h.1]
theorem Reg.adds{W C:BL}{n L:Nat}{z:List Int}{H P:List Nat}(h:Reg W C n L z H)(hP:All n z H P):∃l:List (Nat×UInt8),l.map (·.1)=P/\ET W n l:=by
 obtain⟨l,hl,hs⟩:=Gf.RU _ (sR h.hn hP.nd hP.lt) _ 32 (h.run hP);obtain⟨l2,h1,h2⟩:=Nm n P l hl;exact⟨l2,h1,fun j hj=>by rw[h2,hs j hj]⟩
theorem Reg.chg{W C:BL}{n L:Nat}{z:List Int}{H P:List Nat}(h:Reg W C n L z H)(hP:All n z H P)(l:List (Nat×UInt8))(hl:l.map (·.1)=P)(ha:ET W n l):Chg (dd W l) W n z H:=by
 have hlt:∀e∈l,e.1<n:=fun e he=>hP.lt _ (by rw[<-hl];exact List.mem_map.2 ⟨e,he,rfl⟩)
 have hcode:IsCode (dd W l):=fun j hj=>by
  rw[R8 n l W h.lw hlt,ha j hj,a7,aT _ _ _ hj,UInt8.xor_self]
 have hall:∀p,p<n->co W p≠co (dd W l) p->(p:Int) ∉ z->p∈H:=fun p hp hne hz=>by
  have hm:p∈P:=Classical.byContradiction fun hm=>hne (Bd l W p (by rw[hl];exact hm)).symm
  rcases(hP.mem p hp).1 hm with h1|h1
  ·exact absurd h1 hz
  ·exact h1
 have h1:Chg (dd W l) W n z (H.filter fun p=>decide (co W p≠co (dd W l) p)):=by
  refine⟨hcode,by rw[du,h.lw],h.lw,h.hn,h.ok,h.nd.sublist List.filter_sublist,fun p hp=>?_,fun p hp hne hz=>?_,?_⟩
  ·obtain⟨h2,h3⟩:=List.mem_filter.1 hp;exact⟨(h.mem p h2).1,by simpa using h3,(h.mem p h2).2.1⟩
  ·exact List.mem_filter.2 ⟨hall p hp hne hz,by simpa using hne⟩
  ·have:=List.length_filter_le (fun p=>decide (co W p≠co (dd W l) p)) H;have:=h.few;have:=h.len;omega
 have h2:=(h1.reg h.rf).1;have h3:(H.filter fun p=>decide (co W p≠co (dd W l) p))=H:=by
  refine List.filter_eq_self.2 fun a ha=>?_
  have:=(List.length_filter_eq_length_iff (l:=H) (p:=fun p=>decide (co W p≠co (dd W l) p))).1 (by rw[<-h2,h.len]);exact this a ha
 rw[h3]at h1;exact h1
theorem Nn{a b:BL}{n:Nat}(ha:a.length=n)(hb:b.length=n)(hn:n<=255)(K:List Nat)(h:∀p,p<n->co a p≠co b p->p∈K):Fq a b<=K.length:=by
 have hd:(Gf.bV a b).length=n:=by simp[Gf.bV,ha,hb]
 have h1:=Gf.NZ [] (Gf.bV a b) (by rw[hd];exact hn) K fun p hp hc _=>by
  rw[hd]at hp;exact h p hp fun e=>(sP (by rw[ha,hb]) p).1 hc e.symm
 unfold Gf.oth at h1;have e:((Gf.pr (Gf.bV a b)).filter fun q=>q.1 !=0&& !(([]:BL).contains q.2))=(Gf.pr (Gf.bV a b)).filter (fun q=>q.1 !=0):=by
  congr 1
  funext q
  simp
 rw[e,Gf.xP]at h1;exact h1
theorem Chg.uniq{v v' W:BL}{n:Nat}{z:List Int}{H H':List Nat}(h:Chg v W n z H)(k:Chg v' W n z H'):v=v':=by
 refine h.code.apart k.code (by rw[h.lv,k.lv]) (by rw[h.lv];exact h.hn) ?_;have:=Nn h.lv k.lv h.hn (z.map Int.toNat++(H++H')) fun p hp hne=>by
  by_cases hz:(p:Int)∈z
  ·exact List.mem_append.2 (.inl (List.mem_map.2 ⟨p,hz,qS⟩))
  ·by_cases h1:co W p=co v p
   ·exact List.mem_append.2 (.inr (List.mem_append.2 (.inr (k.all p hp (fun e=>hne (by rw[<-h1,e])) hz))))
   ·exact List.mem_append.2 (.inr (List.mem_append.2 (.inl (h.all p hp h1 hz))))
 have h1:=h.few;have h2:=k.few;simp at this;omega
theorem Chg.rootC{v W C:BL}{n L:Nat}{z:List Int}{H:List Nat}(h:Chg v W n z H)(hrf:RF (dC (a7 W) (Gf.aV (xsL n z))) C L)(p:Nat)(hp:p<n)(y:UInt8)(hy:Gf.gm (Gf.al (n-1-p)) y=1)(hz:(p:Int) ∉ z):evL C y=0↔p∈H:=by
 obtain⟨h1,h2⟩:=h.reg hrf;have hvw:v.length=W.length:=by rw[h.lv,h.lw]
 have hdl:(Gf.bV v W).length=n:=by simp[Gf.bV,h.lv,h.lw]
 rw[iZ h2 y,Gf.iJ _ _ _ (Gf.lM _) hy];have:=Gf.zK (xsL n z) (Gf.bV v W) (by rw[hdl];exact h.hn) p (by rw[hdl];exact hp);rw[hdl]at this;unfold sQ;rw[this,sP hvw,kZ h.hn hp h.ok.1];exact⟨fun⟨h3,h4⟩=>h.all p hp h3 h4,fun h3=>⟨(h.mem p h3).2.1,(h.mem p h3).2.2⟩⟩
theorem Chg.count{v W C:BL}{n L:Nat}{z:List Int}{H F:List Nat}(h:Chg v W n z H)(hrf:RF (dC (a7 W) (Gf.aV (xsL n z))) C L)(hF:F.Nodup)
  (hm:∀p,p∈F↔(p<n/\(p:Int) ∉ z/\∃y,Gf.gm (Gf.al (n-1-p)) y=1/\evL C y=0)):F.length=L:=by
 rw[(h.reg hrf).1];have h1:=gW F H hF fun p hp=>by
  obtain⟨h2,h3,y,hy,he⟩:=(hm p).1 hp;exact(h.rootC hrf p h2 y hy h3).1 he
 have h2:=gW H F h.nd fun p hp=>by
  have h3:=h.mem p hp;obtain⟨y,hy⟩:=zR (n-1-p);exact(hm p).2 ⟨h3.1,h3.2.2,y,hy,(h.rootC hrf p h3.1 y hy h3.2.2).2 hp⟩
 omega
theorem np{a y:UInt8}(h:Gf.gm a y=1):y=Gf.gd 1 a:=by
 have ha:a≠0:=fun e=>by rw[e,Gf.aK]at h;exact absurd h qD
 have h2:=Gf.sj 1 a ha;have h3:Gf.gm a (y^^^Gf.gd 1 a)=0:=by rw[Gf.fj,h,Gf.aX a,h2,UInt8.xor_self]
 exact Gf.bI _ _ ((Gf.bS a _ ha).1 h3)
theorem Ra{a b c:UInt8}(hb:b≠0)(h:Gf.gm c b=a):Gf.gd a b=c:=by
 have h2:=Gf.sj a b hb;have h3:Gf.gm b (Gf.gd a b^^^c)=0:=by rw[Gf.fj,Gf.aX b,h2,Gf.aX b,h,UInt8.xor_self]
 exact Gf.bI _ _ ((Gf.bS b _ hb).1 h3)
def vi(n p:Nat):UInt8:=Gf.gd 1 (Gf.al (n-1-p))
theorem vm(n p:Nat):Gf.gm (Gf.al (n-1-p)) (vi n p)=1:=by
 obtain⟨y,hy⟩:=zR (n-1-p);rw[vi,<-np hy];exact hy
def srP(P:BL)(n k:Nat):List Nat:=(List.range k).filter fun p=>decide (evL P (vi n p)=0)
theorem sS(P:BL)(n k:Nat):(srP P n k).Nodup:=List.nodup_range.sublist List.filter_sublist
theorem rP{P:BL}{n k p:Nat}:p∈srP P n k↔p<k/\evL P (vi n p)=0:=by
 unfold srP;rw[List.mem_filter,List.mem_range,decide_eq_true_eq]
theorem VY{P:BL}{n k:Nat}(h:¬evL P (vi n k)=0):srP P n (k+1)=srP P n k:=by
 unfold srP;rw[List.range_succ,List.filter_append];simp[h]
theorem Rb{P:BL}{n k:Nat}(h:evL P (vi n k)=0):srP P n (k+1)=srP P n k++[k]:=by
 unfold srP;rw[List.range_succ,List.filter_append];simp[h]
theorem Np(P:BL)(n k:Nat):(srP P n k).length<=k:=by
 have:=List.length_filter_le (fun p=>decide (evL P (vi n p)=0)) (List.range k);rwa[List.length_range]at this
def srI(P:BL)(n k:Nat):List Int:=(srP P n k).map fun p:Nat=>(p:Int)
theorem ju(P:BL)(n k:Nat):(srI P n k).length=(srP P n k).length:=by simp[srI]
def amt(G O:BL)(n p:Nat):UInt8:=Gf.gd (Gf.gm (Gf.al (n-1-p)) (evL O (vi n p))) (evL (dK G) (vi n p))
theorem VZ(m:Nat):ku 32 m=if m<32 then m else 32:=by
 unfold ku;rw[if_neg qD];split<;>split<;>first|rfl|omega
theorem Va(Q:BL)(k:Nat):co (tr (Q.take (ku 32 Q.length))) k=if k<32 then co Q k else 0:=by
 rw[eR,jU,VZ];by_cases h2:Q.length<32
 ·rw[if_pos h2];by_cases h3:k<Q.length
  ·rw[if_pos h3,if_pos qO]
  ·rw[if_neg h3,aZ (by omega:Q.length<=k)];by_cases h4:k<32
   ·rw[if_pos h4]
   ·rw[if_neg h4]
 ·rw[if_neg h2]
theorem Vb(s C:BL)(n:Nat)(z:List Int)(k:Nat):co (jP s C n z) k=if k<32 then Gf.cv (co (dc C n z)) (co s) k else 0:=by
 unfold jP;generalize dc C n z=G;rw[Va,eR,eU (a:=tr s) (b:=s) (c:=G) (d:=G) (eR s) (fun _=>rfl) k,Gf.zQ,Gf.Gl]
theorem Rc{C:BL}{n L:Nat}{z:List Int}(h1:C.length<=L+1)(h2:L<(tr C).length):(dc C n z).length=L+z.length+1:=by
 unfold dc;have h3:=iR C;have h4:(tr C).length=L+1:=qO;have h5:co C L≠0:=by
  have:=nQ C C.length (by rw[<-cL];omega);rwa[<-cL,h4,Nat.add_sub_cancel]at this
 have h6:co (Gf.aV (xsL n z)) z.length≠0:=by
  have:=Gf.Gg (xsL n z) (fun y hy=>by
   obtain⟨q,_,rfl⟩:=List.mem_map.1 hy;exact Gf.lM _)
  rwa[show(xsL n z).length=z.length by simp[xsL]]at this
 have hl:(bB (tr C) (Gf.aV (xsL n z))).length=L+1+(z.length+1):=by unfold bB;rw[dU,h4,ix]
 rw[cL,hl];refine oe _ _ _ qO (fun i hi _=>?_) (fun _=>?_)
 ·rw[bY];refine Gf.bU fun a ha=>?_
  by_cases h7:a<=L
  ·rw[show co (Gf.aV (xsL n z)) (i-a)=0 from aZ (by rw[ix];omega),Gf.aO]
  ·rw[show co (tr C) a=0 from aZ qO,Gf.aK]
 ·rw[Nat.add_sub_cancel,bY];have e:Gf.sm (fun i=>Gf.gm (co (tr C) i) (co (Gf.aV (xsL n z)) (L+z.length-i))) (L+z.length+1)=Gf.gm (co C L) (co (Gf.aV (xsL n z)) z.length):=by
   rw[Gf.fW (n:=L+1) qO (fun i hi=>by rw[show co (tr C) i=0 from aZ qO,Gf.aK])];show Gf.sm _ L^^^Gf.gm (co (tr C) L) (co (Gf.aV (xsL n z)) (L+z.length-L))=_;rw[Gf.bU fun i hi=>by rw[show co (Gf.aV (xsL n z)) (L+z.length-i)=0 from aZ (by rw[ix];omega),Gf.aO],UInt8.zero_xor,eR,Nat.add_sub_cancel_left]
  rw[e];exact fun e=>h6 ((Gf.bS _ _ h5).1 e)
theorem Nq(C:BL)(n:Nat)(z:List Int)(k:Nat):co (dc C n z) k=co (bB C (Gf.aV (xsL n z))) k:=by
 unfold dc;rw[eR];exact eU (a:=tr C) (b:=C) (c:=Gf.aV (xsL n z)) (d:=Gf.aV (xsL n z)) (eR C) (fun _=>rfl) k
theorem Vd(C:BL)(n:Nat)(z:List Int)(y:UInt8):evL (dc C n z) y=Gf.gm (evL C y) (evL (Gf.aV (xsL n z)) y):=by
 rw[iZ (Nq C n z),oh]
theorem J1{W C:BL}{n L:Nat}{z:List Int}(hrf:RF (dC (a7 W) (Gf.aV (xsL n z))) C L)(hW:W.length=n)(hn:n<=255)(hok:EOk n z)(hf:2*L+z.length<=32)(hC:L<(tr C).length)
  (hS:(srP (dc C n z) n n).length=L+z.length):∃H,Reg W C n L z H/\All n z H (srP (dc C n z) n n):=by
 have hmem:∀p,p<n->(p∈srP (dc C n z) n n↔((p:Int)∈z∨evL C (vi n p)=0)):=fun p hp=>by
  rw[rP,Vd];have h1:=Gf.iJ (xsL n z) (Gf.al (n-1-p)) (vi n p) (Gf.lM _) (vm n p);rw[kZ hn hp hok.1]at h1;constructor
  ·rintro⟨_,h2⟩;by_cases h3:(p:Int)∈z
   ·exact .inl h3
   ·refine .inr ?_;rw[Gf.aX]at h2;exact(Gf.bS _ _ (fun e=>h3 (h1.1 e))).1 h2
  ·rintro(h2|h2)
   ·exact⟨hp,by rw[h1.2 h2,Gf.aO]⟩
   ·exact⟨hp,by rw[h2,Gf.aK]⟩
 have hlt:∀p∈srP (dc C n z) n n,p<n:=fun p hp=>(rP.1 hp).1
 have hHm:∀p,p∈(srP (dc C n z) n n).filter (fun p:Nat=>decide ((p:Int) ∉ z))↔p∈srP (dc C n z) n n/\(p:Int) ∉ z:=fun p=>by
  rw[List.mem_filter,decide_eq_true_eq]
 have hall:All n z ((srP (dc C n z) n n).filter (fun p:Nat=>decide ((p:Int) ∉ z))) (srP (dc C n z) n n):=⟨sS _ _ _,hlt,fun p hp=>by
  rw[hHm];constructor
  ·intro h;by_cases h3:(p:Int)∈z
   ·exact .inl h3
   ·exact .inr ⟨h,h3⟩
  ·rintro(h|h)
   ·exact(hmem p hp).2 (.inl h)
   ·exact h.1⟩
 have hHn:=(sS (dc C n z) n n).sublist (List.filter_sublist (p:=fun p:Nat=>decide ((p:Int) ∉ z)));have hlen:=hall.length hok hHn fun p hp=>⟨hlt p ((hHm p).1 hp).1,((hHm p).1 hp).2⟩
 exact⟨_,⟨hW,hn,hok,hrf,hf,hHn,qO,fun p hp=>by
  obtain⟨h1,h2⟩:=(hHm p).1 hp;refine⟨hlt p h1,h2,vi n p,vm n p,?_⟩;exact((hmem p (hlt p h1)).1 h1).resolve_left h2⟩,hall⟩
theorem Reg.forney{W C:BL}{n L:Nat}{z:List Int}{H P:List Nat}(h:Reg W C n L z H)(hP:All n z H P):
  (∀p∈P,evL (dK (dc C n z)) (vi n p)≠0)/\ET W n (P.map fun p=>(p,amt (dc C n z) (jP (a7 W) C n z) n p)):=by
 have hl:=h.all_len hP;have hG:∀j,co (dc C n z) j=co (Gf.aV (xsN n P)) j:=fun j=>(Nq C n z j).trans (h.loc hP j)
 have hPl:P.length<=32:=by have:=h.few;omega
 have hsl:∀y,evL (dK (dc C n z)) y=Gf.ev (P.length+1) (Gf.pd (co (Gf.aV (xsN n P)))) y:=fun y=>by
  have e:∀i,co (dK (dc C n z)) i=Gf.pd (co (Gf.aV (xsN n P))) i:=fun i=>by rw[lL,show co (dc C n z)=co (Gf.aV (xsN n P)) from funext hG]
  have hz:∀i,P.length<=i->Gf.pd (co (Gf.aV (xsN n P))) i=0:=Gf.N4 fun i hi=>aZ (by rw[Gf.az,jt];omega)
  unfold evL;rw[Gf.jD (g:=Gf.pd (co (Gf.aV (xsN n P)))) (fun i _=>e i)];have h1:Gf.ev (max (dK (dc C n z)).length (P.length+1)) (Gf.pd (co (Gf.aV (xsN n P)))) y=Gf.ev (dK (dc C n z)).length (Gf.pd (co (Gf.aV (xsN n P)))) y:=
   Gf.fA qO fun i hi=>by rw[<-e i];exact aZ hi
  rw[<-h1];exact Gf.fA qO fun i hi=>hz i qO
 have hne:∀p∈P,evL (dK (dc C n z)) (vi n p)≠0:=fun p hp=>by
  rw[hsl];exact Gf.N5 _ (sR h.hn hP.nd hP.lt) _ (by rw[jt];omega) _ (List.mem_map.2 ⟨p,hp,rfl⟩) _ (vm n p)
 refine⟨hne,?_⟩;obtain⟨l,hlf,ha⟩:=h.adds hP;have hll:l.length=P.length:=by rw[<-hlf,List.length_map]
 have hx:(l.map fun e=>(e.2,Gf.al (n-1-e.1))).map (·.2)=xsN n P:=by
  rw[List.map_map,xsN,<-hlf,List.map_map];rfl
 have hev:∀y,evL (jP (a7 W) C n z) y=Gf.ev (P.length+1) (Gf.cv (co (Gf.aV (xsN n P))) (Gf.ls (l.map fun e=>(e.2,Gf.al (n-1-e.1))))) y:=fun y=>by
  have hc:∀k,k<32->Gf.cv (co (Gf.aV (xsN n P))) (Gf.ls (l.map fun e=>(e.2,Gf.al (n-1-e.1)))) k=Gf.cv (co (Gf.aV (xsN n P))) (co (a7 W)) k:=fun k hk=>by
   unfold Gf.cv;exact Gf.aW fun i hi=>by rw[ha (k-i) qO]
  have hz:∀k,P.length<=k->Gf.cv (co (Gf.aV (xsN n P))) (Gf.ls (l.map fun e=>(e.2,Gf.al (n-1-e.1)))) k=0:=fun k hk=>by
   rw[<-hx];exact Gf.N2 _ k (by rw[List.length_map,hll];exact hk)
  have e:∀k,co (jP (a7 W) C n z) k=Gf.cv (co (Gf.aV (xsN n P))) (Gf.ls (l.map fun e=>(e.2,Gf.al (n-1-e.1)))) k:=fun k=>by
   rw[Vb,show co (dc C n z)=co (Gf.aV (xsN n P)) from funext hG];split
   ·rename_i hk;exact(hc k hk).symm
   ·exact(hz k qO).symm
  unfold evL;rw[Gf.jD (fun i _=>e i)];have h1:Gf.ev (max (jP (a7 W) C n z).length (P.length+1)) (Gf.cv (co (Gf.aV (xsN n P))) (Gf.ls (l.map fun e=>(e.2,Gf.al (n-1-e.1))))) y=Gf.ev (jP (a7 W) C n z).length (Gf.cv (co (Gf.aV (xsN n P))) (Gf.ls (l.map fun e=>(e.2,Gf.al (n-1-e.1))))) y:=
   Gf.fA qO fun i hi=>by rw[<-e i];exact aZ hi
  rw[<-h1];exact Gf.fA qO fun i hi=>hz i qO
 have he:∀e∈l,amt (dc C n z) (jP (a7 W) C n z) n e.1=e.2:=fun e he=>by
  have hp:e.1∈P:=by rw[<-hlf];exact List.mem_map.2 ⟨e,he,rfl⟩
  have h1:=Gf.VS (l.map fun e=>(e.2,Gf.al (n-1-e.1))) (P.length+1) (by rw[List.length_map,hll];omega) (e.2,Gf.al (n-1-e.1)) (List.mem_map.2 ⟨e,he,rfl⟩) (vi n e.1) (vm n e.1);rw[hx,<-hev,<-hsl]at h1;unfold amt;exact Ra (hne _ hp) h1.symm
 have hll2:(P.map fun p=>(p,amt (dc C n z) (jP (a7 W) C n z) n p))=l:=by
  rw[<-hlf,List.map_map];refine(List.map_congr_left fun e hm=>?_).trans (List.map_id l);show(e.1,amt _ _ n e.1)=e;rw[he e hm]
 rw[hll2];exact ha
theorem Chg.same{v W:BL}{n:Nat}{z:List Int}{H H':List Nat}(h:Chg v W n z H)(k:Chg v W n z H'):H.length=H'.length:=by
 have h1:=gW H H' h.nd fun p hp=>k.all p (h.mem p hp).1 (h.mem p hp).2.1 (h.mem p hp).2.2
 have h2:=gW H' H k.nd fun p hp=>h.all p (k.mem p hp).1 (k.mem p hp).2.1 (k.mem p hp).2.2
 omega
theorem Chg.roots{v W C:BL}{n L:Nat}{z:List Int}{H:List Nat}(h:Chg v W n z H)(hrf:RF (dC (a7 W) (Gf.aV (xsL n z))) C L):L=H.length/\L<(tr C).length/\(srP (dc C n z) n n).length=L+z.length:=by
 obtain⟨h1,_⟩:=h.reg hrf;have hC:=h.len hrf;have hall:All n z H (srP (dc C n z) n n):=⟨sS _ _ _,fun p hp=>(rP.1 hp).1,fun p hp=>by
  rw[rP,h.root hrf p hp (vi n p) (vm n p)];exact⟨fun h=>h.2,fun h=>⟨hp,h⟩⟩⟩
 refine⟨h1,qO,?_⟩;rw[hall.length h.ok h.nd fun p hp=>⟨(h.mem p hp).1,(h.mem p hp).2.2⟩];omega
def gnL(G:L8):Nat->List Int
 |0=>[]
 |k+1=>if(bi G k).length=8 then gnL G k else gnL G k++[(k:Int)]
theorem eE(G:L8)(k:Nat):(gnL G k).length<=k:=by
 induction k with
 |zero=>simp[gnL]
 |succ k ih=>
  unfold gnL;split
  ·omega
  ·simp;omega
theorem tj(G:L8)(k:Nat)(x:Int):x∈gnL G k↔∃i:Nat,x=(i:Int)/\i<k/\(bi G i).length≠8:=by
 induction k with
 |zero=>simp[gnL]
 |succ k ih=>
  unfold gnL;split
  ·rename_i h;rw[ih];exact⟨fun⟨i,h1,h2,h3⟩=>⟨i,h1,qO,h3⟩,fun⟨i,h1,h2,h3⟩=>⟨i,h1,by
    rcases Nat.lt_or_ge i k with h4|h4
    ·exact h4
    ·exact absurd (by rw[show i=k by omega];exact h) h3,h3⟩⟩
  ·rename_i h;rw[List.mem_append,ih,List.mem_singleton];constructor
   ·rintro(⟨i,h1,h2,h3⟩|h1)
    ·exact⟨i,h1,qO,h3⟩
    ·exact⟨k,h1,qO,h⟩
   ·rintro⟨i,h1,h2,h3⟩;rcases Nat.lt_or_ge i k with h4|h4
    ·exact .inl ⟨i,h1,h4,h3⟩
    ·exact .inr (by rw[h1];congr 1;omega)
theorem J2(G:L8)(k:Nat):(gnL G k).Nodup:=by
 induction k with
 |zero=>simp[gnL]
 |succ k ih=>
  unfold gnL;split
  ·exact ih
  ·rw[List.nodup_append];refine⟨ih,qS,fun a ha b hb=>?_⟩;rw[List.mem_singleton]at hb;obtain⟨i,h1,h2,_⟩:=(tj G k a).1 ha;omega
theorem Nr(G:L8)(n k:Nat)(h:k<(gnL G n).length):0<=ci (gnL G n) k/\ci (gnL G n) k<n:=by
 have h1:ci (gnL G n) k∈gnL G n:=by
  unfold ci;rw[List.getD_eq_getElem?_getD,List.getElem?_eq_getElem h];exact List.getElem_mem h
 obtain⟨i,h2,h3,_⟩:=(tj G n _).1 h1;omega
theorem zS(G:L8)(n:Nat)(h:(gnL G n).length<=32):EOk n (gnL G n):=
 ⟨fun k hk=>Nr G n k hk,fun i j hj hi e=>by
  unfold ci at e;rw[List.getD_eq_getElem?_getD,List.getD_eq_getElem?_getD,List.getElem?_eq_getElem hi,List.getElem?_eq_getElem qO]at e;have:=(List.getElem_inj (J2 G n)).1 (show(gnL G n)[i]=(gnL G n)[j] from e);omega,h⟩
def Mnd(G:L8)(n:Nat)(vs:Nat->BL):Prop:=∀j,j<8->∃H,Chg (vs j) (bu G j) n (gnL G n) H
theorem Mnd.uniq{G:L8}{n:Nat}{vs us:Nat->BL}(h:Mnd G n vs)(k:Mnd G n us)(j:Nat)(hj:j<8):vs j=us j:=by
 obtain⟨H,h⟩:=h j hj;obtain⟨H',k⟩:=k j hj;exact h.uniq k
theorem Mnd.len{G:L8}{n:Nat}{vs:Nat->BL}(h:Mnd G n vs)(j:Nat)(hj:j<8):(vs j).length=n:=by
 obtain⟨H,h⟩:=h j hj;exact h.lv
theorem Mnd.few{G:L8}{n:Nat}{vs:Nat->BL}(h:Mnd G n vs):(gnL G n).length<=32:=by
 obtain⟨H,h⟩:=h 0 qO;have:=h.few;omega
def mbk(vs:Nat->BL)(i:Nat):BL:=tab (fun j=>co (vs j) i) 8
@[simp] theorem aBX(vs:Nat->BL)(i:Nat):(mbk vs i).length=8:=by simp[mbk]
def prt(vs:Nat->BL)(k:Nat):BL:=tab (fun q=>co (vs (q % 8)) (q / 8)) (8*k)
@[simp] theorem vp(vs:Nat->BL)(k:Nat):(prt vs k).length=8*k:=by simp[prt]
theorem Ns(vs:Nat->BL)(k:Nat):prt vs k++mbk vs k=prt vs (k+1):=by
 refine aN (by simp;omega) fun q hq=>?_
 have hq:q<8*k+8:=by simpa using hq
 rw[nX,vp];unfold prt;rw[aT _ _ _ (show q<8*(k+1) by omega)];split
 ·rename_i h;rw[aT _ _ _ h]
 ·rename_i h;unfold mbk;rw[aT _ _ _ qO,show(q-8*k)=q % 8 by omega,show q / 8=k by omega]
theorem J3{vs us:Nat->BL}(k:Nat)(h:∀j,j<8->vs j=us j):prt vs k=prt us k:=by
 refine aN qS fun q hq=>?_
 have hq:q<8*k:=by simpa using hq
 unfold prt;rw[aT _ _ _ hq,aT _ _ _ hq,h _ (Nat.mod_lt _ qO)]
def rQ(G:L8)(vs:Nat->BL)(i:Nat):Bool:=decide ((bi G i).length=8)&&decide (bi G i≠mbk vs i)
def chN(G:L8)(vs:Nat->BL):Nat->Nat
 |0=>0
 |k+1=>chN G vs k+if rQ G vs k=true then 1 else 0
theorem Nt(G:L8)(vs:Nat->BL)(k:Nat):chN G vs k<=k:=by
 induction k with
 |zero=>simp[chN]
 |succ k ih=>unfold chN;split<;>omega
theorem EU{G:L8}{vs us:Nat->BL}(h:∀j,j<8->vs j=us j)(i:Nat):rQ G vs i=rQ G us i:=by
 have e:mbk vs i=mbk us i:=aN qS fun j hj=>by
  have hj:j<8:=by simpa using hj
  unfold mbk;rw[aT _ _ _ hj,aT _ _ _ hj,h j hj]
 unfold rQ;rw[e]
theorem J4{G:L8}{vs us:Nat->BL}(h:∀j,j<8->vs j=us j)(k:Nat):chN G vs k=chN G us k:=by
 induction k with
 |zero=>rfl
 |succ k ih=>unfold chN;rw[ih,EU h k]
def dD(bs:L8)(l:List Nat)(g:Nat):L8:=(bs.drop (atG l g)).take (szG l g+32)
theorem Be(bs:L8)(l:List Nat)(g:Nat)(h:g<l.length)(hb:bs.length=bc l+32*l.length):(dD bs l g).length=szG l g+32:=by
 have:=i6 l g h;simp[dD];omega
theorem Re(bs:L8)(l:List Nat)(g i:Nat)(hi:i<szG l g+32):bi (dD bs l g) i=bi bs (atG l g+i):=by
 unfold dD;rw[tW _ _ _ hi,GD]
def MndAll(bs:L8)(l:List Nat)(V:Nat->Nat->BL)(g:Nat):Prop:=∀h,h<g->Mnd (dD bs l h) (szG l h+32) (V h)
def af(l:List Nat)(V:Nat->Nat->BL):Nat->BL
 |0=>[]
 |g+1=>af l V g++prt (V g) (szG l g)
def erG(bs:L8)(l:List Nat):Nat->List Int
 |0=>[]
 |g+1=>erG bs l g++[((gnL (dD bs l g) (szG l g+32)).length:Int)]
def chG(bs:L8)(l:List Nat)(V:Nat->Nat->BL):Nat->List Int
 |0=>[]
 |g+1=>chG bs l V g++[(chN (dD bs l g) (V g) (szG l g+32):Int)]
theorem iM(l:List Nat)(V:Nat->Nat->BL)(g:Nat)(h:g<=l.length):(af l V g).length=8*bc (l.take g):=by
 induction g with
 |zero=>simp[af]
 |succ g ih=>
  rw[ry l g qO];simp[af,ih qO];omega
@[simp] theorem dX(bs:L8)(l:List Nat)(g:Nat):(erG bs l g).length=g:=by
 induction g with
 |zero=>rfl
 |succ g ih=>simp[erG,ih]
@[simp] theorem qQ(bs:L8)(l:List Nat)(V:Nat->Nat->BL)(g:Nat):(chG bs l V g).length=g:=by
 induction g with
 |zero=>rfl
 |succ g ih=>simp[chG,ih]
theorem MndAll.uniq{bs:L8}{l:List Nat}{V U:Nat->Nat->BL}{g:Nat}(h:MndAll bs l V g)(k:MndAll bs l U g):af l V g=af l U g/\chG bs l V g=chG bs l U g:=by
 induction g with
 |zero=>exact⟨rfl,rfl⟩
 |succ g ih=>
  have h1:=ih (fun a ha=>h a qO) (fun a ha=>k a qO);have h2:=(h g qO).uniq (k g qO);unfold af chG;rw[h1.1,h1.2,J3 _ h2,J4 h2];exact⟨rfl,rfl⟩
theorem MndAll.congr{bs:L8}{l:List Nat}{V U:Nat->Nat->BL}{g:Nat}(h:MndAll bs l V g)(e:∀a,a<g->V a=U a):MndAll bs l U g:=fun a ha=>by rw[<-e a ha];exact h a ha
theorem sw(l:List Nat){V U:Nat->Nat->BL}{g:Nat}(e:∀a,a<g->V a=U a):af l V g=af l U g:=by
 induction g with
 |zero=>rfl
 |succ g ih=>unfold af;rw[ih (fun a ha=>e a qO),e g qO]
theorem yJ(bs:L8)(l:List Nat){V U:Nat->Nat->BL}{g:Nat}(e:∀a,a<g->V a=U a):chG bs l V g=chG bs l U g:=by
 induction g with
 |zero=>rfl
 |succ g ih=>unfold chG;rw[ih (fun a ha=>e a qO),e g qO]
theorem Nu{W W':World}{n k:Nat}{v:Value}{m:Nat}{xs:List Value}{cs:Array Value}{T:TypeId}{fr:Nat×Nat}(h:W.ownsRow n 3 1 v m xs)(ho:Only k W W')(hk:W.heap[k]? =some (.cells cs T fr))(hT:T≠ 3):W'.ownsRow n 3 1 v m xs:=by
 obtain⟨hl,hx⟩:=h;refine⟨hl,?_⟩;rcases hx with h0|⟨g',cap',cur,hv,hb,hh,rest⟩
 ·exact .inl h0
 ·refine .inr ⟨g',cap',cur,hv,hb,?_,rest⟩;have hne:some g'≠some k:=fun e=>by
   cases e
   rw[hk]at hh;injection hh with h2
   injection h2 with _ h2 _
   exact hT h2
  rw[World.grownBy.block ho g' (aE.1 hh).1 hne];exact hh
theorem qR{W W':World}{n:Nat}{v:Value}{xs:List Value}{m:Nat}(h:W.ownsRow n 3 1 v m xs)(hb:Below W.heap.size W W'):W'.ownsRow n 3 1 v m xs:=by
 obtain⟨hl,hx⟩:=h;refine⟨hl,?_⟩;rcases hx with hx|⟨g',cap',cur,h,h0,hh,h4⟩
 ·exact .inl hx
 ·exact .inr ⟨g',cap',cur,h,h0,by rw[hb.block g' (aE.1 hh).1];exact hh,h4⟩
theorem Gm(a:UInt8)(h:a≠0)(w:World):Calls Tryz.prog 208 #[.int .u8 (a.toNat:Int)] w fun e w'=>e=.returned (.tuple #[.int .u8 ((Gf.gd 1 a).toNat:Int),.nilIface])/\w'=w:=by
 have h0:a.toNat≠0:=fun e=>h (Gf.bR e)
 have hy:(UInt8.ofNat (Gf.inv a.toNat)).toNat=Gf.inv a.toNat:=by
  have:=Gf.uZ a.toNat;rw[UInt8.toNat_ofNat'];omega
 have h1:Gf.gm a (UInt8.ofNat (Gf.inv a.toNat))=1:=Gf.bR (by rw[Gf.eL,hy,Gf.yj _ h0 (UInt8.toNat_lt a)];rfl);rw[<-np h1,hy];refine(Fx a.toNat h0 (UInt8.toNat_lt a) w).mono ?_;rintro e w' ⟨rfl,rfl⟩;exact⟨rfl,rfl⟩
theorem yK(n k:Nat)(hk:k<n)(h33:33<=n)(h255:n<=255)(w:World):Calls Tryz.prog 200 #[.int .i64 (n:Int),.int .i64 (k:Int)] w fun e w'=>e=.returned (.int .u8 ((Gf.al (n-1-k)).toNat:Int))/\w'=w:=by
 have h:=mQ (n:Int) (k:Int) w;have e:pwv (n:Int) (k:Int)=Gf.al (n-1-k):=by
  unfold pwv;rw[if_pos qO];congr 1
  omega
 rwa[e]at h
theorem jy(n:Int)(w:World):Calls Tryz.prog 206 #[.int .i64 n] w fun e w'=>e=.returned (.bool (decide (33<=n/\n<=255)))/\w'=w:=by
 have C:=Lh (mQ n 0 w);by_cases h:33<=n/\n<=255
 ·have e:pwv n 0=Gf.al (n-1-0).toNat:=by
   unfold pwv;rw[if_pos qO]
  have hne:¬((pwv n 0).toNat:Int)=0:=fun h2=>by
   rw[e]at h2;exact Gf.lM (n-1-0).toNat (Gf.bR (by simpa using h2))
  rw[decide_eq_true h];have hnb:(((pwv n 0).toNat:Int)==0)=false:=beq_false_of_ne hne;have hnt:(((pwv n 0).toNat:Int) !=0)=true:=by rw[bne_iff_ne];exact hne
  generalize pwv n 0=x at*;clear h e;go_enter Tryz.func206,Tryz.ntmps206
  go_wp2_with fail;refine C.out.mono ?_;rintro e w' ⟨rfl,rfl⟩;go_wp2_with fail;go_ret;exact⟨rfl,rfl⟩
 ·have e:pwv n 0=0:=by
   unfold pwv;rw[if_neg qO]
  rw[decide_eq_false h];rw[e]at C;clear h e;go_enter Tryz.func206,Tryz.ntmps206
  go_wp2_with fail;refine C.out.mono ?_;rintro e w' ⟨rfl,rfl⟩;go_wp2_with fail;go_ret;exact⟨rfl,rfl⟩
theorem Vg(p:BL)(y:UInt8)(k:Nat)(hk:k<=256):y∈zl p k↔y.toNat<k/\evL p y=0:=by
 induction k with
 |zero=>simp[zl]
 |succ k ih=>
  have ih:=ih qO;have hn:(UInt8.ofNat k).toNat=k:=by rw[UInt8.toNat_ofNat'];omega
  unfold zl;by_cases h:evL p (UInt8.ofNat k)=0
  ·rw[if_pos h,List.mem_append,ih,List.mem_singleton];constructor
   ·rintro(⟨h1,h2⟩|rfl)
    ·exact⟨qO,h2⟩
    ·exact⟨qO,h⟩
   ·rintro⟨h1,h2⟩;by_cases h3:y.toNat=k
    ·exact .inr (by rw[<-h3,UInt8.ofNat_toNat])
    ·exact .inl ⟨qO,h2⟩
  ·rw[if_neg h,ih];constructor
   ·rintro⟨h1,h2⟩;exact⟨qO,h2⟩
   ·rintro⟨h1,h2⟩;refine⟨?_,h2⟩;have:y.toNat≠k:=fun h3=>h (by rw[<-h3,UInt8.ofNat_toNat];exact h2)
    omega
def ARow(W:World)(g:Nat)(f:Nat->Bool):Prop:=W.heap[g]? =some (.cells ((List.range 256).map fun i=>Value.bool (f i)).toArray 293 (0,0))
theorem ARow.cell{W:World}{g:Nat}{f:Nat->Bool}(h:ARow W g f)(i:Nat)(hi:i<256):W.cell? ⟨g,i,none⟩=some (.bool (f i)):=by
 rw[cell_of_row _ _ i _ _ _ h];simp[hi]
theorem ARow.frozen{W:World}{g:Nat}{f:Nat->Bool}(h:ARow W g f)(i:Nat):W.frozen? ⟨g,i,none⟩=false:=by
 unfold World.frozen?;rw[show W.heap[g]? =_ from h];rfl
theorem ARow.later{W W':World}{g:Nat}{f:Nat->Bool}(h:ARow W g f)(hb:Below W.heap.size W W'):ARow W' g f:=by
 unfold ARow at*;rw[hb.block g (aE.1 h).1];exact h
theorem ARow.cong{W:World}{g:Nat}{f f':Nat->Bool}(h:ARow W g f)(he:∀i,i<256->f i=f' i):ARow W g f':=by
 unfold ARow at*;rw[h];congr 2
 exact congrArg List.toArray (List.map_congr_left fun i hi=>by rw[he i (List.mem_range.1 hi)])
theorem ARow.store{W:World}{g:Nat}{f:Nat->Bool}(h:ARow W g f)(i:Nat)(b:Bool):ARow (W.setCell ⟨g,i,none⟩ (.bool b)) g (fun j=>if j=i then b else f j)/\Only g W (W.setCell ⟨g,i,none⟩ (.bool b)):=by
 have e1:=setCell_eq_setRow W g i _ _ _ (.bool b) h;have h1:=setRow_heap W g _ (((List.range 256).map fun i=>Value.bool (f i)).toArray.setIfInBounds i (.bool b)) _ _ h;rw[<-e1]at h1;refine⟨?_,?_⟩
 ·unfold ARow;rw[h1];congr 2
  apply Array.ext_getElem?;intro k;rw[Array.getElem?_setIfInBounds];by_cases hk:i=k
  ·subst hk;by_cases hn:i<256
   ·simp[hn]
   ·simp[hn]
  ·rw[if_neg hk];by_cases hn:k<256
   ·simp[hn];exact fun h=>absurd h.symm hk
   ·simp[hn]
 ·rw[e1];exact⟨rfl,rfl,rfl,by simp[World.setRow],fun k hk hn=>setRow_other W g k _ (fun e=>hn (by rw[e]))⟩
theorem ARow.apart{W:World}{g c:Nat}{f:Nat->Bool}{o:Option Addr}{z:BL}(h:ARow W g f)(hr:RowIs W o (bytesV z) c):0<(bytesV z).length->∀p,o=some p->p.block≠g:=fun h0 p e hp=>by
 obtain⟨b,off,e2,hlt,hc⟩:=hr.cells h0;rw[e]at e2;cases e2
 have hp:b=g:=hp;subst hp;have h1:=hc 0 _ (aB z 0 (by simpa using h0));rw[cell_of_row _ _ _ _ _ _ h]at h1;simp at h1
def ab:Array Value:=Array.replicate 256 (.bool false)
theorem Bg(w:World):Sem.run Tryz.prog (zeroValue 293) w=.ok (.agg ab) w:=qK
theorem EY(n:Nat):Array.replicate n (Value.bool false)=((List.range n).map fun _=>Value.bool false).toArray:=by
 apply Array.ext
 ·simp
 ·intro k h1 h2;simp
theorem Nv(w:World):ARow (w.alloc (.cells ab 293)) w.heap.size (fun _=>false):=by
 have h:=World.alloc_heap_new w (.cells ab 293);have e:ab=((List.range 256).map fun _=>Value.bool false).toArray:=EY 256;unfold ARow;rw[h,e]
def aAV(z:BL)(g:Nat)(o:Option Addr)(c:Nat)(w:World)(iv:Value)(wr:World):Prop:=
 ∃k:Nat,k<=z.length/\iv=.int .i64 k/\ARow wr g (fun q=>decide (UInt8.ofNat q∈z.take k))/\RowIs wr o (bytesV z) c/\Below w.heap.size w wr
def aAW(P:BL)(n:Nat)(w:World)(v p:Value)(wr:World):Prop:=
 ∃k:Nat,k<=n/\p=.int .i64 k/\wr.ownsRow w.heap.size 3 1 v (srI P n k).length (aF (srI P n k))/\Below w.heap.size w wr
theorem J6{k:Nat}{z:BL}(hk:k<z.length)(q:Nat)(hq:q<256):(if q=(co z k).toNat then true else decide (UInt8.ofNat q∈z.take k))=decide (UInt8.ofNat q∈z.take (k+1)):=by
 have e:z.take (k+1)=z.take k++[co z k]:=by
  rw[List.take_add_one,List.getElem?_eq_getElem hk];simp[co,List.getD_eq_getElem?_getD,List.getElem?_eq_getElem hk]
 rw[e];by_cases h:q=(co z k).toNat
 ·rw[if_pos h,h,UInt8.ofNat_toNat];simp
 ·rw[if_neg h];have h2:¬UInt8.ofNat q=co z k:=fun e=>h (by rw[<-e,UInt8.toNat_ofNat'];omega)
  simp[h2]
theorem Vh{P:BL}{n k:Nat}(h:¬evL P (vi n k)=0):srI P n (k+1)=srI P n k:=by unfold srI;rw[VY h]
theorem Rh{P:BL}{n k:Nat}(h:evL P (vi n k)=0):srI P n k++[(k:Int)]=srI P n (k+1):=by unfold srI;rw[Rb h];simp
theorem vq(P:BL)(n c:Nat)(o:Option Addr)(w:World)(hP:RowIs w o (bytesV P) c)(h33:33<=n)(h255:n<=255):
  Calls Tryz.prog 182 #[.slice o P.length c,.int .i64 (n:Int)] w fun e w'=>∃x B,e=.returned x/\w.heap.size<=B/\w'.ownsRow B 3 1 x (srI P n n).length (aF (srI P n n))/\Below w.heap.size w w':=by
 have hf:=jy (n:Int) w;rw[decide_eq_true (by omega:33<=(n:Int)/\(n:Int)<=255)]at hf;have HF:=Lh hf;have HP:=Lh hP;have h33:=Lh h33;have h255:=Lh h255;have hza:=Bg;obtain⟨Z,hZ⟩:=qM ab;rw[hZ]at hza;obtain⟨w1,hw1⟩:=qM (w.alloc (.cells Z 293));have HA1:Hid (ARow w1 w.heap.size (fun _=>false)):=Lh (by rw[<-hw1,<-hZ];exact Nv w);have hb1:Below w.heap.size w w1:=by rw[<-hw1];exact qB.alloc qN _
 have HB1:=Lh hb1;have HZR:=Lh (IT P o c w1 (hP.later hb1));have HW1:=Lh hw1;have HZL:=Lh (xY P 256);have HGL:Hid (w.heap.size<=w.heap.size):=Lh qN;clear hf hP hZ hb1 hw1;go_enter Tryz.func182,Tryz.ntmps182
 go_wp2_with fail;refine HF.out.mono ?_;rintro e w' ⟨rfl,rfl⟩;clear HF;go_wp2_with (rw[HW1.out])
 refine HZR.out.mono ?_;rintro e w2 ⟨x,rfl,⟨oz,cz,rfl,hz⟩,hb⟩;obtain⟨z,hzz⟩:=qM (zl P 256);have HMZ:Hid (∀y:UInt8,y∈z↔evL P y=0):=Lh fun y=>by
  rw[<-hzz,Vg P y 256 qN];have:=UInt8.toNat_lt y;constructor
  ·exact fun h=>h.2
  ·exact fun h=>⟨this,h⟩
 rw[hzz]at hz HZL;have hz256:=HZL.out;obtain⟨g,hg⟩:=qM w'.heap.size;have HA2:Hid (ARow w2 g (fun q=>decide (UInt8.ofNat q∈z.take 0))):=Lh (by rw[<-hg];exact(HA1.out.later hb).cong fun i _=>qS);have HB2:=Lh (Ks HB1.out hb);have HZ2:=Lh hz;have hcz:=hz.cap;unfold maxLen at hcz;have hcl:=hz.le;simp only[bytesV_length]at hcl;have HGG:=Lh hg;rw[hzz];clear hz hb hzz HZR HA1 HZL;rw[hg];clear hg;go_wp2_with fail;go_loopw [7,18] (fun _ iv wr=>aAV z g oz cz w' iv wr) (fun _ iv _=>z.length-(intOf iv).toNat)
 case atStart=>exact⟨0,Nat.zero_le _,rfl,HA2.out,HZ2.out,HB2.out⟩
 case round=>
  obtain⟨k,hk,rfl,hA,hR,hb⟩:=hrel;have HB:=Lh hb;by_cases hlt:k<z.length
  ·obtain⟨b,off,rfl,hb0,hcell⟩:=hR.cells (by simp;omega);have hc1:wr.cell? ⟨b,off+k,none⟩=some (.int .u8 ((co z k).toNat:Int)):=hcell k _ (aB z k hlt);have hp256:=UInt8.toNat_lt (co z k);have hp0:(0:Int)<=((co z k).toNat:Int):=qO;have hp1:((co z k).toNat:Int)<256:=qO;have hk0:(0:Int)<=(k:Int):=qO;have hk1:(k:Int)<(z.length:Int):=qO;have hcg:=hA.cell (co z k).toNat hp256;have hfg:=hA.frozen (co z k).toNat;have hst:=hA.store (co z k).toNat true;have HA3:Hid (ARow (wr.setCell ⟨g,(co z k).toNat,none⟩ (.bool true)) g (fun q=>decide (UInt8.ofNat q∈z.take (k+1)))):=Lh (hst.1.cong fun i hi=>J6 hlt i hi);have HR3:Hid (RowIs (wr.setCell ⟨g,(co z k).toNat,none⟩ (.bool true)) (some ⟨b,off,none⟩) (bytesV z) cz):=Lh (Only.row hst.2 hR (hA.apart hR));have HB3:Hid (Below w'.heap.size w' (wr.setCell ⟨g,(co z k).toNat,none⟩ (.bool true))):=Lh (hb.trans (Only.below hst.2 (by rw[<-HGG.out];exact Nat.le_refl _) hb.size));clear hA hR hb hst HB hcell;generalize co z k=x at*;go_wp2_with fail;go_roundw
   case rel=>exact⟨k+1,qO,by go_num,HA3.out,HR3.out,HB3.out⟩
   case measure=>simp[intOf];omega
  ·obtain rfl:k=z.length:=qO;rename World=>wA
   have HAA:Hid (ARow wA g (fun q=>decide (UInt8.ofNat q∈z))):=Lh (hA.cong fun i _=>by rw[List.take_length]);have HO0:Hid (wA.ownsRow wA.heap.size 3 1 (.slice none 0 0) 0 (aF [])):=Lh (World.ownsRow_nil _ _ _ _);clear hA hR hb HA2 HZ2 HB2;go_wp2_with fail;go_loopw [8,9,10,11,26] (fun v _ _ _ p wr=>aAW P n wA v p wr) (fun _ _ _ _ p _=>n-(intOf p).toNat)
   case atStart=>exact⟨0,Nat.zero_le _,rfl,HO0.out,Below.refl _ _⟩
   case round=>
    obtain⟨k,hk,rfl,hv,hb2⟩:=hrel;have HV:=Lh hv;have HB2:=Lh hb2;have hn33:=h33.out;have hn255:=h255.out;have hsl:=Np P n k;by_cases hlt:k<n
    ·have hk0:(0:Int)<=(k:Int):=qO;have hk1:(k:Int)<(n:Int):=qO;obtain⟨y,hy⟩:=qM (vi n k);have hye:Gf.gd 1 (Gf.al (n-1-k))=y:=hy;have HPW:Hid (∀v,Calls Tryz.prog 200 #[.int .i64 (n:Int),.int .i64 (k:Int)] v fun e w'=>e=.returned (.int .u8 ((Gf.al (n-1-k)).toNat:Int))/\w'=v):=Lh fun v=>yK n k hlt hn33 hn255 v
     have HIV:Hid (∀v,Calls Tryz.prog 208 #[.int .u8 ((Gf.al (n-1-k)).toNat:Int)] v fun e w'=>e=.returned (.tuple #[.int .u8 (y.toNat:Int),.nilIface])/\w'=v):=Lh fun v=>by rw[<-hye];exact Gm _ (Gf.lM _) v
     have hp256:=UInt8.toNat_lt y;have hp0:(0:Int)<=(y.toNat:Int):=qO;have hp1:(y.toNat:Int)<256:=qO;have hcg:=(HAA.out.later hb2).cell y.toNat hp256;rw[UInt8.ofNat_toNat]at hcg;generalize Gf.al (n-1-k)=xk at*;by_cases he:evL P y=0
     ·rw[decide_eq_true ((HMZ.out y).2 he)]at hcg;have HA:Hid (srI P n k++[(k:Int)]=srI P n (k+1)):=Lh (Rh (by rw[hy];exact he));obtain⟨w5,hw5⟩:=qM (wr.alloc (.cells #[.int .i64 (k:Int)] 3));have hb5:Below wr.heap.size wr w5:=by rw[<-hw5];exact qB.alloc qN _
      have HO5:Hid (w5.ownsRow wA.heap.size 3 1 _ (srI P n k).length (aF (srI P n k))):=Lh (by rw[<-hw5];exact World.ownsRow.alloc hv _);have HC5:Hid (w5.cell? ⟨wr.heap.size,0,none⟩=some (.int .i64 (k:Int))):=Lh (by rw[<-hw5,cell_of_row _ _ 0 _ _ _ (World.alloc_heap_new wr _)];rfl);have HB5:=Lh (Ks hb2 hb5);have HW5:=Lh hw5;have HSL:Hid ((srI P n k).length<=1000):=Lh (by rw[ju];omega);clear hv hb2 hy hye he hw5 hb5 hsl hn33 hn255;go_wp2_with fail;refine(HPW.out _).mono ?_;rintro e w3 ⟨rfl,rfl⟩;go_wp2_with fail;refine(HIV.out _).mono ?_;rintro e w3 ⟨rfl,rfl⟩;go_wp2_with (first|rw[HW5.out]|(at_builtin;refine bC rfl (.tmp 43) (.tmp 45) rfl wA.heap.size _ (srI P n k).length (srI P n k) rfl HO5.out _ (k:Int) rfl HC5.out (by have:=HSL.out;omega) HB5.out.size ?_))
      intro v6 w6 hv6 hg6;have HO6:Hid (w6.ownsRow wA.heap.size 3 1 v6 (srI P n (k+1)).length (aF (srI P n (k+1)))):=Lh (by rw[<-HA.out];simpa using hv6);have HB6:=Lh (aw HB5.out HO5.out hg6);clear hv6 hg6;go_wp2_with fail;go_roundw
      case rel=>exact⟨k+1,qO,by go_num,HO6.out,HB6.out⟩
      case measure=>simp[intOf];omega
     ·rw[decide_eq_false (fun h=>he ((HMZ.out y).1 h))]at hcg;have HA:Hid (srI P n (k+1)=srI P n k):=Lh (Vh (by rw[hy];exact he));clear hv hb2 hy hye he hsl hn33 hn255;go_wp2_with fail;refine(HPW.out _).mono ?_;rintro e w3 ⟨rfl,rfl⟩;go_wp2_with fail;refine(HIV.out _).mono ?_;rintro e w3 ⟨rfl,rfl⟩;go_wp2_with fail;go_roundw
      case rel=>exact⟨k+1,qO,by go_num,by rw[HA.out];exact HV.out,HB2.out⟩
      case measure=>simp[intOf];omega
    ·obtain rfl:n=k:=qO;have HBL:=Lh HB.out.size;have HR:=Lh hv;have HBE:=Lh (Ks HB.out hb2);clear hv hb2;go_wp2_with fail;go_ret;exact⟨_,_,rfl,HBL.out,HR.out,HBE.out⟩
theorem cell_later{W W':World}{g:Nat}{v:Value}(hb:Below W.heap.size W W')(hc:W.cell? ⟨g,0,none⟩=some v):W'.cell? ⟨g,0,none⟩=some v:=by
 have hlt:g<W.heap.size:=by
  unfold World.cell? at hc;cases hh:W.heap[g]? with
  |none=>simp[hh]at hc
  |some o=>exact(aE.1 hh).1
 rw[hb.cell (p:=⟨g,0,none⟩) hlt];exact hc
theorem Nw{p:BL}{a:Value}{x:UInt8}{v:World}(hp:RowV p a v):Calls Tryz.prog 209 #[a,.int .u8 (x.toNat:Int)] v fun e w'=>e=.returned (.int .u8 ((evL p x).toNat:Int))/\Below v.heap.size v w':=by
 obtain⟨o,c,rfl,hp⟩:=hp;exact A5 p x o c v hp
theorem Rk(x y:UInt8)(v:World):Calls Tryz.prog 212 #[.int .u8 (x.toNat:Int),.int .u8 (y.toNat:Int)] v fun e w'=>e=.returned (.int .u8 ((Gf.gm x y).toNat:Int))/\w'=v:=by
 refine(oo x.toNat y.toNat (UInt8.toNat_lt x) (UInt8.toNat_lt y) v).mono ?_;rintro e w' ⟨rfl,rfl⟩;exact⟨by rw[Gf.eL],rfl⟩
theorem Rl(x y:UInt8)(hy:y≠0)(v:World):Calls Tryz.prog 211 #[.int .u8 (x.toNat:Int),.int .u8 (y.toNat:Int)] v fun e w'=>e=.returned (.tuple #[.int .u8 ((Gf.gd x y).toNat:Int),.nilIface])/\w'=v:=by
 refine(Lk x.toNat y.toNat (UInt8.toNat_lt x) (fun e=>hy (Gf.bR e)) (UInt8.toNat_lt y) v).mono ?_;rintro e w' ⟨rfl,rfl⟩;exact⟨by rw[Gf.yn],rfl⟩
theorem yL(G O:BL)(x0:Value)(oG oO:Option Addr)(cG cO n p:Nat)(w:World)(hG:RowIs w oG (bytesV G) cG)(hO:RowIs w oO (bytesV O) cO)(h33:33<=n)(h255:n<=255)(hp:p<n)(hl:G.length<=1000)
  (D:Value) (hD:∀v,Below w.heap.size w v->Calls Tryz.prog 211 #[.int .u8 ((Gf.gm (Gf.al (n-1-p)) (evL O (vi n p))).toNat:Int),.int .u8 ((evL (dK G) (vi n p)).toNat:Int)] v fun e w'=>e=.returned D/\Below v.heap.size v w') (x1 x2:Value) (hDt:D=.tuple #[x1,x2]):
  Calls Tryz.prog 183 #[.agg #[x0,.slice oG G.length cG,.slice oO O.length cO],.int .i64 (n:Int),.int .i64 (p:Int)] w fun e w'=>e=.returned D/\Below w.heap.size w w':=by
 obtain⟨w1,hw1⟩:=qM (w.alloc (.cells #[x0,.slice oG G.length cG,.slice oO O.length cO] 236));have hb1:Below w.heap.size w w1:=by rw[<-hw1];exact qB.alloc qN _
 have hg1:w1.heap[w.heap.size]? =some (.cells #[x0,.slice oG G.length cG,.slice oO O.length cO] 236 (0,0)):=by rw[<-hw1];exact World.alloc_heap_new _ _
 have hc1:w1.cell? ⟨w.heap.size,1,none⟩=some (.slice oG G.length cG):=by rw[cell_of_row _ _ 1 _ _ _ hg1];rfl
 have hf:=jy (n:Int) w1;rw[decide_eq_true (by omega:33<=(n:Int)/\(n:Int)<=255)]at hf;have HF:=Lh hf;obtain⟨y,hy⟩:=qM (vi n p);have hye:Gf.gd 1 (Gf.al (n-1-p))=y:=hy;have HP:=Lh (yK n p hp h33 h255 w1);have HI:=Gm (Gf.al (n-1-p)) (Gf.lM _) w1;rw[hye]at HI;rw[hy]at hD;have HI:=Lh HI;have HB1:=Lh hb1;have HW1:=Lh hw1;have HG1:=Lh hg1;have HSL:=Lh (Lq (⟨oG,cG,rfl,hG.later hb1⟩:RowV G (.slice oG G.length cG) w1) qO);have HO:=Lh hO;have HD:=Lh hD;generalize Gf.al (n-1-p)=a at*;clear hf h33 h255 hG hO hb1 hw1 hp hl hy hye hD hg1;subst hDt;go_enter Tryz.func183,Tryz.ntmps183
 go_wp2_with (rw[HW1.out])
 refine HF.out.mono ?_;rintro e w' ⟨rfl,rfl⟩;go_wp2_with fail;refine HP.out.mono ?_;rintro e w' ⟨rfl,rfl⟩;go_wp2_with fail;refine HI.out.mono ?_;rintro e w' ⟨rfl,rfl⟩;go_wp2_with fail;refine HSL.out.mono ?_;rintro e w2 ⟨xs,rfl,hs,hb2⟩;have HE:=Lh (Nw (x:=y) hs);rw[yi]at HE;have HB2:=Lh (Ks HB1.out hb2);have HG2:Hid (w2.heap[w.heap.size]? =some (.cells #[x0,.slice oG G.length cG,.slice oO O.length cO] 236 (0,0))):=Lh (by rw[hb2.block _ (aE.1 HG1.out).1];exact HG1.out);clear hs hb2;go_wp2_with fail;refine HE.out.mono ?_;rintro e w3 ⟨rfl,hb3⟩;have HB3:=Lh (Ks HB2.out hb3);have hg3:w3.heap[w.heap.size]? =some (.cells #[x0,.slice oG G.length cG,.slice oO O.length cO] 236 (0,0)):=by rw[hb3.block _ (aE.1 HG2.out).1];exact HG2.out
 have hc3:w3.cell? ⟨w.heap.size,2,none⟩=some (.slice oO O.length cO):=by rw[cell_of_row _ _ 2 _ _ _ hg3];rfl
 have HEO:=Lh (A5 O y oO cO w3 (HO.out.later HB3.out));clear hb3 hg3 hc1;go_wp2_with fail;refine HEO.out.mono ?_;rintro e w4 ⟨rfl,hb4⟩;have HB4:=Lh (Ks HB3.out hb4);clear hb4 hc3;go_wp2_with fail;refine(Rk _ _ _).mono ?_;rintro e w5 ⟨rfl,rfl⟩;go_wp2_with fail;refine(HD.out _ HB4.out).mono ?_;rintro e w6 ⟨rfl,hb6⟩;have HB6:=Lh (Ks HB4.out hb6);clear hb6;go_wp2_with fail;go_ret2
 exact⟨rfl,HB6.out⟩
theorem J7(G O:BL)(x0:Value)(oG oO:Option Addr)(cG cO n p:Nat)(w:World)(hG:RowIs w oG (bytesV G) cG)(hO:RowIs w oO (bytesV O) cO)(h33:33<=n)(h255:n<=255)(hp:p<n)(hl:G.length<=1000)(hne:evL (dK G) (vi n p)≠0):
  Calls Tryz.prog 183 #[.agg #[x0,.slice oG G.length cG,.slice oO O.length cO],.int .i64 (n:Int),.int .i64 (p:Int)] w fun e w'=>e=.returned (.tuple #[.int .u8 ((amt G O n p).toNat:Int),.nilIface])/\Below w.heap.size w w':=
 yL G O x0 oG oO cG cO n p w hG hO h33 h255 hp hl _ (fun v _=>(Rl _ _ hne v).mono fun e w' h=>⟨h.1,by rw[h.2];exact Below.refl _ _⟩) _ _ rfl
def amS(G O:BL)(n:Nat):List (Nat×UInt8):=(srP G n n).map fun p=>(p,amt G O n p)
@[simp] theorem Vj(G O:BL)(n:Nat):(amS G O n).length=(srP G n n).length:=by simp[amS]
theorem J8(W G O:BL)(n k p:Nat)(hk:k<(srP G n n).length)(hp:(srP G n n).getD k 0=p):
  (dd W ((amS G O n).take k)).set p (co (dd W ((amS G O n).take k)) p^^^amt G O n p)=dd W ((amS G O n).take (k+1)):=by
 have e:(amS G O n).take (k+1)=(amS G O n).take k++[(p,amt G O n p)]:=by
  rw[List.take_add_one];congr 1
  have h1:(amS G O n)[k]? =some (p,amt G O n p):=by
   unfold amS;rw[List.getElem?_map,List.getElem?_eq_getElem hk];rw[List.getD_eq_getElem?_getD,List.getElem?_eq_getElem hk]at hp;simp at hp;simp[hp]
  rw[h1];rfl
 rw[e,yI]
def aAX(W G O:BL)(n g cap B gf:Nat)(xS:Value)(fc:Array Value)(w:World)(iv:Value)(wr:World):Prop:=
 ∃k:Nat,k<=(srP G n n).length/\iv=.int .i64 k/\Buf wr g cap (dd W ((amS G O n).take k))/\wr.ownsRow B 3 1 xS (srP G n n).length (aF (srI G n n))/\wr.heap[gf]? =some (.cells fc 236 (0,0))/\Below w.heap.size w wr
theorem eS{w w':World}{gf:Nat}{fc:Array Value}(h:w.heap[gf]? =some (.cells fc 236 (0,0)))(hb:Below w.heap.size w w'):w'.heap[gf]? =some (.cells fc 236 (0,0)):=by
 rw[hb.block _ (aE.1 h).1];exact h
theorem il{w:World}{gf:Nat}{a b c:Value}(h:w.heap[gf]? =some (.cells #[a,b,c] 236 (0,0))):w.cell? ⟨gf,0,none⟩=some a/\w.cell? ⟨gf,1,none⟩=some b/\w.cell? ⟨gf,2,none⟩=some c:=
 ⟨by rw[cell_of_row _ _ 0 _ _ _ h];rfl,by rw[cell_of_row _ _ 1 _ _ _ h];rfl,by rw[cell_of_row _ _ 2 _ _ _ h];rfl⟩
theorem vr(W G O:BL)(x0:Value)(oW oG oO:Option Addr)(cW cG cO n:Nat)(w:World)(hW:RowIs w oW (bytesV W) cW)(hG:RowIs w oG (bytesV G) cG)(hO:RowIs w oO (bytesV O) cO)
  (hn:W.length=n) (h33:33<=n) (h255:n<=255) (hl:G.length<=1000) (hS:(srP G n n).length+1≠tl G G.length) (u:TypeId) (v:Value) (hE:w.cell? ⟨16,0,none⟩=some (.iface u v)):
  Calls Tryz.prog 146 #[.slice oW n cW,.agg #[x0,.slice oG G.length cG,.slice oO O.length cO]] w fun e w'=>e=.returned (.tuple #[.slice none 0 0,.iface u v])/\Below w.heap.size w w':=by
 obtain⟨w1,hw1⟩:=qM (w.alloc (.cells #[x0,.slice oG G.length cG,.slice oO O.length cO] 236));have hb1:Below w.heap.size w w1:=by rw[<-hw1];exact qB.alloc qN _
 have hg1:w1.heap[w.heap.size]? =some (.cells #[x0,.slice oG G.length cG,.slice oO O.length cO] 236 (0,0)):=by rw[<-hw1];exact World.alloc_heap_new _ _
 have hcl:=ij W oW cW w1 (hW.later hb1) qO qO;rw[hn]at hcl;have HCL:=Lh hcl;have HG:=Lh hG;have HE:=Lh hE;have HS:=Lh hS;have HB1:=Lh hb1;have HW1:=Lh hw1;have HG1:=Lh hg1;have HN:=Lh hn;have h33:=Lh h33;have h255:=Lh h255;have hbw:n<=cW:=by have:=hW.le;simp at this;omega
 have hbc:cW<=9223372036854775807:=by have:=hW.cap;unfold maxLen at this;omega
 clear hW hG hO hn hb1 hw1 hg1 hcl hS hE;go_enter Tryz.func146,Tryz.ntmps146
 go_wp2_with (rw[HW1.out])
 refine HCL.out.mono ?_;rintro e w2 ⟨g,cap,rfl,hgl,hbuf,hb2⟩;have HB2:=Lh (Ks HB1.out hb2);have HG2:=Lh (eS HG1.out hb2);have hc2:=(il HG2.out).2.1;have HSR:=Lh (vq G n cG oG w2 (HG.out.later HB2.out) h33.out h255.out);clear hgl hbuf hb2;rw[HN.out];go_wp2_with fail;refine HSR.out.mono ?_;rintro e w3 ⟨x,B,rfl,hB,hv,hb3⟩;obtain⟨oS,cS,rfl,hRS⟩:=bD hv rfl;have HB3:=Lh (Ks HB2.out hb3);have HG3:=Lh (eS HG2.out hb3);have hc3:=(il HG3.out).2.1;have HDG:=Lh (qg oG G cG w3 (HG.out.later HB3.out));have hsl:=ju G n n;have hne:¬(((srI G n n).length:Int)=(tl G G.length:Int)-1):=by have:=HS.out;omega
 have hnb:(((srI G n n).length:Int)==(tl G G.length:Int)-1)=false:=beq_false_of_ne hne;have hnt:(((srI G n n).length:Int) !=(tl G G.length:Int)-1)=true:=by rw[bne_iff_ne];exact hne
 have hnd:decide (((srI G n n).length:Int)=(tl G G.length:Int)-1)=false:=decide_eq_false hne;clear hv hRS hb3 hc2 hsl;go_wp2_with fail;refine HDG.out.mono ?_;rintro e w4 ⟨rfl,hb4⟩;have HB4:=Lh (Ks HB3.out hb4);have hE4:=cell_later HB4.out HE.out;clear hb4 hc3;go_wp2_with fail;go_quiet (fail)
 go_wp2
 go_ret2
 exact⟨rfl,HB4.out.trans ⟨rfl,rfl,rfl,Nat.le_refl _,fun _ _=>rfl⟩⟩
theorem zT(W G O:BL)(x0:Value)(oW oG oO:Option Addr)(cW cG cO n:Nat)(w:World)(hW:RowIs w oW (bytesV W) cW)(hG:RowIs w oG (bytesV G) cG)(hO:RowIs w oO (bytesV O) cO)
  (hn:W.length=n) (h33:33<=n) (h255:n<=255) (hl:G.length<=1000) (hS:(srP G n n).length+1=tl G G.length) (hne:∀p∈srP G n n,evL (dK G) (vi n p)≠0):
  Calls Tryz.prog 146 #[.slice oW n cW,.agg #[x0,.slice oG G.length cG,.slice oO O.length cO]] w fun e w'=>∃x,e=.returned (.tuple #[x,.nilIface])/\RowV (dd W (amS G O n)) x w'/\Below w.heap.size w w':=by
 obtain⟨w1,hw1⟩:=qM (w.alloc (.cells #[x0,.slice oG G.length cG,.slice oO O.length cO] 236));have hb1:Below w.heap.size w w1:=by rw[<-hw1];exact qB.alloc qN _
 have hg1:w1.heap[w.heap.size]? =some (.cells #[x0,.slice oG G.length cG,.slice oO O.length cO] 236 (0,0)):=by rw[<-hw1];exact World.alloc_heap_new _ _
 have hcl:=ij W oW cW w1 (hW.later hb1) qO qO;rw[hn]at hcl;have HCL:=Lh hcl;have HG:=Lh hG;have HO:=Lh hO;have HS:=Lh hS;have HNE:=Lh hne;have HB1:=Lh hb1;have HW1:=Lh hw1;have HG1:=Lh hg1;have HN:=Lh hn;have HGL:=Lh hl;have h33:=Lh h33;have h255:=Lh h255;have hbw:n<=cW:=by have:=hW.le;simp at this;omega
 have hbc:cW<=9223372036854775807:=by have:=hW.cap;unfold maxLen at this;omega
 clear hW hG hO hn hb1 hw1 hg1 hcl hS hne hl;go_enter Tryz.func146,Tryz.ntmps146
 go_wp2_with (rw[HW1.out])
 refine HCL.out.mono ?_;rintro e w2 ⟨g,cap,rfl,hgl,hbuf,hb2⟩;have HB2:=Lh (Ks HB1.out hb2);have HG2:=Lh (eS HG1.out hb2);have hc2:=(il HG2.out).2.1;have HSR:=Lh (vq G n cG oG w2 (HG.out.later HB2.out) h33.out h255.out);have HGG:Hid (w.heap.size<=g):=Lh (by have:=HB1.out.size;omega);have HBF2:=Lh hbuf;clear hgl hbuf hb2;rw[HN.out];go_wp2_with fail;refine HSR.out.mono ?_;rintro e w3 ⟨x,B,rfl,hB,hv,hb3⟩;obtain⟨oS,cS,rfl,hRS⟩:=bD hv rfl;have hsl:=ju G n n;rw[hsl]at hv⊢;have HB3:=Lh (Ks HB2.out hb3);have HG3:=Lh (eS HG2.out hb3);have HBF3:=Lh (HBF2.out.later hb3);have HV3:=Lh hv;have hc3:=(il HG3.out).2.1;have HDG:=Lh (qg oG G cG w3 (HG.out.later HB3.out));have hcS:=hRS.le;have hcS2:=hRS.cap;simp only[bM]at hcS;rw[hsl]at hcS;unfold maxLen at hcS2;have heq:((tl G G.length:Int)-1)=((srP G n n).length:Int):=by have:=HS.out;omega
 rw[heq]at HDG;have hnt:(((srP G n n).length:Int) !=((srP G n n).length:Int))=false:=qS;have hnd:decide (((srP G n n).length:Int)=((srP G n n).length:Int))=true:=decide_eq_true rfl;have HSL:Hid ((srP G n n).length<=n):=Lh (Np G n n);have HLT:Hid (∀p∈srP G n n,p<n):=Lh fun p hp=>(rP.1 hp).1
 obtain⟨m,hm⟩:=qM ((srP G n n).length);have HM:=Lh hm;rw[hm]at hcS hnt hnd HV3 HSL HDG⊢;clear hv hRS hb3 hc2 hsl heq hB hm;go_wp2_with fail;refine HDG.out.mono ?_;rintro e w4 ⟨rfl,hb4⟩;have HB4:=Lh (Ks HB3.out hb4);have HG4:=Lh (eS HG3.out hb4);have HBF4:=Lh (HBF3.out.later hb4);have HV4:=Lh (qR HV3.out hb4);clear hb4 hc3;go_wp2_with fail;go_loopw [10,11,12,30] (fun _ _ _ iv wr=>aAX W G O n g cap B w.heap.size (.slice oS m cS) #[x0,.slice oG G.length cG,.slice oO O.length cO] w iv wr) (fun _ _ _ iv _=>m-(intOf iv).toNat)
 case atStart=>exact⟨0,Nat.zero_le _,rfl,by rw[List.take_zero];exact HBF4.out,by rw[HM.out];exact HV4.out,HG4.out,HB4.out⟩
 case round=>
  clear HBF2 HBF3 HBF4 HV3 HV4 HG2 HG3 HG4 HB2 HB3 HB4 HCL HSR HDG;obtain⟨k,hk,rfl,hbuf,hv,hg5,hb⟩:=hrel;have HBF:=Lh hbuf;have HV:=Lh hv;have HG5:=Lh hg5;have HB5:=Lh hb;by_cases hlt:k<(srP G n n).length
  ·obtain⟨o',c',e',hr0⟩:=bD hv (by rw[ju]);have hr:RowIs wr oS (aF (srI G n n)) cS:=by
    injection e' with e1 _ e3
    rw[e1,e3];exact hr0
   clear e' hr0;obtain⟨b,off,rfl,hcell⟩:=gY hr k (by rw[ju];exact hlt);obtain⟨p,hp⟩:=qM ((srP G n n).getD k 0);have hci:ci (srI G n n) k=(p:Int):=by
    unfold ci srI;rw[<-hp,List.getD_eq_getElem?_getD,List.getD_eq_getElem?_getD,List.getElem?_map,List.getElem?_eq_getElem hlt];rfl
   have hpm:p∈srP G n n:=by
    rw[<-hp,List.getD_eq_getElem?_getD,List.getElem?_eq_getElem hlt];exact List.getElem_mem hlt
   have hpn:=HLT.out p hpm;rw[hci]at hcell;have hltm:k<m:=by rw[<-HM.out];exact hlt
   have hk0:(0:Int)<=(k:Int):=qO;have hk1:(k:Int)<(m:Int):=qO;have hp0:(0:Int)<=(p:Int):=qO;have hp1:(p:Int)<(n:Int):=qO;have hylen:(dd W ((amS G O n).take k)).length=n:=by rw[du,HN.out]
   have HAM:=Lh (J7 G O x0 oG oO cG cO n p wr (HG.out.later hb) (HO.out.later hb) h33.out h255.out hpn HGL.out (HNE.out p hpm));have HST:=Lh (J8 W G O n k p hlt hp);generalize amt G O n p=am at HAM HST;generalize hY:dd W ((amS G O n).take k)=Y at HBF HST hylen;have HYL:=Lh hylen;have HKL:=Lh hltm;have HPN:=Lh hpn;clear hbuf hv hg5 hb hr hci hpm hp hpn hlt hY hylen hltm;go_wp2_with (refine wpList_load_row rfl 236 (.tmp 3) rfl w.heap.size rfl 236 _ (0,0) _ HG5.out Tryz.underlying236 rfl fp ?_)
   refine HAM.out.mono ?_;rintro e w6 ⟨rfl,hb6⟩;have HB6:=Lh (Ks HB5.out hb6);have HG6:=Lh (eS HG5.out hb6);have HBF6:=Lh (HBF.out.later hb6);have HV6:=Lh (qR HV.out hb6);have hcp:=HBF6.out.cell p (by rw[HYL.out];exact HPN.out);have hfp:=HBF6.out.frozen p;have hcp2:=HBF6.out.le;rw[HYL.out]at hcp2;have hcp3:=hcp2.1;have hcp4:=hcp2.2;unfold maxLen at hcp4;have hstx:=HBF6.out.store p (co Y p^^^am);rw[HST.out]at hstx;have HBF7:=Lh hstx.1;obtain⟨cur,hcur⟩:=HBF6.out.cells;have HV7:=Lh (Nu HV6.out hstx.2 hcur qD);have HB7:=Lh (HB6.out.trans (Only.below hstx.2 HGG.out HB6.out.size));have HG7:Hid ((w6.setCell ⟨g,p,none⟩ (.int .u8 ((co Y p^^^am).toNat:Int))).heap[w.heap.size]? =some (.cells #[x0,.slice oG G.length cG,.slice oO O.length cO] 236 (0,0))):=Lh (by
    rw[World.grownBy.block hstx.2 _ (aE.1 HG6.out).1 (fun e=>by
     cases e
     have h2:=HG6.out;rw[hcur]at h2;injection h2 with h2
     injection h2 with _ h2 _
     exact absurd h2 qD)]
    exact HG6.out)
   have HAD:Hid (∀v,Calls Tryz.prog 184 #[.int .u8 ((co Y p).toNat:Int),.int .u8 (am.toNat:Int)] v fun e w'=>e=.returned (.int .u8 ((co Y p^^^am).toNat:Int))/\w'=v):=Lh fun v=>nU _ _ v
   generalize co Y p^^^am=nw at*;generalize co Y p=ow at*;clear hb6 hstx hcur hcp2;go_wp2_with fail;refine(HAD.out _).mono ?_;rintro e w7 ⟨rfl,rfl⟩;go_wp2_with fail;go_roundw
   case rel=>exact⟨k+1,by have:=HM.out;have:=HKL.out;omega,by go_num,HBF7.out,HV7.out,HG7.out,HB7.out⟩
   case measure=>have:=HKL.out;simp[intOf];omega
  ·obtain rfl:k=(srP G n n).length:=qO;have HBE:Hid (Buf wr g cap (dd W (amS G O n))):=Lh (by
    have:=HBF.out;rwa[List.take_of_length_le qS]at this)
   have hlen:(dd W (amS G O n)).length=n:=by rw[du,HN.out]
   have HLE:=Lh hlen;rw[HM.out];clear hbuf hv hg5 hb hlt HBF hlen;go_wp2_with fail;go_ret2
   exact⟨.slice (some ⟨g,0,none⟩) n cap,rfl,⟨_,_,by rw[HLE.out],HBE.out.row⟩,HB5.out⟩
def fxz:Value:=.agg #[.slice none 0 0,.slice none 0 0,.int .i64 0]
def J9(A:Nat->Addr)(k:Nat):Ending:=.returned (.tuple #[fxz,.iface 302 (.pointer (some (A k)))])
def aAY(W:BL)(n:Nat)(z:List Int)(A:Nat->Addr)(w:World)(e:Ending)(w':World):Prop:=
 Below w.heap.size w w'/\(((∀v H,¬Chg v W n z H)/\e=J9 A 16)∨∃v H x1 x2,Chg v W n z H/\e=.returned (.tuple #[.agg #[x1,x2,.int .i64 (H.length:Int)],.nilIface])/\RowV v x1 w'/\IntsV (dfL W v n) x2 w')
theorem ka:(Tryz.prog.info? 184).map (·.size)=some 3:=qK
theorem zU{w:World}{g:Nat}{a b c:Value}(h:w.heap[g]? =some (.cells #[a,b,c] 184 (0,0)))(x y v:Value):(((w.setCell ⟨g,0,none⟩ x).setCell ⟨g,1,none⟩ y).setCell ⟨g,2,none⟩ v).heap[g]? =some (.cells #[x,y,v] 184 (0,0)):=by
 have e1:=setCell_eq_setRow w g 0 _ _ _ x h;have h1:=setRow_heap w g #[a,b,c] (#[a,b,c].setIfInBounds 0 x) _ _ h;rw[<-e1]at h1;have e2:=setCell_eq_setRow _ g 1 _ _ _ y h1;have h2:=setRow_heap _ g _ ((#[a,b,c].setIfInBounds 0 x).setIfInBounds 1 y) _ _ h1;rw[<-e2]at h2;have e3:=setCell_eq_setRow _ g 2 _ _ _ v h2;have h3:=setRow_heap _ g _ (((#[a,b,c].setIfInBounds 0 x).setIfInBounds 1 y).setIfInBounds 2 v) _ _ h2;rw[<-e3]at h3;simpa using h3
theorem jz{w:World}{g:Nat}{a b c:Value}(h:w.heap[g]? =some (.cells #[a,b,c] 184 (0,0))):w.cell? ⟨g,0,none⟩=some a/\w.cell? ⟨g,1,none⟩=some b/\w.cell? ⟨g,2,none⟩=some c/\w.frozen? ⟨g,0,none⟩=false/\w.frozen? ⟨g,1,none⟩=false/\w.frozen? ⟨g,2,none⟩=false:=
 ⟨by rw[cell_of_row _ _ 0 _ _ _ h];rfl,by rw[cell_of_row _ _ 1 _ _ _ h];rfl,by rw[cell_of_row _ _ 2 _ _ _ h];rfl,by unfold World.frozen?;rw[h];rfl,by unfold World.frozen?;rw[h];rfl,by unfold World.frozen?;rw[h];rfl⟩
theorem dY{w w':World}{g:Nat}{fc:Array Value}(h:w.heap[g]? =some (.cells fc 184 (0,0)))(hb:Below w.heap.size w w'):w'.heap[g]? =some (.cells fc 184 (0,0)):=by
 rw[hb.block _ (aE.1 h).1];exact h
structure ErCode(n:Int)(z:List Int)(A:Nat->Addr)(a:Nat):Prop where
 find:∀(s:BL)(v:World)(o:Option Addr)(c:Nat),s.length=32->RowIs v o (aF z) c->Er.Six v A->Calls Tryz.prog 145 #[.agg (bytesV s).toArray,.int .i64 n,.slice o z.length c] v fun e w'=>e=wv A a/\Below v.heap.size v w'
theorem Rn(m:Nat)(z:List Int)(A:Nat->Addr)(h1:33<=m)(h2:m<=255)(hl:z.length<=900):(∃a,ErCode (m:Int) z A a)∨EOk m z:=by
 by_cases hbad:∃k,k<z.length/\(ci z k<0∨(m:Int)<=ci z k)
 ·obtain⟨k,hk,hkb⟩:=hbad;refine .inl ⟨0,⟨fun s v o c hs hr hE=>(kY s z m c o v A hs hr h1 h2 hl (fun _=>hE) (fun _=>hE) _ rfl).mono ?_⟩⟩;rintro e w' ⟨hb,⟨_,rfl⟩|⟨hin,_⟩⟩
  ·exact⟨rfl,hb⟩
  ·have:=hin k hk;omega
 ·by_cases hdup:∃i j,j<i/\i<z.length/\ci z i=ci z j
  ·obtain⟨i,j,hj,hi,hij⟩:=hdup;refine .inl ⟨9,⟨fun s v o c hs hr hE=>(kY s z m c o v A hs hr h1 h2 hl (fun _=>hE) (fun _=>hE) _ rfl).mono ?_⟩⟩;rintro e w' ⟨hb,⟨hx,_⟩|⟨_,⟨_,rfl⟩|⟨hd,_⟩⟩⟩
   ·exact absurd hx hbad
   ·exact⟨rfl,hb⟩
   ·exact absurd hij (hd i j hj hi)
  ·by_cases h32:32<z.length
   ·refine .inl ⟨15,⟨fun s v o c hs hr hE=>(kY s z m c o v A hs hr h1 h2 hl (fun _=>hE) (fun _=>hE) _ rfl).mono ?_⟩⟩;rintro e w' ⟨hb,⟨hx,_⟩|⟨_,⟨hx,_⟩|⟨_,⟨_,rfl⟩|⟨hle,_⟩⟩⟩⟩
    ·exact absurd hx hbad
    ·exact absurd hx hdup
    ·exact⟨rfl,hb⟩
    ·omega
   ·refine .inr ⟨fun k hk=>?_,fun i j hj hi h=>hdup ⟨i,j,hj,hi,h⟩,qO⟩;have h:¬(ci z k<0∨(m:Int)<=ci z k):=fun h=>hbad ⟨k,hk,h⟩
    omega
theorem Nx(W:BL)(z:List Int)(n c cz a:Nat)(o oz:Option Addr)(w:World)(A:Nat->Addr)(hW:RowIs w o (bytesV W) c)(hZ:RowIs w oz (aF z) cz)(hn:W.length=n)(h33:33<=n)(h255:n<=255)(hE:Er.Six w A)(hB:ErCode (n:Int) z A a)
  (Z:Array Value) (hZs:(bytesV bL).toArray=Z) (CS:Array Value) (hCS:(bytesV (a7 W)).toArray=CS):
  Calls Tryz.prog 101 #[.slice o n c,.slice oz z.length cz] w fun e w'=>e=J9 A a/\Below w.heap.size w w':=by
 obtain⟨w1,hw1⟩:=qM (w.alloc (.cells #[.slice none 0 0,.slice none 0 0,.int .i64 0] 184));have hb1:Below w.heap.size w w1:=by rw[<-hw1];exact qB.alloc qN _
 have hg1:w1.heap[w.heap.size]? =some (.cells #[.slice none 0 0,.slice none 0 0,.int .i64 0] 184 (0,0)):=by rw[<-hw1];exact World.alloc_heap_new _ _
 have hof:=yt W o c w1 (hW.later hb1) qO;rw[hCS,hn]at hof;have HOF:=Lh hof;have HFI:Hid (∀v,RowIs v oz (aF z) cz->Er.Six v A->Calls Tryz.prog 145 #[.agg CS,.int .i64 (n:Int),.slice oz z.length cz] v fun e w'=>e=wv A a/\Below v.heap.size v w'):=Lh fun v h1 h2=>by
  rw[<-hCS];exact hB.find (a7 W) v oz cz (by simp[a7]) h1 h2
 have HZ:=Lh hZ;have HE:=Lh hE;have HB1:=Lh hb1;have HG1:=Lh hg1;have HW1:=Lh hw1;have hzs:=fZ;rw[hZs]at hzs;have hz1:=one_cell (a7 W);rw[hCS]at hz1;have HZ1:=Lh hz1;have hz2:=cU (ys:=a7 W) (by simp[a7]);rw[hCS]at hz2;have HZ2:=Lh hz2;have HZC:Hid (Z.size=CS.size):=Lh (by rw[<-hZs,<-hCS];simp[bL,a7]);have hbw:n<=c:=by have:=hW.le;simp at this;omega
 have hbc:c<=9223372036854775807:=by have:=hW.cap;unfold maxLen at this;omega
 clear hE hW hZ hZs hCS hb1 hg1 hw1 hof hz1 hz2 hn h33 h255 hB;go_enter Tryz.func101,Tryz.ntmps101
 go_wp2_with (rw[HW1.out])
 refine HOF.out.mono ?_;rintro e w2 ⟨rfl,hb2⟩;have HB2:=Lh (Ks HB1.out hb2);have HG2:=Lh (dY HG1.out hb2);have HGa:Hid ((w2.alloc (.cells Z 232)).heap[w2.heap.size]? =some (.cells Z 232 (0,0))):=Lh (World.alloc_heap_new _ _);obtain⟨w3,hw3⟩:=qM ((w2.alloc (.cells Z 232)).setRow w2.heap.size CS);have hb3:Below w2.heap.size w2 w3:=by rw[<-hw3];exact(qB.alloc qN _).trans (below_setRow qN)
 have HS3:Hid (w3.heap[w2.heap.size]? =some (.cells CS 232 (0,0))):=Lh (by rw[<-hw3];exact setRow_heap _ _ _ _ _ _ HGa.out);have HB3:=Lh (Ks HB2.out hb3);have HG3:=Lh (dY HG2.out hb3);have HW3:=Lh hw3;clear hb2 hb3 hw3 HOF;go_wp2_with (first|(refine wpList_store_row rfl 232 (.tmp 6) (.tmp 13) rfl w2.heap.size CS rfl rfl 232 Z HGa.out HZ2.out HZC.out HZ1.out ?_;rw[HW3.out])|refine wpList_load_row rfl 232 (.tmp 6) rfl w2.heap.size rfl 232 CS (0,0) _ HS3.out bT rfl HZ2.out ?_)
 refine(HFI.out w3 (HZ.out.later HB3.out) (HE.out.later HB3.out)).mono ?_;rintro e w4 ⟨rfl,hb4⟩;unfold wv fz;have hb5:Below w4.heap.size w4 (w4.alloc (.cells #[.int .i64 0,.slice none 0 0,.slice none 0 0] 236)):=qB.alloc qN _;have HB5:=Lh (Ks (Ks HB3.out hb4) hb5);have HG5:=Lh (dY (dY HG3.out hb4) hb5);obtain⟨hcc0,hcc1,hcc2,hff0,hff1,hff2⟩:=jz HG5.out;clear hb4 hb5;go_wp2_with fail;refine bodyPost_ret (aD rfl _ _ w.heap.size 184 #[.slice none 0 0,.slice none 0 0,.int .i64 0] (0,0) _ rfl (zU HG5.out _ _ _) Tryz.underlying184 rfl ka) rfl ?_;exact⟨rfl,HB5.out.trans (((qB.setCell (p:=⟨w.heap.size,0,none⟩) qN _).setCell (p:=⟨w.heap.size,1,none⟩) qN _).setCell (p:=⟨w.heap.size,2,none⟩) qN _)⟩
theorem Ro(G:BL):tl (tr G) (tr G).length=(tr G).length:=by rw[<-cL,AU]
theorem kA{w0 w:World}{g:Nat}(hb:Below w0.heap.size w0 w)(hg:w0.heap.size<=g)(x y v:Value):Below w0.heap.size w0 (((w.setCell ⟨g,0,none⟩ x).setCell ⟨g,1,none⟩ y).setCell ⟨g,2,none⟩ v):=
 hb.trans (((qB.setCell (p:=⟨g,0,none⟩) hg _).setCell (p:=⟨g,1,none⟩) hg _).setCell (p:=⟨g,2,none⟩) hg _)
theorem Ny{w:World}{g:Nat}{o:Option Addr}{z:BL}{cap:Nat}{q:Array Value}(h:w.heap[g]? =some (.cells #[.slice none 0 0,.slice none 0 0,.int .i64 0] 184 (0,0)))(hr:RowIs w o (bytesV z) cap):RowIs (w.setRow g q) o (bytesV z) cap:=
 ⟨hr.le,hr.cap,hr.nil,fun h0=>by
  obtain⟨p,off,e,hlt,hc⟩:=hr.cells h0;have h1:=hc 0 _ (aB z 0 (by simpa using h0));have hne:p≠g:=fun e=>by
   subst e;have h2:=cell_of_row w p (off+0) _ _ _ h;rw[h1]at h2;rcases off with _|_|_|k<;>simp at h2
  refine⟨p,off,e,by simpa[World.setRow]using hlt,fun i v hv=>(World.cell?_of_block (setRow_other _ _ _ _ hne)).trans (hc i v hv)⟩⟩
theorem Gp{w:World}{g B:Nat}{x:Value}{z:List Int}{q:Array Value}(hv:w.ownsRow B 3 1 x z.length (aF z))(hB:g<B):IntsV z x (w.setRow g q):=by
 obtain⟨o,c,rfl,hr⟩:=bD hv rfl;refine⟨o,c,rfl,hr.le,hr.cap,hr.nil,fun h0=>?_⟩;obtain⟨p,off,e,hlt,hc⟩:=hr.cells h0;have hp:=(World.ownsRow.lt hv p (by rw[e];rfl)).1;have hne:p≠g:=qO;exact⟨p,off,e,by simpa[World.setRow]using hlt,fun i v hv=>(World.cell?_of_block (setRow_other _ _ _ _ hne)).trans (hc i v hv)⟩
theorem vt(W:BL)(z:List Int)(n c cz:Nat)(o oz:Option Addr)(w:World)(A:Nat->Addr)(hW:RowIs w o (bytesV W) c)(hZ:RowIs w oz (aF z) cz)(hn:W.length=n)(h33:33<=n)(h255:n<=255)(hok:EOk n z)
  (hE:(∀v H,¬Chg v W n z H)->Er.Six w A) (Z:Array Value) (hZs:(bytesV bL).toArray=Z) (CS:Array Value) (hCS:(bytesV (a7 W)).toArray=CS):
  Calls Tryz.prog 101 #[.slice o n c,.slice oz z.length cz] w (aAY W n z A w):=by
 obtain⟨w1,hw1⟩:=qM (w.alloc (.cells #[.slice none 0 0,.slice none 0 0,.int .i64 0] 184));have hb1:Below w.heap.size w w1:=by rw[<-hw1];exact qB.alloc qN _
 have hg1:w1.heap[w.heap.size]? =some (.cells #[.slice none 0 0,.slice none 0 0,.int .i64 0] 184 (0,0)):=by rw[<-hw1];exact World.alloc_heap_new _ _
 have hof:=yt W o c w1 (hW.later hb1) qO;rw[hCS,hn]at hof;have HOF:=Lh hof;have hz32:=hok.2.2;have HLO:Hid ((∃C L,RF (dC (a7 W) (Gf.aV (xsL n z))) C L/\(32<2*L+z.length∨(tr C).length<=L))->∀v H,¬Chg v W n z H):=Lh fun⟨C,L,hrf,hc⟩ v H h=>by
  obtain⟨h1,h2,_⟩:=h.roots hrf;have:=h.few;omega
 have HNO:Hid (∀C L,RF (dC (a7 W) (Gf.aV (xsL n z))) C L->(srP (dc C n z) n n).length≠L+z.length->∀v H,¬Chg v W n z H):=Lh fun C L hrf hc v H h=>hc (h.roots hrf).2.2
 have HFI:Hid (∀v,Below w.heap.size w v->Calls Tryz.prog 145 #[.agg CS,.int .i64 (n:Int),.slice oz z.length cz] v (UE (a7 W) n z A v)):=Lh fun v hb=>
  kY (a7 W) z n cz oz v A (by simp[a7]) (hZ.later hb) h33 h255 qO (fun h=>absurd hok h) (fun h=>(hE (HLO.out h)).later hb) CS hCS
 have HW:=Lh hW;have HE:=Lh hE;have HN:=Lh hn;have HOK:=Lh hok;have h33:=Lh h33;have h255:=Lh h255;have HB1:=Lh hb1;have HG1:=Lh hg1;have HW1:=Lh hw1;have hzs:=fZ;rw[hZs]at hzs;have hz1:=one_cell (a7 W);rw[hCS]at hz1;have HZ1:=Lh hz1;have hz2:=cU (ys:=a7 W) (by simp[a7]);rw[hCS]at hz2;have HZ2:=Lh hz2;have HZC:Hid (Z.size=CS.size):=Lh (by rw[<-hZs,<-hCS];simp[bL,a7]);have hbw:n<=c:=by have:=hW.le;simp at this;omega
 have hbc:c<=9223372036854775807:=by have:=hW.cap;unfold maxLen at this;omega
 clear hE hW hZ hZs hCS hb1 hg1 hw1 hof hz1 hz2 hn hok hz32;go_enter Tryz.func101,Tryz.ntmps101
 go_wp2_with (rw[HW1.out])
 refine HOF.out.mono ?_;rintro e w2 ⟨rfl,hb2⟩;have HB2:=Lh (Ks HB1.out hb2);have HG2:=Lh (dY HG1.out hb2);have HGa:Hid ((w2.alloc (.cells Z 232)).heap[w2.heap.size]? =some (.cells Z 232 (0,0))):=Lh (World.alloc_heap_new _ _);obtain⟨w3,hw3⟩:=qM ((w2.alloc (.cells Z 232)).setRow w2.heap.size CS);have hb3:Below w2.heap.size w2 w3:=by rw[<-hw3];exact(qB.alloc qN _).trans (below_setRow qN)
 have HS3:Hid (w3.heap[w2.heap.size]? =some (.cells CS 232 (0,0))):=Lh (by rw[<-hw3];exact setRow_heap _ _ _ _ _ _ HGa.out);have HB3:=Lh (Ks HB2.out hb3);have HG3:=Lh (dY HG2.out hb3);have HW3:=Lh hw3;clear hb2 hb3 hw3 HOF;go_wp2_with (first|(refine wpList_store_row rfl 232 (.tmp 6) (.tmp 13) rfl w2.heap.size CS rfl rfl 232 Z HGa.out HZ2.out HZC.out HZ1.out ?_;rw[HW3.out])|refine wpList_load_row rfl 232 (.tmp 6) rfl w2.heap.size rfl 232 CS (0,0) _ HS3.out bT rfl HZ2.out ?_)
 refine(HFI.out w3 HB3.out).mono ?_;rintro e w4 ⟨hb4,hto⟩;have HB4:=Lh (Ks HB3.out hb4);have HG4:=Lh (dY HG3.out hb4);clear hb4;rcases hto with ⟨⟨k,hk,h⟩,_⟩|⟨_,⟨⟨i,j,hj,hi,h⟩,_⟩|⟨_,⟨h,_⟩|⟨h32,C,L,hrf,hto⟩⟩⟩
 ·have:=HOK.out.1 k hk;omega
 ·exact absurd h (HOK.out.2.1 i j hj hi)
 ·have:=HOK.out.2.2;omega
 rcases hto with ⟨hlost,rfl⟩|⟨hn2,hn3,x1,x2,rfl,hx1,hx2⟩
 ·have HL:=Lh (HLO.out ⟨C,L,hrf,hlost⟩);unfold wv fz;have hb5:Below w4.heap.size w4 (w4.alloc (.cells #[.int .i64 0,.slice none 0 0,.slice none 0 0] 236)):=qB.alloc qN _;have HB5:=Lh (Ks HB4.out hb5);have HG5:=Lh (dY HG4.out hb5);obtain⟨hcc0,hcc1,hcc2,hff0,hff1,hff2⟩:=jz HG5.out;clear hb5 hlost hrf;go_wp2_with fail;refine bodyPost_ret (aD rfl _ _ w.heap.size 184 #[.slice none 0 0,.slice none 0 0,.int .i64 0] (0,0) _ rfl (zU HG5.out _ _ _) Tryz.underlying184 rfl ka) rfl ?_;exact⟨kA HB5.out qN _ _ _,.inl ⟨HL.out,rfl⟩⟩
 ·obtain⟨G,hG⟩:=qM (dc C n z);obtain⟨O,hO⟩:=qM (jP (a7 W) C n z);have hgl:=Rc (n:=n) (z:=z) hrf.len hn3;have hgt:tl G G.length=L+z.length+1:=by
   rw[<-hgl,<-hG];unfold dc;exact Ro _
  have hno:=HNO.out C L hrf;have hro:=fun h=>J1 hrf HN.out h255.out HOK.out hn2 hn3 h
  have hfo:∀H,Reg W C n L z H->All n z H (srP G n n)->(∀p∈srP G n n,evL (dK G) (vi n p)≠0)/\Chg (dd W (amS G O n)) W n z H:=fun H h1 h2=>by
   rw[<-hG]at h2⊢;obtain⟨h3,h4⟩:=h1.forney h2;refine⟨h3,?_⟩;rw[<-hO];exact h1.chg h2 _ (by unfold amS;rw[List.map_map];exact List.map_id _) h4
  rw[hG]at hx1 hgl hno hro;rw[hO]at hx2;obtain⟨oG,cG,rfl,hx1⟩:=hx1;obtain⟨oO,cO,rfl,hx2⟩:=hx2;obtain⟨w5,hw5⟩:=qM (w4.alloc (.cells #[.int .i64 (L:Int),.slice oG G.length cG,.slice oO O.length cO] 236));have hb5:Below w4.heap.size w4 w5:=by rw[<-hw5];exact qB.alloc qN _
  have hf5:w5.heap[w4.heap.size]? =some (.cells #[.int .i64 (L:Int),.slice oG G.length cG,.slice oO O.length cO] 236 (0,0)):=by rw[<-hw5];exact World.alloc_heap_new _ _
  have HB5:=Lh (Ks HB4.out hb5);have HG5:=Lh (dY HG4.out hb5);have HW5:=Lh hw5;have HF5:=Lh hf5;have hGl:G.length<=1000:=qO;have HX1:=Lh (hx1.later hb5);have HX2:=Lh (hx2.later hb5);by_cases hS:(srP G n n).length=L+z.length
  ·obtain⟨H,hr,hall⟩:=hro hS;have hHL:=hr.len;obtain⟨hne,hchg⟩:=hfo H hr hall;have HCO:=Lh (zT W G O (.int .i64 (L:Int)) o oG oO c cG cO n w5 (HW.out.later HB5.out) HX1.out HX2.out HN.out h33.out h255.out hGl qO hne);have HCH:=Lh hchg;have HHL:=Lh hHL;obtain⟨R,hR⟩:=qM (dd W (amS G O n));rw[hR]at HCO HCH;have hRl:R.length=n:=by rw[<-hR,du,HN.out]
   have HRL:=Lh hRl;clear hG hO hgl hgt hno hro hfo hx1 hx2 hb5 hf5 hw5 hGl hS hr hall hHL hne hchg hrf hn2 hn3 h32 hR hRl;obtain⟨gf,hgf⟩:=qM w4.heap.size;rw[hgf]at HF5;go_wp2_with (first|rw[HW5.out]|refine wpList_load_row rfl 236 (.tmp 8) rfl gf rfl 236 _ (0,0) _ HF5.out Tryz.underlying236 rfl fp ?_)
   try rw[HW5.out]
   refine HCO.out.mono ?_;rintro e w6 ⟨xR,rfl,⟨oR,cR,rfl,hR6⟩,hb6⟩;rw[HRL.out];have HB6:=Lh (Ks HB5.out hb6);have HG6:=Lh (dY HG5.out hb6);have HF6:=Lh (eS HF5.out hb6);have HR6:=Lh hR6;have HDF:Hid (∀v,Below w6.heap.size w6 v->Calls Tryz.prog 147 #[.slice o n c,.slice oR n cR] v fun e w'=>∃x,e=.returned x/\w'.ownsRow v.heap.size 3 1 x (dfL W R n).length (aF (dfL W R n))/\Below v.heap.size v w'):=Lh fun v hb=>by
    have:=ux W R o oR c cR v (HW.out.later (Ks HB6.out hb)) (hR6.later hb) (by rw[HN.out,HRL.out]) (by rw[HN.out];have:=h255.out;omega);rwa[HN.out,HRL.out]at this
   have hlc:n<=cR:=by have:=hR6.le;simp[HRL.out]at this;omega
   have hlc2:cR<=9223372036854775807:=by have:=hR6.cap;unfold maxLen at this;omega
   have hcf:=(il (show w6.drew.heap[gf]? =_ from HF6.out)).1;have HBD:Hid (Below w6.heap.size w6 w6.drew):=Lh ⟨rfl,rfl,rfl,Nat.le_refl _,fun _ _=>rfl⟩;have HGL:Hid (w.heap.size<w6.drew.heap.size):=Lh (by
    have h1:=(aE.1 HG6.out).1;exact h1)
   clear hb6 hR6 HCO;go_wp2_with fail;refine wp_region_any qK ?_;change wpAny _ _ _ _ _ _ _ (World.drew _);refine wpAny_take (i:=0) (v:=?va1) rfl qK qK qK qI (Or.inl ⟨by rfl,?ha1⟩) ?ra1;case ha1=>(intro w;(go_simp<;>with_reducible rfl))
   refine wpAny_take (i:=1) (v:=?va2) rfl qK qK qK qI (Or.inl ⟨by rfl,?ha2⟩) ?ra2;case ha2=>(intro w;(go_simp<;>with_reducible rfl))
   refine wpAny_take (i:=2) (v:=?va3) rfl qK qK qK qI (Or.inl ⟨by rfl,?ha3⟩) ?ra3;case ha3=>(intro w;(go_simp<;>with_reducible rfl))
   refine wpAny_take (i:=4) (v:=?va4) rfl qK qK qK qI (Or.inl ⟨by rfl,?ha4⟩) ?ra4;case ha4=>(intro w;(go_simp<;>with_reducible rfl))
   refine wpAny_ready (rs:=[3,5]) qK qS ?_;refine AllReady.cons rfl (fun K hK=>?_) (AllReady.cons rfl (fun K hK=>?_) AllReady.nil)
   ·go_simp;refine(HDF.out _ HBD.out).mono ?_;rintro e w7 ⟨x7,rfl,hv7,hb7⟩;obtain⟨o7,c7,rfl,_⟩:=bD hv7 rfl;have hcf7:=(il (eS (show w6.drew.heap[gf]? =_ from HF6.out) hb7)).1;have HV7:=Lh hv7;have HG7:=Lh (dY (show w6.drew.heap[w.heap.size]? =_ from HG6.out) hb7);have HB7:=Lh (Ks (Kit.dn HB6.out 1) hb7);have HR7:=Lh ((HR6.out.later HBD.out).later hb7);clear hv7 hb7;refine hK _ _ ?_;clear hK K;refine wpAny_ready (rs:=[5]) qK qS ?_;refine AllReady.cons rfl (fun K hK=>?_) AllReady.nil;go_simp;refine hK _ _ ?_;clear hK K;refine wpAny_ready (rs:=[6]) qK qS ?_;refine AllReady.cons rfl (fun K hK=>?_) AllReady.nil;go_simp;refine hK _ _ ?_;clear hK K;refine wpAny_ready (rs:=[7]) qK qS ?_;refine AllReady.cons rfl (fun K hK=>?_) AllReady.nil;rw[if_pos (by rfl)];refine wp_store_row 184 (.tmp 4) (.tmp 47) rfl w.heap.size #[.slice oR n cR,.slice o7 (dfL W R n).length c7,.int .i64 (L:Int)] rfl rfl 184 _ HG7.out ka rfl (by simp[Value.oneCell']) (hK _ _ ?_);clear hK K;refine wpAny_ready (rs:=[8]) qK qS ?_;refine AllReady.cons rfl (fun K hK=>?_) AllReady.nil;go_simp;refine hK _ _ ?_;clear hK K;refine wpAny_done qK ?_ _;go_wp2_with fail;refine bodyPost_ret (aD rfl _ _ w.heap.size 184 #[.slice oR n cR,.slice o7 (dfL W R n).length c7,.int .i64 (L:Int)] (0,0) _ rfl (setRow_heap _ _ _ _ _ _ HG7.out) Tryz.underlying184 rfl ka) rfl ?_;refine⟨HB7.out.trans (below_setRow qN),.inr ⟨R,H,_,_,HCH.out,by rw[HHL.out];rfl,⟨oR,cR,by rw[HRL.out],Ny HG7.out HR7.out⟩,Gp HV7.out HGL.out⟩⟩
   ·go_simp;refine hK _ _ ?_;clear hK K;refine wpAny_ready (rs:=[3]) qK qS ?_;refine AllReady.cons rfl (fun K hK=>?_) AllReady.nil;go_simp;refine(HDF.out _ HBD.out).mono ?_;rintro e w7 ⟨x7,rfl,hv7,hb7⟩;obtain⟨o7,c7,rfl,_⟩:=bD hv7 rfl;have HV7:=Lh hv7;have HG7:=Lh (dY (show w6.drew.heap[w.heap.size]? =_ from HG6.out) hb7);have HB7:=Lh (Ks (Kit.dn HB6.out 1) hb7);have HR7:=Lh ((HR6.out.later HBD.out).later hb7);clear hv7 hb7;refine hK _ _ ?_;clear hK K;refine wpAny_ready (rs:=[6]) qK qS ?_;refine AllReady.cons rfl (fun K hK=>?_) AllReady.nil;go_simp;refine hK _ _ ?_;clear hK K;refine wpAny_ready (rs:=[7]) qK qS ?_;refine AllReady.cons rfl (fun K hK=>?_) AllReady.nil;rw[if_pos (by rfl)];refine wp_store_row 184 (.tmp 4) (.tmp 47) rfl w.heap.size #[.slice oR n cR,.slice o7 (dfL W R n).length c7,.int .i64 (L:Int)] rfl rfl 184 _ HG7.out ka rfl (by simp[Value.oneCell']) (hK _ _ ?_);clear hK K;refine wpAny_ready (rs:=[8]) qK qS ?_;refine AllReady.cons rfl (fun K hK=>?_) AllReady.nil;go_simp;refine hK _ _ ?_;clear hK K;refine wpAny_done qK ?_ _;go_wp2_with fail;refine bodyPost_ret (aD rfl _ _ w.heap.size 184 #[.slice oR n cR,.slice o7 (dfL W R n).length c7,.int .i64 (L:Int)] (0,0) _ rfl (setRow_heap _ _ _ _ _ _ HG7.out) Tryz.underlying184 rfl ka) rfl ?_;refine⟨HB7.out.trans (below_setRow qN),.inr ⟨R,H,_,_,HCH.out,by rw[HHL.out];rfl,⟨oR,cR,by rw[HRL.out],Ny HG7.out HR7.out⟩,Gp HV7.out HGL.out⟩⟩
  ·have hnc:=hno hS;have HNC:=Lh hnc;have hE5:=(HE.out hnc).later HB5.out;have HCO:=Lh (vr W G O (.int .i64 (L:Int)) o oG oO c cG cO n w5 (HW.out.later HB5.out) HX1.out HX2.out HN.out h33.out h255.out hGl qO _ _ hE5.c16);clear hG hO hgl hgt hno hro hfo hx1 hx2 hb5 hf5 hw5 hGl hS hrf hn2 hn3 h32 hnc hE5;obtain⟨gf,hgf⟩:=qM w4.heap.size;rw[hgf]at HF5;go_wp2_with (first|rw[HW5.out]|refine wpList_load_row rfl 236 (.tmp 8) rfl gf rfl 236 _ (0,0) _ HF5.out Tryz.underlying236 rfl fp ?_)
   try rw[HW5.out]
   refine HCO.out.mono ?_;rintro e w6 ⟨rfl,hb6⟩;have HB6:=Lh (Ks HB5.out hb6);have HG6:=Lh (dY HG5.out hb6);obtain⟨hcc0,hcc1,hcc2,hff0,hff1,hff2⟩:=jz HG6.out;clear hb6 HCO;go_wp2_with fail;refine bodyPost_ret (aD rfl _ _ w.heap.size 184 #[.slice none 0 0,.slice none 0 0,.int .i64 0] (0,0) _ rfl (zU HG6.out _ _ _) Tryz.underlying184 rfl ka) rfl ?_;exact⟨kA HB6.out qN _ _ _,.inl ⟨HNC.out,rfl⟩⟩
