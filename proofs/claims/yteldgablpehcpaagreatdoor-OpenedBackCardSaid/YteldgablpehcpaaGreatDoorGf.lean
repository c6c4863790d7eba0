/- Gf -/
import Init
set_option linter.unusedVariables false
set_option linter.unusedSimpArgs false
set_option maxRecDepth 100000
set_option maxHeartbeats 8000000
namespace Go.Proofs.YteldgablpehcpaaGreatDoor
namespace Gf
def dbl(a:Nat):Nat:=if a<128 then 2*a else(2*a-256)^^^29
def mulN:Nat->Nat->Nat->Nat
 |0,_,_=>0
 |n+1,a,b=>(if b % 2=1 then a else 0)^^^mulN n (dbl a) (b / 2)
def mul(a b:Nat):Nat:=mulN 8 a b
def ex:Nat->Nat
 |0=>1
 |n+1=>dbl (ex n)
def rn:Nat->Nat->Nat
 |0,a=>a
 |n+1,a=>dbl (rn n a)
def Ww:Nat->Nat->Nat->Nat->Nat
 |0,_,_,k=>k
 |n+1,p,a,k=>if p=a then k else Ww n (dbl p) a (k+1)
def lg(a:Nat):Nat:=Ww 255 1 a 0
def pw(a:Nat):Nat->Nat
 |0=>1
 |n+1=>mul (pw a n) a
theorem ko{p:Nat->Bool}{n:Nat}(h:(List.range n).all p=true)(a:Nat)(ha:a<n):p a=true:=
 List.all_eq_true.1 h a (List.mem_range.2 ha)
theorem nN(a:Nat)(ha:a<256):dbl a<256:=by
 have h:(List.range 256).all (fun a=>decide (dbl a<256))=true:=by decide+kernel
 simpa using ko h a ha
theorem Cz{a b:Nat}(ha:a<256)(hb:b<256):a^^^b<256:=Nat.xor_lt_two_pow (n:=8) ha hb
theorem yd(a b:Nat)(ha:a<256)(hb:b<256):dbl (a^^^b)=dbl a^^^dbl b:=by
 have h:(List.range 256).all (fun a=>(List.range 256).all fun b=>dbl (a^^^b)==dbl a^^^dbl b)=true:=by decide+kernel
 simpa using ko (ko h a ha) b hb
theorem AR:dbl 0=0:=rfl
theorem Fg(n a b:Nat)(ha:a<256):mulN n a b<256:=by
 induction n generalizing a b with
 |zero=>simp[mulN]
 |succ n ih=>
  unfold mulN;refine Cz ?_ (ih _ _ (nN a ha));split<;>omega
theorem mul_lt(a b:Nat)(ha:a<256):mul a b<256:=Fg 8 a b ha
theorem LQ(n a b c:Nat)(ha:a<256)(hb:b<256):mulN n (a^^^b) c=mulN n a c^^^mulN n b c:=by
 induction n generalizing a b c with
 |zero=>simp[mulN]
 |succ n ih=>
  unfold mulN;rw[yd a b ha hb,ih _ _ _ (nN a ha) (nN b hb)];split
  ·ac_rfl
  ·simp
theorem ye(a b c:Nat)(ha:a<256)(hb:b<256):mul (a^^^b) c=mul a c^^^mul b c:=LQ 8 a b c ha hb
theorem IA(n b:Nat):mulN n 0 b=0:=by
 induction n generalizing b with
 |zero=>rfl
 |succ n ih=>unfold mulN;rw[AR,ih];simp
theorem eu(b:Nat):mul 0 b=0:=IA 8 b
theorem nA(n a:Nat):mulN n a 0=0:=by
 induction n generalizing a with
 |zero=>rfl
 |succ n ih=>unfold mulN;rw[ih];simp
theorem cZ(a:Nat):mul a 0=0:=nA 8 a
theorem LS(n a b:Nat)(ha:a<256):mulN n (dbl a) b=dbl (mulN n a b):=by
 induction n generalizing a b with
 |zero=>rfl
 |succ n ih=>
  unfold mulN;rw[ih _ _ (nN a ha)];have h2:=Fg n (dbl a) (b / 2) (nN a ha);split
  ·rw[yd _ _ ha h2]
  ·rw[yd _ _ (by omega) h2,AR]
theorem QC(a b:Nat)(ha:a<256):mul (dbl a) b=dbl (mul a b):=LS 8 a b ha
theorem jT(b:Nat)(hb:b<256):mul 1 b=b:=by
 have h:(List.range 256).all (fun b=>mul 1 b==b)=true:=by decide+kernel
 simpa using ko h b hb
theorem AS(n:Nat):ex n<256:=by
 induction n with
 |zero=>decide
 |succ n ih=>exact nN _ ih
theorem UY(n b:Nat)(hb:b<256):mul (ex n) b=rn n b:=by
 induction n with
 |zero=>exact jT b hb
 |succ n ih=>rw[ex,QC _ _ (AS n),ih];rfl
theorem QD(n m:Nat):rn n (ex m)=ex (n+m):=by
 induction n with
 |zero=>simp[rn]
 |succ n ih=>rw[rn,ih,show n+1+m=(n+m)+1 by omega,ex]
theorem dG(n m:Nat):mul (ex n) (ex m)=ex (n+m):=by rw[UY _ _ (AS m),QD]
theorem UZ:ex 255=1:=by decide+kernel
theorem uO(n:Nat):ex (n+255)=ex n:=by
 rw[<-dG,UZ];exact dG n 0
theorem IB(k n:Nat):ex (n+255*k)=ex n:=by
 induction k with
 |zero=>simp
 |succ k ih=>rw[show n+255*(k+1)=(n+255*k)+255 by omega,uO,ih]
theorem uP(n:Nat):ex (n % 255)=ex n:=by
 have h:=IB (n / 255) (n % 255);rw[Nat.mod_add_div]at h;exact h.symm
theorem nO(a:Nat)(h0:a≠0)(ha:a<256):ex (lg a)=a/\lg a<255:=by
 have h:(List.range 256).all (fun a=>decide (a≠0->ex (lg a)=a/\lg a<255))=true:=by decide+kernel
 have:=ko h a ha;simp only[decide_eq_true_eq]at this;exact this h0
theorem TZ(n:Nat)(hn:n<255):lg (ex n)=n:=by
 have h:(List.range 255).all (fun a=>lg (ex a)==a)=true:=by decide+kernel
 simpa using ko h n hn
theorem LU(n:Nat):ex n≠0:=by
 have h:(List.range 255).all (fun a=>decide (ex a≠0))=true:=by decide+kernel
 have:=ko h (n % 255) (Nat.mod_lt _ (by decide));rw[uP]at this;simpa using this
theorem yf(n m:Nat):ex n=ex m↔n % 255=m % 255:=by
 constructor
 ·intro h;have h1:=TZ (n % 255) (Nat.mod_lt _ (by decide));have h2:=TZ (m % 255) (Nat.mod_lt _ (by decide));rw[uP]at h1 h2;rw[<-h1,<-h2,h]
 ·intro h;rw[<-uP n,<-uP m,h]
theorem qc(a:Nat)(h0:a≠0)(ha:a<256):∃n,n<255/\a=ex n:=
 ⟨lg a,(nO a h0 ha).2,(nO a h0 ha).1.symm⟩
theorem jh(a b:Nat)(ha:a<256)(hb:b<256):mul a b=mul b a:=by
 by_cases h1:a=0
 ·subst h1;rw[eu,cZ]
 by_cases h2:b=0
 ·subst h2;rw[eu,cZ]
 obtain⟨n,_,rfl⟩:=qc a h1 ha;obtain⟨m,_,rfl⟩:=qc b h2 hb;rw[dG,dG,Nat.add_comm]
theorem lK(a b c:Nat)(ha:a<256)(hb:b<256)(hc:c<256):mul (mul a b) c=mul a (mul b c):=by
 by_cases h1:a=0
 ·subst h1;simp only[eu]
 by_cases h2:b=0
 ·subst h2;simp only[eu,cZ]
 by_cases h3:c=0
 ·subst h3;simp only[cZ]
 obtain⟨n,_,rfl⟩:=qc a h1 ha;obtain⟨m,_,rfl⟩:=qc b h2 hb;obtain⟨k,_,rfl⟩:=qc c h3 hc;rw[dG,dG,dG,dG,Nat.add_assoc]
theorem kp(a:Nat)(ha:a<256):mul a 1=a:=by rw[jh a 1 ha (by decide),jT a ha]
theorem we(a b c:Nat)(ha:a<256)(hb:b<256)(hc:c<256):mul a (b^^^c)=mul a b^^^mul a c:=by
 rw[jh a _ ha (Cz hb hc),ye b c a hb hc,jh b a hb ha,jh c a hc ha]
theorem AT(a b:Nat)(ha:a<256)(hb:b<256)(h0:a≠0):mul a b=0↔b=0:=by
 constructor
 ·intro h;apply Decidable.byContradiction;intro h2;obtain⟨n,_,rfl⟩:=qc a h0 ha;obtain⟨m,_,rfl⟩:=qc b h2 hb;rw[dG]at h;exact LU _ h
 ·rintro rfl;exact cZ a
theorem pU(a n:Nat):pw a n<256:=by
 induction n with
 |zero=>show 1<256;omega
 |succ n ih=>exact mul_lt _ _ ih
theorem LW(a n:Nat)(ha:a<256):pw (mul a a) n=pw a (2*n):=by
 induction n with
 |zero=>rfl
 |succ n ih=>
  rw[pw,ih,show 2*(n+1)=2*n+1+1 by omega,pw,pw,lK _ _ _ (pU a _) ha ha]
theorem xN(n k:Nat):pw (ex n) k=ex (n*k):=by
 induction k with
 |zero=>rfl
 |succ k ih=>rw[pw,ih,dG,Nat.mul_succ]
theorem LZ(n:Nat):pw 2 n=ex n:=by
 have h:(2:Nat)=ex 1:=rfl;rw[h,xN,Nat.one_mul]
def gm(a b:UInt8):UInt8:=UInt8.ofNat (mul a.toNat b.toNat)
theorem eL(a b:UInt8):(gm a b).toNat=mul a.toNat b.toNat:=by
 have:=mul_lt a.toNat b.toNat (UInt8.toNat_lt a);simp only[gm,UInt8.toNat_ofNat'];omega
theorem bR{a b:UInt8}(h:a.toNat=b.toNat):a=b:=UInt8.toNat_inj.1 h
theorem aX(a b:UInt8):gm a b=gm b a:=bR (by rw[eL,eL,jh _ _ (UInt8.toNat_lt a) (UInt8.toNat_lt b)])
theorem aS(a b c:UInt8):gm (gm a b) c=gm a (gm b c):=bR (by
 rw[eL,eL,eL,eL,lK _ _ _ (UInt8.toNat_lt a) (UInt8.toNat_lt b) (UInt8.toNat_lt c)])
theorem aO(a:UInt8):gm a 0=0:=bR (by rw[eL];exact cZ _)
theorem aK(a:UInt8):gm 0 a=0:=by rw[aX,aO]
theorem iX(a:UInt8):gm 1 a=a:=bR (by rw[eL];exact jT _ (UInt8.toNat_lt a))
theorem cd(a:UInt8):gm a 1=a:=by rw[aX,iX]
theorem fj(a b c:UInt8):gm a (b^^^c)=gm a b^^^gm a c:=bR (by
 rw[eL,UInt8.toNat_xor,UInt8.toNat_xor,eL,eL,we _ _ _ (UInt8.toNat_lt a) (UInt8.toNat_lt b) (UInt8.toNat_lt c)])
theorem iY(a b c:UInt8):gm (a^^^b) c=gm a c^^^gm b c:=by rw[aX,fj,aX c a,aX c b]
theorem bS(a b:UInt8)(h:a≠0):gm a b=0↔b=0:=by
 have h0:a.toNat≠0:=fun e=>h (bR e)
 have:=AT a.toNat b.toNat (UInt8.toNat_lt a) (UInt8.toNat_lt b) h0;constructor
 ·intro e;exact bR (this.1 (by rw[<-eL,e];rfl))
 ·intro e;rw[e,aO]
theorem nP(a b c d:UInt8):(a^^^b)^^^(c^^^d)=(a^^^c)^^^(b^^^d):=by
 rw[UInt8.xor_assoc,UInt8.xor_assoc,<-UInt8.xor_assoc b c d,UInt8.xor_comm b c,UInt8.xor_assoc c b d]
theorem mD(a b:UInt8):(a^^^b)^^^b=a:=by rw[UInt8.xor_assoc,UInt8.xor_self,UInt8.xor_zero]
theorem bI(a b:UInt8)(h:a^^^b=0):a=b:=by
 have:=mD a b;rw[h,UInt8.zero_xor]at this;exact this.symm
def sm(F:Nat->UInt8):Nat->UInt8
 |0=>0
 |n+1=>sm F n^^^F n
theorem aW{F G:Nat->UInt8}{n:Nat}(h:∀i,i<n->F i=G i):sm F n=sm G n:=by
 induction n with
 |zero=>rfl
 |succ n ih=>rw[sm,sm,ih (fun i hi=>h i (by omega)),h n (by omega)]
theorem bU{F:Nat->UInt8}{n:Nat}(h:∀i,i<n->F i=0):sm F n=0:=by
 induction n with
 |zero=>rfl
 |succ n ih=>rw[sm,ih (fun i hi=>h i (by omega)),h n (by omega)];rfl
theorem mF(F G:Nat->UInt8)(n:Nat):sm (fun i=>F i^^^G i) n=sm F n^^^sm G n:=by
 induction n with
 |zero=>exact UInt8.xor_zero.symm
 |succ n ih=>rw[sm,sm,sm,ih,nP]
theorem jC(a:UInt8)(F:Nat->UInt8)(n:Nat):sm (fun i=>gm a (F i)) n=gm a (sm F n):=by
 induction n with
 |zero=>rw[sm,sm,aO]
 |succ n ih=>rw[sm,sm,ih,fj]
theorem iB(F:Nat->UInt8)(n:Nat):sm F (n+1)=F 0^^^sm (fun i=>F (i+1)) n:=by
 induction n with
 |zero=>rw[sm,sm,sm,UInt8.zero_xor,UInt8.xor_zero]
 |succ n ih=>rw[sm,ih,sm,UInt8.xor_assoc]
theorem fW{F:Nat->UInt8}{n m:Nat}(hn:n<=m)(h:∀i,n<=i->F i=0):sm F m=sm F n:=by
 induction m with
 |zero=>rw[show n=0 by omega]
 |succ m ih=>
  by_cases e:n=m+1
  ·rw[e]
  ·rw[sm,ih (by omega),h m (by omega),UInt8.xor_zero]
theorem yg(F:Nat->UInt8)(n m:Nat):sm F (n+m)=sm F n^^^sm (fun i=>F (n+i)) m:=by
 induction m with
 |zero=>rw[Nat.add_zero,sm,UInt8.xor_zero]
 |succ m ih=>rw[<-Nat.add_assoc,sm,ih,sm,UInt8.xor_assoc]
def ps(n:Nat)(g:Nat->UInt8)(k:Nat):UInt8:=if n<=k then g (k-n)else 0
def pm(n:Nat)(f g:Nat->UInt8)(k:Nat):UInt8:=sm (fun i=>gm (f i) (ps i g k)) n
theorem yh{n m:Nat}{f g:Nat->UInt8}(hn:n<=m)(h:∀i,n<=i->f i=0)(k:Nat):pm m f g k=pm n f g k:=
 fW hn (fun i hi=>by rw[h i hi,aK])
theorem U0{n:Nat}{f g:Nat->UInt8}(h:∀i,n<=i->f i=0)(k:Nat):pm n f g k=sm (fun i=>gm (f i) (g (k-i))) (k+1):=by
 have h1:pm n f g k=pm (n+(k+1)) f g k:=(yh (by omega) h k).symm;rw[h1];unfold pm;rw[fW (n:=k+1) (by omega) (fun i hi=>by rw[show ps i g k=0 from if_neg (by omega),aO])];exact aW fun i hi=>by rw[show ps i g k=g (k-i) from if_pos (by omega)]
def px(x:UInt8):Nat->UInt8
 |0=>1
 |n+1=>gm (px x n) x
theorem DD(x:UInt8)(n m:Nat):px x (n+m)=gm (px x n) (px x m):=by
 induction m with
 |zero=>rw[Nat.add_zero,px,cd]
 |succ m ih=>rw[<-Nat.add_assoc,px,ih,px,aS]
def ev(n:Nat)(f:Nat->UInt8)(x:UInt8):UInt8:=sm (fun i=>gm (f i) (px x i)) n
theorem jD{n:Nat}{f g:Nat->UInt8}{x:UInt8}(h:∀i,i<n->f i=g i):ev n f x=ev n g x:=aW fun i hi=>by rw[h i hi]
theorem fA{n m:Nat}{f:Nat->UInt8}{x:UInt8}(hn:n<=m)(h:∀i,n<=i->f i=0):ev m f x=ev n f x:=fW hn (fun i hi=>by rw[h i hi,aK])
theorem uQ(n:Nat)(f g:Nat->UInt8)(x:UInt8):ev n (fun i=>f i^^^g i) x=ev n f x^^^ev n g x:=by
 unfold ev;rw[<-mF];exact aW fun i _=>iY _ _ _
theorem Fh(n:Nat)(a:UInt8)(f:Nat->UInt8)(x:UInt8):ev n (fun i=>gm a (f i)) x=gm a (ev n f x):=by
 unfold ev;rw[<-jC];exact aW fun i _=>aS _ _ _
theorem L0(n m:Nat)(g:Nat->UInt8)(x:UInt8):ev (n+m) (ps n g) x=gm (px x n) (ev m g x):=by
 unfold ev;rw[yg,bU (fun i hi=>by rw[show ps n g i=0 from if_neg (by omega),aK]),UInt8.zero_xor,<-jC];refine aW fun i _=>?_
 rw[show ps n g (n+i)=g i from by unfold ps;rw[if_pos (by omega)];congr 1;omega,DD,<-aS,<-aS,aX (g i)]
theorem Wx{n m N:Nat}{f g:Nat->UInt8}(hg:∀i,m<=i->g i=0)(hN:n+m<=N)(x:UInt8):ev N (pm n f g) x=gm (ev n f x) (ev m g x):=by
 induction n with
 |zero=>
  rw[show ev 0 f x=0 from rfl,aK];exact bU fun i _=>by rw[show pm 0 f g i=0 from rfl,aK]
 |succ n ih=>
  have h1:ev N (pm (n+1) f g) x=ev N (fun k=>pm n f g k^^^gm (f n) (ps n g k)) x:=rfl;have h2:ev N (ps n g) x=gm (px x n) (ev m g x):=by
   rw[<-L0];refine fA (by omega) fun i hi=>?_
   unfold ps;rw[if_pos (by omega)];exact hg _ (by omega)
  rw[h1,uQ,Fh,ih (by omega),h2,show ev (n+1) f x=ev n f x^^^gm (f n) (px x n) from rfl,iY,aS]
def horner(f:Nat->UInt8)(x:UInt8):Nat->Nat->UInt8
 |0,_=>0
 |c+1,i=>gm (horner f x c (i+1)) x^^^f i
theorem ID(f:Nat->UInt8)(x:UInt8)(c i:Nat):horner f x c i=ev c (fun j=>f (i+j)) x:=by
 induction c generalizing i with
 |zero=>rfl
 |succ c ih=>
  rw[horner,ih];unfold ev;rw[iB,show px x 0=1 from rfl,cd,Nat.add_zero,UInt8.xor_comm,aX _ x,<-jC];congr 1
  refine aW fun j _=>?_
  dsimp only;rw[px,show i+1+j=i+(j+1) by omega,aX (px x j) x,<-aS,<-aS,aX x]
def pd(f:Nat->UInt8)(i:Nat):UInt8:=if i % 2=0 then f (i+1)else 0
theorem L6(f g:Nat->UInt8)(i:Nat):pd (fun k=>f k^^^g k) i=pd f i^^^pd g i:=by
 unfold pd;split
 ·rfl
 ·rfl
theorem T0(a:UInt8)(f:Nat->UInt8)(i:Nat):pd (fun k=>gm a (f k)) i=gm a (pd f i):=by
 unfold pd;split
 ·rfl
 ·rw[aO]
theorem T7(n:Nat)(g:Nat->UInt8)(k:Nat):pd (ps n g) k=(if n % 2=1 then ps (n-1) g k else 0)^^^ps n (pd g) k:=by
 unfold pd ps;dsimp only;by_cases hk:k % 2=0
 ·rw[if_pos hk];by_cases hn:n % 2=1
  ·rw[if_pos hn];by_cases h1:n<=k+1
   ·rw[if_pos h1,if_pos (show n-1<=k by omega),show k-(n-1)=k+1-n by omega];by_cases h2:n<=k
    ·rw[if_pos h2,if_neg (by omega),UInt8.xor_zero]
    ·rw[if_neg h2,UInt8.xor_zero]
   ·rw[if_neg h1,if_neg (show ¬n-1<=k by omega),if_neg (by omega)];rfl
  ·rw[if_neg hn,UInt8.zero_xor];by_cases h2:n<=k
   ·rw[if_pos (by omega),if_pos h2,if_pos (by omega),show k-n+1=k+1-n by omega]
   ·rw[if_neg (by omega),if_neg h2]
 ·rw[if_neg hk];by_cases hn:n % 2=1
  ·rw[if_pos hn];by_cases h2:n<=k
   ·rw[if_pos (by omega),if_pos h2,if_pos (by omega),show k-(n-1)=k-n+1 by omega,UInt8.xor_self]
   ·rw[if_neg (by omega),if_neg h2];rfl
  ·rw[if_neg hn,UInt8.zero_xor];by_cases h2:n<=k
   ·rw[if_pos h2,if_neg (by omega)]
   ·rw[if_neg h2]
end Gf
def co(z:List UInt8)(i:Nat):UInt8:=z.getD i 0
theorem aZ{z:List UInt8}{i:Nat}(h:z.length<=i):co z i=0:=by simp[co,List.getD_eq_getElem?_getD,List.getElem?_eq_none h]
def tl(z:List UInt8):Nat->Nat
 |0=>0
 |n+1=>if co z n=0 then tl z n else n+1
theorem uR(z:List UInt8)(n:Nat):tl z n<=n:=by
 induction n with
 |zero=>exact Nat.le_refl _
 |succ n ih=>rw[tl];split<;>omega
theorem tU(z:List UInt8)(n i:Nat)(h:tl z n<=i)(hi:i<n):co z i=0:=by
 induction n with
 |zero=>omega
 |succ n ih=>
  rw[tl]at h;split at h
  ·by_cases e:i=n
   ·subst e;assumption
   ·exact ih h (by omega)
  ·omega
theorem nQ(z:List UInt8)(n:Nat)(h:tl z n≠0):co z (tl z n-1)≠0:=by
 induction n with
 |zero=>exact absurd rfl h
 |succ n ih=>
  rw[tl]at h⊢;split
  ·rw[if_pos (by assumption)]at h;exact ih h
  ·rw[Nat.add_sub_cancel];assumption
theorem oe(z:List UInt8)(n m:Nat)(hm:m<=n)(h1:∀i,m<=i->i<n->co z i=0)(h2:m≠0->co z (m-1)≠0):tl z n=m:=by
 have a:=uR z n;rcases Nat.lt_trichotomy (tl z n) m with h|h|h
 ·exact absurd (tU z n (m-1) (by omega) (by omega)) (h2 (by omega))
 ·exact h
 ·exact absurd (h1 (tl z n-1) (by omega) (by omega)) (nQ z n (by omega))
def tr(z:List UInt8):List UInt8:=z.take (tl z z.length)
theorem cL(z:List UInt8):(tr z).length=tl z z.length:=by
 have:=uR z z.length;simp only[tr,List.length_take];omega
theorem iR(z:List UInt8):(tr z).length<=z.length:=by rw[cL];exact uR _ _
theorem jU(z:List UInt8)(n i:Nat):co (z.take n) i=if i<n then co z i else 0:=by
 unfold co;by_cases h:i<n
 ·rw[if_pos h];simp[List.getD_eq_getElem?_getD,List.getElem?_take_of_lt h]
 ·rw[if_neg h,List.getD_eq_getElem?_getD,List.getElem?_eq_none (by simp;omega)];rfl
theorem eR(z:List UInt8)(i:Nat):co (tr z) i=co z i:=by
 unfold tr;rw[jU];split
 ·rfl
 ·by_cases h:i<z.length
  ·exact(tU z z.length i (by omega) h).symm
  ·exact(aZ (by omega)).symm
theorem aN{a b:List UInt8}(hl:a.length=b.length)(h:∀i,i<a.length->co a i=co b i):a=b:=by
 refine List.ext_getElem hl fun i h1 h2=>?_
 have:=h i h1;simpa[co,List.getD_eq_getElem?_getD,h1,h2]using this
theorem Fi(z:List UInt8)(n:Nat)(h:z.length<=n):tl z n=tl z z.length:=by
 have a:=uR z z.length;refine oe z n _ (by omega) (fun i h1 h2=>?_) (fun h=>nQ z _ h);by_cases e:i<z.length
 ·exact tU z z.length i h1 e
 ·exact aZ (by omega)
theorem La(a b:List UInt8)(n:Nat)(h:∀i,co a i=co b i):tl a n=tl b n:=by
 induction n with
 |zero=>rfl
 |succ n ih=>rw[tl,tl,h n,ih]
theorem ed{a b:List UInt8}(h:∀i,co a i=co b i):tr a=tr b:=by
 have e:tl a a.length=tl b b.length:=by
  rw[<-Fi a (a.length+b.length) (by omega),<-Fi b (a.length+b.length) (by omega)];exact La a b _ h
 refine aN (by rw[cL,cL,e]) fun i _=>by rw[eR,eR,h]
theorem AU(z:List UInt8):tr (tr z)=tr z:=ed fun i=>eR z i
def tab(f:Nat->UInt8)(n:Nat):List UInt8:=(List.range n).map f
@[simp] theorem dU(f:Nat->UInt8)(n:Nat):(tab f n).length=n:=by simp[tab]
theorem aT(f:Nat->UInt8)(n i:Nat)(h:i<n):co (tab f n) i=f i:=by
 simp[co,tab,List.getD_eq_getElem?_getD,List.getElem?_range h]
theorem kM (f:Nat->UInt8)(n i:Nat)(h:∀j,n<=j->f j=0):co (tab f n) i=f i:=by
 by_cases e:i<n
 ·exact aT f n i e
 ·rw[aZ (by simpa using e),h i (by omega)]
def mG(p q:List UInt8):List UInt8:=tab (fun i=>co p i^^^co q i) (max p.length q.length)
def dV(p:List UInt8)(n:Nat):List UInt8:=List.replicate n 0++p
def dK(p:List UInt8):List UInt8:=tab (Gf.pd (co p)) p.length
def bB(p q:List UInt8):List UInt8:=tab (Gf.pm p.length (co p) (co q)) (p.length+q.length)
def evL(p:List UInt8)(x:UInt8):UInt8:=Gf.ev p.length (co p) x
theorem kN(p q:List UInt8)(i:Nat):co (mG p q) i=co p i^^^co q i:=
 kM _ _ _ fun j hj=>by rw[aZ (by omega),aZ (by omega)];rfl
theorem lL(p:List UInt8)(i:Nat):co (dK p) i=Gf.pd (co p) i:=
 kM _ _ _ fun j hj=>by unfold Gf.pd;split<;>first|exact aZ (by omega)|rfl
theorem Wz(p q:List UInt8)(k:Nat)(h:p.length+q.length<=k):Gf.pm p.length (co p) (co q) k=0:=
 Gf.bU fun i hi=>by
  rw[show Gf.ps i (co q) k=0 from by unfold Gf.ps;split<;>first|exact aZ (by omega)|rfl,Gf.aO]
theorem ir(p q:List UInt8)(k:Nat):co (bB p q) k=Gf.pm p.length (co p) (co q) k:=kM _ _ _ fun j hj=>Wz p q j hj
theorem bY (p q:List UInt8)(k:Nat):co (bB p q) k=Gf.sm (fun i=>Gf.gm (co p i) (co q (k-i))) (k+1):=by
 rw[ir,Gf.U0 fun i hi=>aZ hi]
theorem IF(p:List UInt8)(n i:Nat):co (dV p n) i=Gf.ps n (co p) i:=by
 unfold dV Gf.ps co;split
 ·rw[List.getD_eq_getElem?_getD,List.getElem?_append_right (by simpa using by assumption)];simp[List.getD_eq_getElem?_getD]
 ·rw[List.getD_eq_getElem?_getD,List.getElem?_append_left (by simp;omega)];simp only[List.getElem?_replicate];rw[if_pos (by omega)];rfl
theorem eU{a b c d:List UInt8}(h:∀i,co a i=co b i)(k:∀i,co c i=co d i)(i:Nat):co (bB a c) i=co (bB b d) i:=by
 rw[bY,bY];exact Gf.aW fun j _=>by rw[h,k]
theorem iZ{a b:List UInt8}(h:∀i,co a i=co b i)(x:UInt8):evL a x=evL b x:=by
 unfold evL;rw[<-Gf.fA (f:=co a) (n:=a.length) (m:=a.length+b.length) (by omega) (fun i hi=>aZ hi),<-Gf.fA (f:=co b) (n:=b.length) (m:=a.length+b.length) (by omega) (fun i hi=>aZ hi)];exact Gf.jD fun i _=>h i
theorem yi(z:List UInt8)(x:UInt8):evL (tr z) x=evL z x:=iZ (eR z) x
theorem oh(p q:List UInt8)(x:UInt8):evL (bB p q) x=Gf.gm (evL p x) (evL q x):=by
 unfold evL;rw[<-Gf.Wx (N:=p.length+q.length) (fun i hi=>aZ hi) (Nat.le_refl _)];rw[show(bB p q).length=p.length+q.length by simp[bB]];exact Gf.jD fun i _=>ir p q i
theorem Fj(p q:List UInt8)(x:UInt8):evL (mG p q) x=evL p x^^^evL q x:=by
 unfold evL;rw[show(mG p q).length=max p.length q.length by simp[mG],<-Gf.fA (f:=co p) (n:=p.length) (m:=max p.length q.length) (by omega) (fun i hi=>aZ hi),<-Gf.fA (f:=co q) (n:=q.length) (m:=max p.length q.length) (by omega) (fun i hi=>aZ hi),<-Gf.uQ];exact Gf.jD fun i _=>kN p q i
namespace Gf
def al(n:Nat):UInt8:=UInt8.ofNat (ex n)
theorem jM(n:Nat):(al n).toNat=ex n:=by
 have:=AS n;simp only[al,UInt8.toNat_ofNat'];omega
theorem Lb(n m:Nat):gm (al n) (al m)=al (n+m):=bR (by rw[eL,jM,jM,jM,dG])
theorem uS(n m:Nat):al n=al m↔n % 255=m % 255:=by
 rw[<-yf,<-jM n,<-jM m];exact⟨fun h=>by rw[h],fun h=>bR h⟩
theorem lM(n:Nat):al n≠0:=fun h=>LU n (by rw[<-jM,h];rfl)
theorem AV(n k:Nat):px (al n) k=al (n*k):=by
 induction k with
 |zero=>rfl
 |succ k ih=>rw[px,ih,Lb,Nat.mul_succ]
theorem T8{x:UInt8}(h:x≠0)(k:Nat):px x k≠0:=by
 induction k with
 |zero=>exact(by decide:(1:UInt8)≠0)
 |succ k ih=>
  rw[px];intro e;exact h ((bS _ _ ih).1 e)
def hv(x:UInt8)(w:List UInt8):UInt8:=w.foldl (fun v c=>gm v x^^^c) 0
theorem Fl(x:UInt8)(w:List UInt8)(v:UInt8):w.foldl (fun v c=>gm v x^^^c) v=gm v (px x w.length)^^^hv x w:=by
 unfold hv;induction w generalizing v with
 |nil=>simp[px,cd]
 |cons c w ih=>
  simp only[List.foldl_cons,List.length_cons];rw[ih,ih (gm 0 x^^^c),px,aK,UInt8.zero_xor,iY,aS,aX x (px x w.length),UInt8.xor_assoc]
theorem eV(x c:UInt8)(w:List UInt8):hv x (c::w)=gm c (px x w.length)^^^hv x w:=by
 show(c::w).foldl _ 0=_;rw[List.foldl_cons,Fl,aK,UInt8.zero_xor]
theorem uT(x:UInt8)(a b:List UInt8):hv x (a++b)=gm (hv x a) (px x b.length)^^^hv x b:=by
 show(a++b).foldl _ 0=_;rw[List.foldl_append,Fl];rfl
theorem iD(x c:UInt8)(w:List UInt8):hv x (w++[c])=gm (hv x w) x^^^c:=by
 unfold hv;rw[List.foldl_append];rfl
theorem qd(x:UInt8)(n:Nat):hv x (List.replicate n 0)=0:=by
 induction n with
 |zero=>rfl
 |succ n ih=>rw[List.replicate_succ,eV,ih,aK];rfl
theorem uU(x a:UInt8)(w:List UInt8):hv x (w.map (gm a))=gm a (hv x w):=by
 induction w with
 |nil=>exact(aO a).symm
 |cons c w ih=>rw[List.map_cons,eV,eV,ih,List.length_map,fj,aS]
def bV(a b:List UInt8):List UInt8:=List.zipWith (·^^^·) a b
theorem uV(x:UInt8)(a b:List UInt8)(h:a.length=b.length):hv x (bV a b)=hv x a^^^hv x b:=by
 induction a generalizing b with
 |nil=>
  cases b with
  |nil=>exact(by decide:(0:UInt8)=0^^^0)
  |cons d b=>cases h
 |cons c a ih=>
  cases b with
  |nil=>cases h
  |cons d b=>
   have h:=Nat.succ.inj h;show hv x ((c^^^d)::bV a b)=_;rw[eV,ih b h,eV,eV,iY,show(bV a b).length=a.length by simp[bV,h],<-h,nP]
end Gf
theorem uX(x c:UInt8)(g:List UInt8):evL (c::g) x=c^^^Gf.gm (evL g x) x:=by
 unfold evL Gf.ev;rw[List.length_cons,Gf.iB];have e:∀i,Gf.gm (co (c::g) (i+1)) (Gf.px x (i+1))=Gf.gm x (Gf.gm (co g i) (Gf.px x i)):=fun i=>by
  rw[show co (c::g) (i+1)=co g i by simp[co],Gf.px,<-Gf.aS,Gf.aX]
 rw[Gf.aW (G:=fun i=>Gf.gm x (Gf.gm (co g i) (Gf.px x i))) (fun i _=>e i),Gf.jC,Gf.aX x];congr 1
 show Gf.gm c 1=c;exact Gf.cd c
theorem uY(x:UInt8)(g:List UInt8):Gf.hv x g.reverse=evL g x:=by
 induction g with
 |nil=>rfl
 |cons c g ih=>rw[List.reverse_cons,Gf.iD,ih,uX,UInt8.xor_comm]
namespace Gf
def ls(l:List (UInt8×UInt8))(j:Nat):UInt8:=l.foldr (fun e s=>gm e.1 (px e.2 j)^^^s) 0
theorem d6(e:UInt8×UInt8)(l:List (UInt8×UInt8))(j:Nat):ls (e::l) j=gm e.1 (px e.2 j)^^^ls l j:=rfl
theorem Fo{l:List (UInt8×UInt8)}(h:∀e∈l,e.1=0)(j:Nat):ls l j=0:=by
 induction l with
 |nil=>rfl
 |cons e l ih=>rw[d6,h e (by simp),aK,ih (fun e he=>h e (by simp[he]))];rfl
theorem Fp(y:UInt8)(l:List (UInt8×UInt8))(j:Nat):ls (l.map fun d=>(gm d.1 (d.2^^^y),d.2)) j=ls l (j+1)^^^gm y (ls l j):=by
 induction l with
 |nil=>
  show(0:UInt8)=0^^^gm y 0;rw[aO];rfl
 |cons e l ih=>
  rw[List.map_cons,d6,d6,d6,ih];dsimp only;rw[fj e.1 e.2 y,fj y,nP (gm e.1 (px e.2 (j+1)))];congr 1
  rw[iY,px,aS,aX e.2,<-aS y,aX y e.1]
theorem Lc:∀(l:List (UInt8×UInt8)),(l.map (·.2)).Nodup->(∀j,j<l.length->ls l j=0)->∀e∈l,e.1=0:=by
 intro l;generalize hn:l.length=n;induction n generalizing l with
 |zero=>
  intro _ _ e he;rw[List.eq_nil_of_length_eq_zero hn]at he;cases he
 |succ n ih=>
  cases l with
  |nil=>cases hn
  |cons e l=>
   intro hnd h;have hl:l.length=n:=by simpa using hn
   rw[List.map_cons,List.nodup_cons]at hnd;have h1:=ih (l.map fun d=>(gm d.1 (d.2^^^e.2),d.2)) (by simpa using hl) (by simpa[Function.comp_def]using hnd.2) fun j hj=>by
    have h2:=h (j+1) (by omega);have h3:=h j (by omega);rw[d6]at h2 h3;rw[Fp];have e2:ls l (j+1)=gm e.1 (px e.2 (j+1)):=(bI _ _ h2).symm;have e3:ls l j=gm e.1 (px e.2 j):=(bI _ _ h3).symm;rw[e2,e3,px,<-aS,aX _ e.2,UInt8.xor_self]
   have h4:∀d∈l,d.1=0:=by
    intro d hd;have h5:=h1 (gm d.1 (d.2^^^e.2),d.2) (List.mem_map.2 ⟨d,hd,rfl⟩);by_cases h0:d.2^^^e.2=0
    ·exact absurd (List.mem_map.2 ⟨d,hd,bI _ _ h0⟩) hnd.1
    ·rw[aX]at h5;exact(bS _ _ h0).1 h5
   intro d hd;rcases List.mem_cons.1 hd with rfl|hd
   ·have h6:=h 0 (by omega);rw[d6,Fo h4,UInt8.xor_zero]at h6;rw[show px d.2 0=1 from rfl,cd]at h6;exact h6
   ·exact h4 d hd
def pr:List UInt8->List (UInt8×UInt8)
 |[]=>[]
 |c::w=>(c,al w.length)::pr w
theorem T9(w:List UInt8)(j:Nat):ls (pr w) j=hv (al j) w:=by
 induction w with
 |nil=>rfl
 |cons c w ih=>rw[pr,d6,ih,eV,AV,AV,Nat.mul_comm]
theorem Ld{w:List UInt8}{e:UInt8×UInt8}(h:e∈pr w):∃k,k<w.length/\e.2=al k:=by
 induction w with
 |nil=>cases h
 |cons c w ih=>
  rw[pr]at h;rcases List.mem_cons.1 h with rfl|h
  ·exact⟨w.length,by simp,rfl⟩
  ·obtain⟨k,hk,he⟩:=ih h;exact⟨k,by simp;omega,he⟩
theorem AW(w:List UInt8)(h:w.length<=255):((pr w).map (·.2)).Nodup:=by
 induction w with
 |nil=>exact List.nodup_nil
 |cons c w ih=>
  simp at h;rw[pr,List.map_cons,List.nodup_cons];refine⟨fun hm=>?_,ih (by omega)⟩;obtain⟨e,he,h2⟩:=List.mem_map.1 hm;obtain⟨k,hk,h3⟩:=Ld he;rw[h3]at h2;have:=(uS _ _).1 h2;omega
theorem IG(l:List (UInt8×UInt8))(j:Nat):ls (l.filter (fun e=>e.1 !=0)) j=ls l j:=by
 induction l with
 |nil=>rfl
 |cons e l ih=>
  rw[List.filter_cons];split
  ·rw[d6,d6,ih]
  ·rename_i h;have h0:e.1=0:=by simpa using h
   rw[d6,h0,aK,UInt8.zero_xor,ih]
theorem xP(w:List UInt8):((pr w).filter (fun e=>e.1 !=0)).length=w.countP (· !=0):=by
 induction w with
 |nil=>rfl
 |cons c w ih=>
  rw[pr,List.filter_cons,List.countP_cons];split
  ·rename_i h;have h:(c !=0)=true:=h;rw[List.length_cons,ih]
  ·rename_i h;have h:¬(c !=0)=true:=h;rw[ih];simp
theorem U3(w:List UInt8):(pr w).map (·.1)=w:=by
 induction w with
 |nil=>rfl
 |cons c w ih=>rw[pr,List.map_cons,ih]
theorem Le(w:List UInt8)(n:Nat)(hl:w.length<=255)(hw:w.countP (· !=0)<=n)(h:∀j,j<n->hv (al j) w=0):∀c∈w,c=0:=by
 have hv:=Lc ((pr w).filter (fun e=>e.1 !=0)) ((List.filter_sublist.map _).nodup (AW w hl)) fun j hj=>by
  rw[xP]at hj;rw[IG,T9];exact h j (by omega)
 intro c hc;rw[<-U3 w]at hc;obtain⟨e,he,rfl⟩:=List.mem_map.1 hc;by_cases h0:e.1=0
 ·exact h0
 ·exact hv e (List.mem_filter.2 ⟨he,by simpa using h0⟩)
end Gf
def IsCode(w:List UInt8):Prop:=∀j,j<32->Gf.hv (Gf.al j) w=0
instance (w:List UInt8):Decidable (IsCode w):=inferInstanceAs (Decidable (∀j,j<32->_))
theorem IsCode.sum{a b:List UInt8}(h:IsCode a)(k:IsCode b)(hl:a.length=b.length):IsCode (Gf.bV a b):=fun j hj=>by
 rw[Gf.uV _ _ _ hl,h j hj,k j hj];rfl
theorem xQ{a b:List UInt8}(hl:a.length=b.length)(h:∀c∈Gf.bV a b,c=0):a=b:=by
 induction a generalizing b with
 |nil=>
  cases b with
  |nil=>rfl
  |cons d b=>cases hl
 |cons c a ih=>
  cases b with
  |nil=>cases hl
  |cons d b=>
   have e:Gf.bV (c::a) (d::b)=(c^^^d)::Gf.bV a b:=rfl;rw[e]at h;rw[Gf.bI c d (h _ (by simp)),ih (Nat.succ.inj hl) (fun x hx=>h x (by simp[hx]))]
def Fq(a b:List UInt8):Nat:=(Gf.bV a b).countP (· !=0)
theorem IsCode.apart{a b:List UInt8}(h:IsCode a)(k:IsCode b)(hl:a.length=b.length)(hn:a.length<=255)(hd:Fq a b<=32):a=b:=
 xQ hl (Gf.Le _ 32 (by simp[Gf.bV];omega) hd (h.sum k hl))
theorem Lf(a b r s:List UInt8)(h:a.length=b.length):Gf.bV (a++r) (b++s)=Gf.bV a b++Gf.bV r s:=List.zipWith_append h
theorem II(a:List UInt8):Gf.bV a a=List.replicate a.length 0:=by
 induction a with
 |nil=>rfl
 |cons c a ih=>
  show(c^^^c)::Gf.bV a a=_;rw[UInt8.xor_self,ih,List.length_cons,List.replicate_succ]
theorem IsCode.only{d r s:List UInt8}(h:IsCode (d++r))(k:IsCode (d++s))(hr:r.length=32)(hs:s.length=32)(hn:d.length<=223):r=s:=by
 have e:=h.apart k (by simp[hr,hs]) (by simp[hr];omega) (by
  unfold Fq;rw[Lf _ _ _ _ rfl,II,List.countP_append];have h1:(List.replicate d.length (0:UInt8)).countP (· !=0)=0:=by
   rw[List.countP_eq_zero];intro c hc;rw[(List.mem_replicate.1 hc).2];decide
  have h2:(Gf.bV r s).countP (· !=0)<=(Gf.bV r s).length:=List.countP_le_length;have h3:(Gf.bV r s).length=32:=by simp[Gf.bV,hr,hs]
  omega)
 exact List.append_cancel_left e
namespace Gf
def inv(a:Nat):Nat:=pw a 254
theorem uZ(a:Nat):inv a<256:=pU _ _
theorem yj(a:Nat)(h0:a≠0)(ha:a<256):mul a (inv a)=1:=by
 obtain⟨n,_,rfl⟩:=qc a h0 ha;unfold inv;rw[xN,dG,<-uP,show(n+n*254) % 255=0 by omega];rfl
end Gf
