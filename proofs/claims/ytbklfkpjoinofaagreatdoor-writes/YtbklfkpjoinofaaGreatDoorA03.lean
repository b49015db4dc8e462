import Derived.Test.YtbklfkpjoinofaaGreatDoorA02
import Derived.Deep.RegionHeldLaw
set_option linter.all false
set_option maxRecDepth 100000
set_option maxHeartbeats 8000000
namespace Go.Proofs.YtbklfkpjoinofaaGreatDoor
open Go.RowKit Go.Proofs.Tryz
namespace Pm
theorem rP {l:List UInt8} {r:Nat×List UInt8} (f:Nat):∀ (g p:Nat) (o:List UInt8),o.length<=1048576->bn l f p o=some r->8*l.length < p+g->bn l g p o=some r:=by
 induction f with
 | zero=>intro g p o _ h;simp [bn] at h
 | succ f ih=>
  intro g p o ho h hg;rw [bn] at h
  match hs:cY l p o with
  | none=>rw [hs] at h;cases h
  | some (e,q,o')=>
   obtain ⟨h1,h2,h3⟩:=jx hs ho;obtain ⟨g,rfl⟩:∃ g',g=g'+1:=⟨g - 1,by omega⟩;rw [hs] at h;rw [bn,hs]
   cases e with
   | true=>exact h
   | false=>exact ih g q o' h3 h (by omega)
def Hd (N n:Nat):Prop:=19<=n/\N % 524288=196984
theorem Hd.put {N n:Nat} (h:Hd N n) (v k:Nat):Hd (N+v*2 ^ n) (n+k):=by
 refine ⟨by have:=h.1;omega,?_⟩;obtain ⟨m,rfl⟩:∃ m,n=19+m:=⟨n - 19,by have:=h.1;omega⟩;have e:v*2 ^ (19+m)=524288*(v*2 ^ m):=by
  rw [Ze];have:(2:Nat) ^ 19=524288:=by decide
  rw [this,Nat.mul_left_comm]
 rw [e,Nat.add_mul_mod_self_left];exact h.2
theorem Hd.start:Hd (120+1*2 ^ 8+1*2 ^ 16+1*2 ^ 17) 19:=⟨by decide,by decide⟩
theorem xi.low {l:List UInt8} {N n:Nat} (h:xi l N n) (p k:Nat) (hk:p+k<=n):am l p k=N / 2 ^ p % 2 ^ k:=by
 obtain ⟨m,rfl⟩:∃ m,n=p+k+m:=⟨n - (p+k),by omega⟩;rw [<-h.2];unfold am;rw [Ze,Ze,Yj,Nat.mod_mul_right_div_self,Nat.mod_mul_right_mod]
theorem xi.cut {l:List UInt8} {N n k:Nat} (h:xi l N (n+k)) (hN:N < 2 ^ n):xi l N n/\am l n k=0:=by
 have:xi l (N+0*2 ^ n) (n+k):=by rw [Nat.zero_mul,Yp];exact h
 exact this.split hN (YH k)
theorem Be:sb 256=0:=by decide
theorem qm:aI 256=(0,7):=by decide
theorem sg.unpack {N n:Nat} {o:List UInt8} (h:sg N n o) (hh:Hd N n) (ho:o.length<=1048576) {l:List UInt8} {M:Nat} (hM:bq (n+7)=8*M) (hl:l.length=M+4) (hp:xi l N (8*M))
  (hs:uK l M=65536*(cB o (1,0)).2+(cB o (1,0)).1):bP l=some (o,l.length):=by
 have hup:n+7<=8*M/\8*M < n+7+8:=by unfold bq at hM;omega
 have h19:=hh.1;obtain ⟨j,hj⟩:∃ j,8*M=n+(7+j):=⟨8*M - n - 7,by omega⟩;have hp':=hp;rw [hj] at hp';obtain ⟨hpn,hz⟩:=hp'.cut h.1;have hz2:=gh l n 7 j;rw [hz] at hz2;have hz7:am l n 7=0:=by omega
 have hzj:am l (n+7) j=0:=by
  have h128:(2:Nat) ^ 7=128:=by decide
  rw [h128] at hz2;omega
 have hsym:bC l n=(256,7):=by
  have:=pM (l:=l) (p:=n) (c:=256) (by omega) (by rw [qm];show am l n 7=_;rw [hz7];decide);rw [this,qm]
 have hend:cY l n o=some (true,n+7,o):=by
  have:=pj (l:=l) (p:=n) (out:=o) (by rw [hsym];show n+7<=_;omega) (by rw [hsym]);rw [this,hsym]
 obtain ⟨k,hk⟩:=h.2 l hpn;have hc:bn l (1+k) 19 []=some (n+7,o):=by
  rw [hk 1,bn,hend]
 have hc2:=rP _ (8*l.length+1) 19 [] (by simp) hc (by omega);have hN:N=N % 524288+524288*(N / 524288):=(Nat.mod_add_div N 524288).symm;rw [hh.2] at hN;generalize N / 524288=X at hN;have hlow:∀ p k,p+k<=19->am l p k=N / 2 ^ p % 2 ^ k:=fun p k hpk=>hpn.low p k (by omega)
 have e0:am l (8*0) 8=120:=by rw [hlow _ _ (by omega),hN];show (196984+524288*X) / 1 % 256=120;omega
 have e1:am l (8*1) 8=1:=by rw [hlow _ _ (by omega),hN];show (196984+524288*X) / 256 % 256=1;omega
 have e2:am l 16 1=1:=by rw [hlow _ _ (by omega),hN];show (196984+524288*X) / 65536 % 2=1;omega
 have e3:am l 17 2=1:=by rw [hlow _ _ (by omega),hN];show (196984+524288*X) / 131072 % 4=1;omega
 rw [mI] at e0 e1;have hhead:cm l=true:=by
  unfold cm;rw [e0,e1];simp;omega
 have hb:bF l (8*l.length+1) 16 []=some (n+7,o):=by
  rw [bF,ZU (by omega)];rw [show 16+1=17 from rfl,e3,ZU (by decide),ZO rfl,show 16+3=19 from rfl,hc2];simp only [e2,if_true]
 rw [iM hhead hb];have hM8:bq (n+7) / 8=M:=by rw [hM];omega
 rw [oU (by rw [hM,show 8*M - (n+7)=j by omega];exact hzj) (by rw [hM8];omega) (by rw [hM8];exact hs),hM8,hl]
def qj (W:List UInt8) (i k v b:Nat):Prop:=
 (k=1/\i < W.length/\v=sb (W.getD i 0).toNat/\b=(aI (W.getD i 0).toNat).2)\/
 (∃ d,4<=k/\k<=258/\i+k<=W.length/\1<=d/\d<=32768/\d<=i/\(∀ j,j < k->W.getD (i+j - d) 0=W.getD (i+j) 0)/\v=mv k d/\b=mw k d)
theorem vE (D:List UInt8) (p d:Nat) (hd:1<=d) (hdp:d<=p) (k:Nat) (hk:p+k<=D.length) (h:∀ j,j < k->D.getD (p+j - d) 0=D.getD (p+j) 0):eQ (D.take p) d k=D.take (p+k):=by
 induction k with
 | zero=>rfl
 | succ k ih=>
  rw [mW,ih (by omega) (fun j hj=>h j (by omega))];have hlen:(D.take (p+k)).length=p+k:=by rw [Zx];omega
  rw [hlen, <-Zn p k 1,ZH (show p+k < D.length by omega)];congr 1;have hx:=h k (by omega);simp only [ZB] at hx ⊢;rw [List.getElem?_take_of_lt (by omega),hx,ZK (show p+k < D.length by omega)];rfl
theorem zf (A B C E x a b c N:Nat):N+(A+(B+(C+E*c)*b)*a)*x=N+A*x+B*(x*a)+C*(x*a*b)+E*(x*a*b*c):=by
 simp only [Nat.add_mul]
 ac_rfl
theorem Ax (k d:Nat) (hk:3<=k/\k<=258) (hd:1<=d/\d<=32768):mw k d<=32:=by
 obtain ⟨l1,l2,l3,_,_,_⟩:=j_ k (by omega) hk.1;obtain ⟨d1,d2,_,_⟩:=iN d (by omega) hd.1;have:=fh (bN k).1 (by omega) l1;have:=eN (bB d).1 (by omega);have:=dY (bN k).1 (by omega);unfold mw;omega
theorem qj.enc {D W:List UInt8} {g i k v b N n:Nat} (h:qj W i k v b) (hW:W=D.drop g) (hD:D.length<=1048576) (hE:sg N n (D.take (g+i))):
  sg (N+v*2 ^ n) (n+b) (D.take (g+(i+k)))/\b<=9*k/\v < 2 ^ b/\i+k<=W.length/\1<=k:=by
 have hget:∀ j,W.getD j 0=D.getD (g+j) 0:=by
  intro j;simp only [hW,ZB,XO]
 have hlen:W.length=D.length - g:=by rw [hW,YV]
 rcases h with ⟨rfl,hi,rfl,rfl⟩ | ⟨d,h1,h2,h3,h4,h5,h6,h7,rfl,rfl⟩
 ·have hlt:g+i < D.length:=by omega
  have e:D.take (g+(i+1))=D.take (g+i)++[W.getD i 0]:=by
   rw [<-Zn,ZH hlt,hget];congr 1;simp [ZB,ZK hlt]
  have hc:(W.getD i 0).toNat < 256:=(W.getD i 0).toNat_lt;rw [e];refine ⟨hE.lit _ (by rw [Zx];omega),?_,oV _ (by omega),by omega,by omega⟩;have:=dY (W.getD i 0).toNat (by omega);omega
 ·have hcp:eQ (D.take (g+i)) d k=D.take (g+i+k):=vE D (g+i) d h4 (by omega) k (by omega) (by
   intro j hj;have:=h7 j hj;rw [hget,hget] at this;rw [show g+i+j - d=g+(i+j - d) by omega,show g+i+j=g+(i+j) by omega];exact this)
  have hA:=hE.again k d ⟨by omega,h2⟩ ⟨h4,h5⟩ (by rw [Zx];omega) (by rw [Zx];omega);rw [hcp] at hA;have hmw:=Ax k d ⟨by omega,h2⟩ ⟨h4,h5⟩;have hv:N+mv k d*2 ^ n=((N+sb (bN k).1*2 ^ n+(bN k).2.1*2 ^ (n+(aI (bN k).1).2))+ee 5 (bB d).1*2 ^ (n+(aI (bN k).1).2+(bN k).2.2))+(bB d).2.1*2 ^ (n+(aI (bN k).1).2+(bN k).2.2+5):=by
   unfold mv;rw [zf];simp only [Ze]
  have hb:n+mw k d=n+(aI (bN k).1).2+(bN k).2.2+5+(bB d).2.2:=by unfold mw;omega
  rw [hv,hb, <-Zn g i k];refine ⟨hA,by omega,?_,h3,by omega⟩;obtain ⟨l1,l2,l3,l4,_,_⟩:=j_ k (by omega) (by omega);obtain ⟨d1,d2,d3,_⟩:=iN d (by omega) h4;have h32:(bB d).1 < 2 ^ 5:=XP d1 (by decide);have a2:ee 5 (bB d).1 < 2 ^ 5:=(je 5 (by omega) (bB d).1 (by omega) h32).2;unfold mv mw;have q1:=dk a2 d3;have q2:=dk l4 q1;have q3:=dk (oV (bN k).1 (by omega)) q2;have hx:(aI (bN k).1).2+(bN k).2.2+5+(bB d).2.2=(aI (bN k).1).2+((bN k).2.2+(5+(bB d).2.2)):=by omega
  rw [hx];exact q3
end Pm
theorem sy (s:ByteArray) (k:Nat) (h:k < s.size):s.data.toList.take (k+1)=s.data.toList.take k++[s[k]]:=by
 rw [ZH (by simpa using h)];rfl
theorem ta (w:World):
  QB 195 #[] w (.agg #[.int .u32 1,.int .u32 0]):=by
 go_enter func195,ntmps195
 go_wp2;exact Zb (v:=.agg #[.int .u32 1,.int .u32 0]) (by simp [results,Tryz.results195,go_sem]) rfl ⟨rfl,(ZV _ _).alloc (ZX _) _⟩
theorem AV (A B:Nat) (hA:A < 65521) (hB:B < 65521):bits BinOp.or IntKind.u32 ((B:Int)*65536 % 4294967296) (A:Int)=((65536*B+A:Nat):Int):=by
 have e1:(B:Int)*65536 % 4294967296=((B*65536:Nat):Int):=by omega
 rw [e1,u32_or_nat _ _ (by omega) (by omega),nat_join 16 _ _ (by omega) (by omega)];congr 1;omega
theorem uW (w:World) (A B:Nat) (hA:A < 65521) (hB:B < 65521):
  QB 203 #[.agg #[.int .u32 A,.int .u32 B]] w (.int .u32 (65536*B+A:Nat)):=by
 go_enter func203,ntmps203
 go_wp2;go_ret;refine ⟨bI ?_,(ZV _ _).alloc (ZX _) _⟩;rw [<-AV A B hA hB];congr 1;omega
def gQ (t i:Nat):Nat:=t / 2 ^ (24 - 8*i) % 256
def cH (t:Nat):Nat->Nat
 | 0=>0
 | k+1=>cH t k+gQ t k*2 ^ (8*k)
theorem dM (t i:Nat):gQ t i < 256:=Yl _ (by decide)
theorem AC {l:List UInt8} {N M t:Nat} (hl:l.length=M+4) (hN:N < 2 ^ (8*M)) (h:Pm.eB l=N+cH t 4*2 ^ (8*M)) (ht:t < 4294967296):Pm.xi l N (8*M)/\Pm.uK l M=t:=by
 have hb:cH t 4=gQ t 0+gQ t 1*256+gQ t 2*65536+gQ t 3*16777216:=by
  simp [cH]
 have hdiv:Pm.eB l / 2 ^ (8*M)=cH t 4:=by
  rw [h,Nat.add_mul_div_right _ _ (YH _),XC hN,Zc]
 refine ⟨⟨by omega,by rw [h,Nat.add_mul_mod_self_right,XF hN]⟩,?_⟩;have hget:∀ i,(l.getD (M+i) 0).toNat=cH t 4 / 2 ^ (8*i) % 256:=by
  intro i;rw [<-Pm.mI];unfold Pm.am;rw [XL,Ze, <-Ye,hdiv]
 have g0:=hget 0;have g1:=hget 1;have g2:=hget 2;have g3:=hget 3;have h0:=dM t 0;have h1:=dM t 1;have h2:=dM t 2;have h3:=dM t 3;have s0:gQ t 0=t / 16777216 % 256:=rfl;have s1:gQ t 1=t / 65536 % 256:=rfl;have s2:gQ t 2=t / 256 % 256:=rfl;have s3:gQ t 3=t % 256:=by show t / 1 % 256=_;rw [Nat.div_one]
 have p0:cH t 4 / 2 ^ (8*0)=cH t 4:=by simp
 have p1:cH t 4 / 2 ^ (8*1)=cH t 4 / 256:=rfl;have p2:cH t 4 / 2 ^ (8*2)=cH t 4 / 65536:=rfl;have p3:cH t 4 / 2 ^ (8*3)=cH t 4 / 16777216:=rfl;rw [p0] at g0;rw [p1] at g1;rw [p2] at g2;rw [p3] at g3;rw [Yp] at g0;unfold Pm.uK;have q:∀ b0 b1 b2 b3 X:Nat,b0 < 256->b1 < 256->b2 < 256->b3 < 256->X=b0+b1*256+b2*65536+b3*16777216->X % 256=b0/\X / 256 % 256=b1/\X / 65536 % 256=b2/\X / 16777216 % 256=b3:=by
  intro b0 b1 b2 b3 X a0 a1 a2 a3 e;refine ⟨?_,?_,?_,?_⟩ <;> omega
 obtain ⟨x0,x1,x2,x3⟩:=q _ _ _ _ _ h0 h1 h2 h3 hb;rw [g0,g1,g2,g3,x0,x1,x2,x3,s0,s1,s2,s3];clear q x0 x1 x2 x3 g0 g1 g2 g3 hb hget hdiv p0 p1 p2 p3 s0 s1 s2 s3 h0 h1 h2 h3 h;omega
theorem jn (F:List UInt8):dt F 0=Pm.eB F:=by unfold dt;omega
theorem A4 (x:Nat):bits BinOp.and IntKind.u32 (x:Int) 255=((x % 256:Nat):Int):=by
 have h1:(BitVec.ofInt 32 255).toNat=2 ^ 8 - 1:=by decide
 have key:(BitVec.ofInt 32 (x:Int)&&& BitVec.ofInt 32 255).toNat=((x:Int) % ((2 ^ 32:Nat):Int)).toNat % 2 ^ 8:=by
  rw [BitVec.toNat_and,Xo,h1,XN]
 show IntKind.u32.wrap ((BitVec.ofInt 32 (x:Int)&&& BitVec.ofInt 32 255).toNat:Nat)=_
 rw [key,IntKind.wrap_u32];omega
theorem jg (t i:Nat) (ht:t < 4294967296) (hi:i < 4) (x:Int) (hx:x=((t / 2 ^ (24 - 8*i):Nat):Int)):wrap64 (bits BinOp.and IntKind.u32 x 255)=((gQ t i:Nat):Int):=by
 have:=dM t i;rw [hx,A4,YS _ (by unfold gQ at this;omega)];rfl
theorem ud {F0 Fk F':List UInt8} {t k:Nat} (h:Pm.eB Fk=Pm.eB F0+cH t k*2 ^ (8*F0.length)) (hl:Fk.length=F0.length+k) (h2:Pm.eB F'=Pm.eB Fk+gQ t k*2 ^ (8*Fk.length+0)):Pm.eB F'=Pm.eB F0+cH t (k+1)*2 ^ (8*F0.length):=by
 rw [h2,h,hl,cH,Yp,XL,Ze,Nat.add_mul,Zn,Yj,XX (2 ^ (8*k))]
theorem Ak (s:ByteArray) (p:Nat) (hp:p / 8 < s.size):(bits .and .i64 (wrap64 (s[p / 8].toNat:Int) / 2 ^ (p % 8)) 1)=(Pm.am s.data.toList p 1:Nat):=by
 rw [yA,bY,Pm.yk];have e:s.data.toList.getD (p / 8) 0=s[p / 8]:=by
  rw [ZB,ZK (by simpa using hp)];rfl
 rw [e]
 push_cast
 rfl
theorem yN (w:World) (b:Nat) (s:ByteArray) (p:Nat) (bad:Bool) (h:RB w b s p bad) (hs:s.size<=140737488355328) (hp:p < 8*s.size):
  CP 101 #[zp b] w fun e w'=>e=.returned (Pm.am s.data.toList p 1:Nat)/\RB w' b s (p+1) bad/\bT b w w':=by
 have hR:=h;obtain ⟨c0,c1,c2,f1,f2⟩:=h;have hp8:p / 8 < s.size:=by omega
 have e1:IntKind.i64.wrap ((p:Int) / 8)=((p / 8:Nat):Int):=by rw [Xl _ (by omega)];omega
 have h3:0<=(p:Int) / 8/\(p:Int) / 8 < (s.size:Int):=by omega
 have h4:((p:Int) / 8).toNat=p / 8:=by omega
 go_enter func101,ntmps101
 go_wp2;go_quiet (fail)
 go_wp2;go_quiet (fail)
 go_wp2;go_ret;exact ⟨bI (Ak s p hp8),(hR.drewN _).at (p+1) _ (by simp),((bT.refl b w).drewN _).setCell _ _⟩
theorem Ag (w:World) (b:Nat) (s:ByteArray) (p:Nat) (bad:Bool) (h:RB w b s p bad) (hs:s.size<=140737488355328) (hp:p=8*s.size):
  CP 101 #[zp b] w fun e w'=>e=.returned (0:Int)/\RB w' b s p true/\bT b w w':=by
 have hR:=h;obtain ⟨c0,c1,c2,f1,f2⟩:=h;have hp':(8*(s.size:Int))<=(p:Int):=by omega
 clear hp;go_enter func101,ntmps101
 go_wp2;go_quiet (fail)
 go_wp2;go_ret;exact ⟨rfl,(hR.drewN _).spoil true,((bT.refl b w).drewN _).setCell _ _⟩
theorem io (w:World) (b:Nat) (s:ByteArray) (p:Nat) (bad:Bool) (h:RB w b s p bad) (hs:s.size<=140737488355328) (hp:p<=8*s.size):
  CP 101 #[zp b] w fun e w'=>e=.returned (Pm.am s.data.toList p 1:Nat)/\RB w' b s (min (p+1) (8*s.size)) (bad||decide (8*s.size < p+1))/\bT b w w':=by
 by_cases hlt:p < 8*s.size
 ·refine (yN w b s p bad h hs hlt).mono ?_;rintro e w' ⟨rfl,hr,ho⟩;have e1:min (p+1) (8*s.size)=p+1:=by omega
  have e2:decide (8*s.size < p+1)=false:=by simp;omega
  rw [e1,e2,Bool.or_false];exact ⟨rfl,hr,ho⟩
 ·have hpe:p=8*s.size:=by omega
  refine (Ag w b s p bad h hs hpe).mono ?_;rintro e w' ⟨rfl,hr,ho⟩;have e1:min (p+1) (8*s.size)=p:=by omega
  have e2:decide (8*s.size < p+1)=true:=by simp;omega
  have e3:Pm.am s.data.toList p 1=0:=Pm.mT _ _ _ (by have:s.data.toList.length=s.size:=(by simp);omega);rw [e1,e2,e3,Bool.or_true];exact ⟨rfl,hr,ho⟩
theorem tx (k n:Nat) (h:k<=n) (hn:n<=16):2 ^ k<=65536:=ZN (YX (by decide) (ZN h hn)) (by decide)
theorem gl (p k L:Nat):min (min (p+k) L+1) L=min (p+(k+1)) L:=by omega
theorem gT (bad:Bool) (p k L:Nat):((bad||decide (L < p+k))||decide (L < min (p+k) L+1))=(bad||decide (L < p+(k+1))):=by
 cases bad
 ·simp only [Bool.false_or];by_cases h:L < p+k
  ·have h1:L < p+(k+1):=by omega
   simp [h,h1]
  ·have h2:(L < min (p+k) L+1)↔(L < p+(k+1)):=by omega
   simp [h,h2]
 ·simp
theorem stuck (l:List UInt8) (p k L:Nat) (hL:L=8*l.length):Pm.am l (min (p+k) L) 1=Pm.am l (p+k) 1:=by
 by_cases h:p+k<=L
 ·rw [Zr h]
 ·rw [Pm.mT l (p+k) 1 (by omega),Pm.mT l _ 1 (by omega)]
theorem xr (l:List UInt8) (p:Nat):Pm.am l p 1=0\/Pm.am l p 1=1:=by have:=Pm.cJ l p 1;omega
theorem kl (w:World) (b:Nat) (s:ByteArray) (p:Nat) (bad:Bool) (n:Nat) (hn:n<=16) (h:RB w b s p bad) (hs:s.size<=140737488355328) (hp:p<=8*s.size):
  CP 102 #[zp b,n] w fun e w'=>e=.returned (Pm.am s.data.toList p n:Nat)/\RB w' b s (min (p+n) (8*s.size)) (bad||decide (8*s.size < p+n))/\bT b w w':=by
 have hlen:s.data.toList.length=s.size:=by simp
 have HL:Hid (8*s.size=8*s.data.toList.length):=by show _=_;rw [hlen]
 clear hlen;go_enter func102,ntmps102
 go_wp2;go_loopw [5,6,7] (fun v f i wr=>∃ k F V:Nat,k<=n/\F<=65536/\V < F/\i=.int .i64 k/\f=.int .i64 F/\v=.int .i64 V/\Hid (F=2 ^ k/\V=Pm.am s.data.toList p k)/\RB wr b s (min (p+k) (8*s.size)) (bad||decide (8*s.size < p+k))/\bT b w wr) (fun _ _ i _=>n - (intOf i).toNat)
 case atStart=>
  refine ⟨0,1,0,XM _,by omega,by omega,rfl,rfl,rfl,⟨rfl,(Pm.o6 _ _).symm⟩,?_,bT.refl b w⟩;have e1:min (p+0) (8*s.size)=p:=by omega
  have e2:decide (8*s.size < p+0)=false:=by simp;omega
  rw [e1,e2,Bool.or_false];exact h
 case round=>
  obtain ⟨k,F,V,hk,hF,hV,rfl,rfl,rfl,HE,hr,ho⟩:=hrel;by_cases hlt:k < n
  ·go_wp2_with fail
   refine (io wr b s _ _ hr hs (by omega)).mono ?_;rintro e w' ⟨rfl,hr',ho'⟩;rw [gl,gT,stuck _ _ _ _ HL.out] at*;have HX:=xr s.data.toList (p+k);have HV:Hid (Pm.am s.data.toList p (k+1)=V+F*Pm.am s.data.toList (p+k) 1):=by
    show _=_
    rw [Pm.gh,HE.out.1,HE.out.2]
   generalize Pm.am s.data.toList (p+k) 1=x at*;have H2:2*F<=65536:=by have:=HE.out.1;rw [this, <-Nat.pow_succ'];exact tx (k+1) n (by omega) hn
   rcases HX with rfl | rfl
   ·go_wp2;go_roundw
    case rel=>exact ⟨k+1,2*F,V,by omega,by omega,by omega,by go_num,by go_num,by go_num,⟨by rw [HE.out.1,Nat.pow_succ'],by rw [HV.out];omega⟩,hr',ho.trans ho'⟩
    case measure=>simp [intOf];omega
   ·go_wp2;go_roundw
    case rel=>exact ⟨k+1,2*F,V+F,by omega,by omega,by omega,by go_num,by go_num,by go_num,⟨by rw [HE.out.1,Nat.pow_succ'],by rw [HV.out];omega⟩,hr',ho.trans ho'⟩
    case measure=>simp [intOf];omega
  ·have hkn:k=n:=by omega
   subst hkn;go_wp2;go_ret;exact ⟨bI (by rw [HE.out.2]),hr,ho⟩
theorem iP (w:World) (b:Nat) (s:ByteArray) (p:Nat) (bad:Bool) (n:Nat) (hn:n<=16) (h:RB w b s p bad) (hs:s.size<=140737488355328) (hp:p<=8*s.size):
  CP 155 #[zp b,n] w fun e w'=>e=.returned (Pm.aR s.data.toList p n:Nat)/\RB w' b s (min (p+n) (8*s.size)) (bad||decide (8*s.size < p+n))/\bT b w w':=by
 have hlen:s.data.toList.length=s.size:=by simp
 have HL:Hid (8*s.size=8*s.data.toList.length):=by show _=_;rw [hlen]
 clear hlen;go_enter func155,ntmps155
 go_wp2;go_loopw [5,6] (fun v i wr=>∃ k V:Nat,k<=n/\V<=65536/\i=.int .i64 k/\v=.int .i64 V/\Hid (V=Pm.aR s.data.toList p k)/\RB wr b s (min (p+k) (8*s.size)) (bad||decide (8*s.size < p+k))/\bT b w wr) (fun _ i _=>n - (intOf i).toNat)
 case atStart=>
  refine ⟨0,0,XM _,by omega,rfl,rfl,rfl,?_,bT.refl b w⟩;have e1:min (p+0) (8*s.size)=p:=by omega
  have e2:decide (8*s.size < p+0)=false:=by simp;omega
  rw [e1,e2,Bool.or_false];exact h
 case round=>
  obtain ⟨k,V,hk,hV,rfl,rfl,HE,hr,ho⟩:=hrel;by_cases hlt:k < n
  ·go_wp2_with fail
   refine (io wr b s _ _ hr hs (by omega)).mono ?_;rintro e w' ⟨rfl,hr',ho'⟩;rw [gl,gT,stuck _ _ _ _ HL.out] at*;have HX:=xr s.data.toList (p+k);have HV:Hid (Pm.aR s.data.toList p (k+1)=2*V+Pm.am s.data.toList (p+k) 1):=by
    show _=_
    rw [Pm.aR,HE.out]
   have H2:Pm.aR s.data.toList p (k+1)<=65536:=ZN (Yu (Pm.kt _ _ _)) (tx (k+1) n (by omega) hn);have H3:2*V+Pm.am s.data.toList (p+k) 1<=65536:=by rw [<-HV.out];exact H2
   clear H2;generalize Pm.am s.data.toList (p+k) 1=x at*;go_wp2;go_roundw
   case rel=>exact ⟨k+1,2*V+x,by omega,by omega,by go_num,by go_num,HV.out.symm,hr',ho.trans ho'⟩
   case measure=>simp [intOf];omega
  ·have hkn:k=n:=by omega
   subst hkn;go_wp2;go_ret;exact ⟨bI (by rw [HE.out]),hr,ho⟩
def bq (p:Nat):Nat:=(p+7) / 8*8
theorem jo (w:World) (b:Nat) (s:ByteArray) (p:Nat) (bad:Bool) (h:RB w b s p bad) (hs:s.size<=140737488355328) (hp:p<=8*s.size):
  CP 105 #[zp b] w fun e w'=>e=.returned (.tuple #[])/\RB w' b s (bq p) (bad||decide (Pm.am s.data.toList p (bq p - p)≠0))/\bT b w w':=by
 have hup:p<=bq p/\bq p<=8*s.size/\bq p < p+8/\bq p % 8=0:=by unfold bq;omega
 generalize hP:bq p=P8 at*;clear hP;go_enter func105,ntmps105
 go_wp2;go_loopg [2] 8 (fun g _ wr=>∃ q:Nat,p<=q/\q<=P8/\P8 - q<=g/\RB wr b s q (bad||decide (Pm.am s.data.toList p (q - p)≠0))/\bT b w wr)
 case atStart=>
  refine ⟨p,ZX _,by omega,by omega,?_,bT.refl b w⟩;have e1:Pm.am s.data.toList p (p - p)=0:=by rw [Nat.sub_self];exact Pm.o6 _ _
  rw [e1];simpa using h
 case round=>
  obtain ⟨q,h1,h2,h3,hr,ho⟩:=hrel;have c1:=hr.c1;by_cases hlt:q < P8
  ·have hm:¬ q % 8=0:=by omega
   go_wp2_with fail
   refine (yN wr b s _ _ hr hs (by omega)).mono ?_;rintro e w' ⟨rfl,hr',ho'⟩;have HX:=xr s.data.toList q;have HV:Hid (Pm.am s.data.toList p (q+1 - p)=Pm.am s.data.toList p (q - p)+2 ^ (q - p)*Pm.am s.data.toList q 1):=by
    show _=_
    have e1:q+1 - p=(q - p)+1:=by omega
    have e2:p+(q - p)=q:=by omega
    rw [e1,Pm.gh,e2]
   have f2:=hr'.f2;obtain ⟨cc,c2⟩:∃ cc,w'.cell? (zq b 2)=some (.bool cc):=⟨_,hr'.c2⟩;clear c1;generalize Pm.am s.data.toList q 1=x at*;rcases HX with rfl | rfl
   ·go_wp2;go_roundg (gk - 1)
    case measure=>omega
    case rel=>
     refine ⟨q+1,by omega,by omega,by omega,?_,ho.trans ho'⟩;have e1:=HV.out;rw [Nat.mul_zero,Yp] at e1;rw [e1];exact hr'
   ·go_wp2;go_roundg (gk - 1)
    case measure=>omega
    case rel=>
     refine ⟨q+1,by omega,by omega,by omega,?_,(ho.trans ho').setCell _ _⟩;have e1:=HV.out;have e2:decide (Pm.am s.data.toList p (q+1 - p)≠0)=true:=by
      have:=YH (q - p);rw [e1];simp
     rw [e2,Bool.or_true];exact hr'.spoil true
  ·have hq:q=P8:=by omega
   subst hq;have hm:q % 8=0:=by omega
   go_wp2;go_end0;exact ⟨rfl,hr,ho⟩
theorem uI (V B:Nat) (h:V+2 ^ B<=100000):wrap64 ((V:Int)+wrap64 (2 ^ B))=(V:Int)+2 ^ B:=by
 have e:(2:Int) ^ B=((2 ^ B:Nat):Int):=by push_cast;rfl
 rw [e];generalize (2 ^ B:Nat)=F at*;rw [YS (F:Int) (by omega),YS _ (by omega)]
theorem i8 (w:World) (c:Nat) (h1:257<=c) (h2:c < 285):
  QE 204 #[c] w (Pm.al c:Nat):=by
 by_cases h:c < 265
 ·have e1:Pm.al c=0:=by simp [Pm.al,h]
  rw [e1];go_enter func204,ntmps204
  go_wp2;go_ret;exact ⟨rfl,rfl⟩
 ·have e1:Pm.al c=(c - 261) / 4:=by unfold Pm.al;rw [ZU (by omega)]
  have HE:Hid (((c:Int) - 261) / 4=((Pm.al c:Nat):Int)):=by show _=_;rw [e1];omega
  clear e1;go_enter func204,ntmps204
  go_wp2;go_ret;exact ⟨bI HE.out,rfl⟩
theorem gf (w:World) (c:Nat) (h2:c < 30):
  QE 205 #[c] w (Pm.aH c:Nat):=by
 by_cases h:c < 4
 ·have e1:Pm.aH c=0:=by simp [Pm.aH,h]
  rw [e1];go_enter func205,ntmps205
  go_wp2;go_ret;exact ⟨rfl,rfl⟩
 ·have e1:Pm.aH c=(c - 2) / 2:=by unfold Pm.aH;rw [ZU (by omega)]
  have HE:Hid (((c:Int) - 2) / 2=((Pm.aH c:Nat):Int)):=by show _=_;rw [e1];omega
  clear e1;go_enter func205,ntmps205
  go_wp2;go_ret;exact ⟨bI HE.out,rfl⟩
theorem n_ (w:World) (c:Nat) (h1:257<=c) (h2:c < 285):
  QE 154 #[c] w (.tuple #[(Pm.a_ c:Nat),(Pm.al c:Nat)]):=by
 have hc5:((c:Int)==285)=false:=by rw [Xy];omega
 go_enter func154,ntmps154
 go_wp2;go_loopg [4,5] 30 (fun g n i wr=>∃ k V:Nat,257<=k/\k<=c/\V<=259/\c - k<=g/\i=.int .i64 k/\n=.int .i64 V/\Hid (V=Pm.a_ k)/\wr=w)
 case atStart=>exact ⟨257,3,by omega,by omega,by omega,by omega,rfl,rfl,rfl,rfl⟩
 case round=>
  obtain ⟨k,V,hk1,hk2,hV,hg,rfl,rfl,HE,rfl⟩:=hrel;by_cases hlt:k < c
  ·have HS:Hid (Pm.a_ (k+1)=V+2 ^ Pm.al k):=by show _=_;rw [Pm.nY k (by omega) hk1,HE.out]
   have HB:=Pm.fh k (by omega) hk1;have HB2:=Pm.fh (k+1) (by omega) (by omega);have HV:V+2 ^ Pm.al k<=259:=by rw [<-HS.out];have:=YH (Pm.al (k+1));omega
   clear HB2;go_wp2_with fail
   refine (i8 _ k hk1 (by omega)).mono ?_;rintro e w' ⟨rfl,rfl⟩;generalize Pm.al k=B at*;have HB1:=HB.1;clear HB;go_wp2;go_roundg (gk - 1)
   case measure=>omega
   case rel=>exact ⟨k+1,V+2 ^ B,by omega,by omega,by omega,by omega,by go_num,by simp [uI V B (by omega)],HS.out.symm,rfl⟩
  ·have hkc:k=c:=by omega
   subst hkc;go_wp2_with fail
   refine (i8 _ k hk1 (by omega)).mono ?_;rintro e w' ⟨rfl,rfl⟩;go_wp2;go_ret2;have hv:=HE.out;subst hv;exact ⟨rfl,rfl⟩
theorem ot (w:World):
  QE 154 #[(285:Int)] w (.tuple #[(Pm.a_ 285:Nat),(Pm.al 285:Nat)]):=by
 have e1:Pm.a_ 285=258:=by decide
 have e2:Pm.al 285=0:=by decide
 rw [e1,e2];go_enter func154,ntmps154
 go_wp2;go_ret2;exact ⟨rfl,rfl⟩
theorem lN (w:World) (c:Nat) (h2:c < 30):
  QE 156 #[c] w (.tuple #[(Pm.bD c:Nat),(Pm.aH c:Nat)]):=by
 go_enter func156,ntmps156
 go_wp2;go_loopg [4,5] 30 (fun g n i wr=>∃ k V:Nat,k<=c/\V<=32769/\c - k<=g/\i=.int .i64 k/\n=.int .i64 V/\Hid (V=Pm.bD k)/\wr=w)
 case atStart=>exact ⟨0,1,by omega,by omega,by omega,rfl,rfl,rfl,rfl⟩
 case round=>
  obtain ⟨k,V,hk2,hV,hg,rfl,rfl,HE,rfl⟩:=hrel;by_cases hlt:k < c
  ·have HS:Hid (Pm.bD (k+1)=V+2 ^ Pm.aH k):=by show _=_;rw [Pm.mQ k (by omega),HE.out]
   have HB:=Pm.eN k (by omega);have HB2:=Pm.eN (k+1) (by omega);have HV:V+2 ^ Pm.aH k<=32769:=by rw [<-HS.out];have:=YH (Pm.aH (k+1));omega
   clear HB2;go_wp2_with fail
   refine (gf _ k (by omega)).mono ?_;rintro e w' ⟨rfl,rfl⟩;generalize Pm.aH k=B at*;have HB1:=HB.1;clear HB;go_wp2;go_roundg (gk - 1)
   case measure=>omega
   case rel=>exact ⟨k+1,V+2 ^ B,by omega,by omega,by omega,by go_num,by simp [uI V B (by omega)],HS.out.symm,rfl⟩
  ·have hkc:k=c:=by omega
   subst hkc;go_wp2_with fail
   refine (gf _ k (by omega)).mono ?_;rintro e w' ⟨rfl,rfl⟩;go_wp2;go_ret2;have hv:=HE.out;subst hv;exact ⟨rfl,rfl⟩
theorem BL (w:World) (b:Nat) (s:ByteArray) (p:Nat) (bad:Bool) (h:RB w b s p bad) (hs:s.size<=140737488355328) (hp:p<=8*s.size)
  (v7 x7 x8:Nat) (E7:Hid (Pm.aR s.data.toList p 7=v7)) (E8:Hid (Pm.am s.data.toList (p+7) 1=x7)) (E9:Hid (Pm.am s.data.toList (p+8) 1=x8))
  (g7:v7 < 128) (g8:x7 < 2) (g9:x8 < 2) (c1:v7<=23):
  CP 153 #[zp b] w fun e w'=>e=.returned (256+v7:Int)/\RB w' b s (min (p+7) (8*s.size)) (bad||decide (8*s.size < p+7))/\bT b w w':=by
 have hlen:s.data.toList.length=s.size:=by simp
 have HL:Hid (8*s.size=8*s.data.toList.length):=by show _=_;rw [hlen]
 clear hlen;go_enter func153,ntmps153
 go_wp2_with fail
 refine (iP w b s p bad 7 (by omega) h hs hp).mono ?_;rintro e w1 ⟨rfl,hr1,ho1⟩;rw [E7.out];go_wp2;go_ret;exact ⟨bI (by first | omega | (simp;done) | (simp;omega)),hr1,ho1⟩
theorem BG (w:World) (b:Nat) (s:ByteArray) (p:Nat) (bad:Bool) (h:RB w b s p bad) (hs:s.size<=140737488355328) (hp:p<=8*s.size)
  (v7 x7 x8:Nat) (E7:Hid (Pm.aR s.data.toList p 7=v7)) (E8:Hid (Pm.am s.data.toList (p+7) 1=x7)) (E9:Hid (Pm.am s.data.toList (p+8) 1=x8))
  (g7:v7 < 128) (g8:x7 < 2) (g9:x8 < 2) (c1:¬ v7<=23) (c2:2*v7+x7<=191):
  CP 153 #[zp b] w fun e w'=>e=.returned (2*v7+x7 - 48:Int)/\RB w' b s (min (p+8) (8*s.size)) (bad||decide (8*s.size < p+8))/\bT b w w':=by
 have hlen:s.data.toList.length=s.size:=by simp
 have HL:Hid (8*s.size=8*s.data.toList.length):=by show _=_;rw [hlen]
 clear hlen;go_enter func153,ntmps153
 go_wp2_with fail
 refine (iP w b s p bad 7 (by omega) h hs hp).mono ?_;rintro e w1 ⟨rfl,hr1,ho1⟩;rw [E7.out];go_wp2_with fail
 refine (io w1 b s _ _ hr1 hs (by omega)).mono ?_;rintro e w2 ⟨rfl,hr2,ho2⟩;rw [gl,gT] at hr2;rw [stuck _ _ _ _ HL.out,E8.out];go_wp2;go_ret;exact ⟨bI (by first | omega | (simp;done) | (simp;omega)),hr2,(ho1.trans ho2)⟩
theorem Bv (w:World) (b:Nat) (s:ByteArray) (p:Nat) (bad:Bool) (h:RB w b s p bad) (hs:s.size<=140737488355328) (hp:p<=8*s.size)
  (v7 x7 x8:Nat) (E7:Hid (Pm.aR s.data.toList p 7=v7)) (E8:Hid (Pm.am s.data.toList (p+7) 1=x7)) (E9:Hid (Pm.am s.data.toList (p+8) 1=x8))
  (g7:v7 < 128) (g8:x7 < 2) (g9:x8 < 2) (c1:¬ v7<=23) (c2:¬ 2*v7+x7<=191) (c3:2*v7+x7<=199):
  CP 153 #[zp b] w fun e w'=>e=.returned (2*v7+x7+88:Int)/\RB w' b s (min (p+8) (8*s.size)) (bad||decide (8*s.size < p+8))/\bT b w w':=by
 have hlen:s.data.toList.length=s.size:=by simp
 have HL:Hid (8*s.size=8*s.data.toList.length):=by show _=_;rw [hlen]
 clear hlen;go_enter func153,ntmps153
 go_wp2_with fail
 refine (iP w b s p bad 7 (by omega) h hs hp).mono ?_;rintro e w1 ⟨rfl,hr1,ho1⟩;rw [E7.out];go_wp2_with fail
 refine (io w1 b s _ _ hr1 hs (by omega)).mono ?_;rintro e w2 ⟨rfl,hr2,ho2⟩;rw [gl,gT] at hr2;rw [stuck _ _ _ _ HL.out,E8.out];go_wp2;go_ret;exact ⟨bI (by first | omega | (simp;done) | (simp;omega)),hr2,(ho1.trans ho2)⟩
theorem BM (w:World) (b:Nat) (s:ByteArray) (p:Nat) (bad:Bool) (h:RB w b s p bad) (hs:s.size<=140737488355328) (hp:p<=8*s.size)
  (v7 x7 x8:Nat) (E7:Hid (Pm.aR s.data.toList p 7=v7)) (E8:Hid (Pm.am s.data.toList (p+7) 1=x7)) (E9:Hid (Pm.am s.data.toList (p+8) 1=x8))
  (g7:v7 < 128) (g8:x7 < 2) (g9:x8 < 2) (c1:¬ v7<=23) (c2:¬ 2*v7+x7<=191) (c3:¬ 2*v7+x7<=199):
  CP 153 #[zp b] w fun e w'=>e=.returned (2*(2*v7+x7)+x8 - 256:Int)/\RB w' b s (min (p+9) (8*s.size)) (bad||decide (8*s.size < p+9))/\bT b w w':=by
 have hlen:s.data.toList.length=s.size:=by simp
 have HL:Hid (8*s.size=8*s.data.toList.length):=by show _=_;rw [hlen]
 clear hlen;go_enter func153,ntmps153
 go_wp2_with fail
 refine (iP w b s p bad 7 (by omega) h hs hp).mono ?_;rintro e w1 ⟨rfl,hr1,ho1⟩;rw [E7.out];go_wp2_with fail
 refine (io w1 b s _ _ hr1 hs (by omega)).mono ?_;rintro e w2 ⟨rfl,hr2,ho2⟩;rw [gl,gT] at hr2;rw [stuck _ _ _ _ HL.out,E8.out];go_wp2_with fail
 refine (io w2 b s _ _ hr2 hs (by omega)).mono ?_;rintro e w3 ⟨rfl,hr3,ho3⟩;rw [gl,gT] at hr3;rw [stuck _ _ _ _ HL.out,E9.out];go_wp2;go_ret;exact ⟨bI (by first | omega | (simp;done) | (simp;omega)),hr3,((ho1.trans ho2).trans ho3)⟩
theorem tV (w:World) (b:Nat) (s:ByteArray) (p:Nat) (bad:Bool) (h:RB w b s p bad) (hs:s.size<=140737488355328) (hp:p<=8*s.size):
  CP 153 #[zp b] w fun e w'=>e=.returned ((Pm.bC s.data.toList p).1:Nat)/\RB w' b s (min (p+(Pm.bC s.data.toList p).2) (8*s.size)) (bad||decide (8*s.size < p+(Pm.bC s.data.toList p).2))/\bT b w w':=by
 have g7:Pm.aR s.data.toList p 7 < 128:=Pm.kt s.data.toList p 7;have g8:Pm.am s.data.toList (p+7) 1 < 2:=Pm.cJ s.data.toList (p+7) 1;have g9:Pm.am s.data.toList (p+8) 1 < 2:=Pm.cJ s.data.toList (p+8) 1;unfold Pm.bC;by_cases c1:Pm.aR s.data.toList p 7<=23
 ·rw [ZO c1];refine (BL w b s p bad h hs hp _ _ _ rfl rfl rfl g7 g8 g9 c1).mono ?_;rintro e w' ⟨rfl,hr,ho⟩;exact ⟨bI (by simp),hr,ho⟩
 ·rw [ZU c1];by_cases c2:2*Pm.aR s.data.toList p 7+Pm.am s.data.toList (p+7) 1<=191
  ·rw [ZO c2];refine (BG w b s p bad h hs hp _ _ _ rfl rfl rfl g7 g8 g9 c1 c2).mono ?_;rintro e w' ⟨rfl,hr,ho⟩;exact ⟨bI (by simp only [];omega),hr,ho⟩
  ·rw [ZU c2];by_cases c3:2*Pm.aR s.data.toList p 7+Pm.am s.data.toList (p+7) 1<=199
   ·rw [ZO c3];refine (Bv w b s p bad h hs hp _ _ _ rfl rfl rfl g7 g8 g9 c1 c2 c3).mono ?_;rintro e w' ⟨rfl,hr,ho⟩;exact ⟨bI (by simp only [];omega),hr,ho⟩
   ·rw [ZU c3];refine (BM w b s p bad h hs hp _ _ _ rfl rfl rfl g7 g8 g9 c1 c2 c3).mono ?_;rintro e w' ⟨rfl,hr,ho⟩;exact ⟨bI (by simp only [];omega),hr,ho⟩
theorem vc (s:ByteArray) (k:Nat) (h:k < s.size):s.data.toList.take (k+1)=s.data.toList.take k++[s[k]]:=by
 rw [ZH (by simpa using h)];rfl
theorem tw (w:World) (s:ByteArray) (hs:s.size<=140737488355328):
  QE 106 #[s] w (65536*(Pm.cB s.data.toList (1,0)).2+(Pm.cB s.data.toList (1,0)).1:Nat):=by
 go_enter func106,ntmps106
 go_wp2;go_loopg [3,4,5] s.size (fun g x y i wr=>∃ k X Y:Nat,k<=s.size/\X < 65521/\Y < 65521/\s.size - k<=g/\i=.int .i64 k/\x=.int .i64 X/\y=.int .i64 Y/\Hid (Pm.cB (s.data.toList.take k) (1,0)=(X,Y))/\wr=w)
 case atStart=>exact ⟨0,1,0,by omega,by omega,by omega,by omega,rfl,rfl,rfl,rfl,rfl⟩
 case round=>
  obtain ⟨k,X,Y,hk,hX,hY,hg,rfl,rfl,rfl,HE,rfl⟩:=hrel;by_cases hlt:k < s.size
  ·have HS:Hid (Pm.cB (s.data.toList.take (k+1)) (1,0)=((X+s[k].toNat) % 65521,(Y+(X+s[k].toNat) % 65521) % 65521)):=by
    show _=_
    rw [vc s k hlt,Pm.oT,HE.out]
   have hc:s[k].toNat < 256:=s[k].toNat_lt;go_wp2;go_roundg (gk - 1)
   case measure=>omega
   case rel=>exact ⟨k+1,(X+s[k].toNat) % 65521,(Y+(X+s[k].toNat) % 65521) % 65521,by omega,Yl _ (by decide),Yl _ (by decide),by omega,by go_num,by simp [bY],by simp [bY],HS.out,rfl⟩
  ·have hkc:s.data.toList.take k=s.data.toList:=ZF (by simp;omega);have HE2:Hid (Pm.cB s.data.toList (1,0)=(X,Y)):=by show _=_;rw [<-hkc];exact HE.out
   clear hkc;go_wp2;go_ret;exact ⟨bI (by rw [HE2.out];omega),rfl⟩
theorem RB.kept {w w':World} {b:Nat} {s:ByteArray} {p:Nat} {bad:Bool} (h:RB w b s p bad) (k:Below (b+1) w w'):RB w' b s p bad:=
 ⟨by rw [k.cell (YW b)];exact h.c0,by rw [k.cell (YW b)];exact h.c1,by rw [k.cell (YW b)];exact h.c2,
  by rw [k.frozen (YW b)];exact h.f1,by rw [k.frozen (YW b)];exact h.f2⟩
theorem oh (w:World) (c:Nat) (h1:257<=c) (h2:c<=285):
  QE 154 #[c] w (.tuple #[(Pm.a_ c:Nat),(Pm.al c:Nat)]):=by
 by_cases h:c=285
 ·subst h;exact ot w
 ·exact n_ w c h1 (by omega)
def tF (w0:World) (b:Nat) (s:ByteArray) (res:Option (Nat×List UInt8)) (v:Value) (w':World):Prop:=
 ∃ p' bad' out',RB w' b s p' bad'/\p'<=8*s.size/\gZ w' b v out'/\Below b w0 w'/\out'.length<=1200000/\
  ((bad'=false/\out'.length<=1048576/\res=some (p',out'))\/((bad'=true\/1048576 < out'.length)/\res=none))
theorem qw (w:World) (b:Nat) (s:ByteArray) (p:Nat) (v:Value) (out:List UInt8) (h:RB w b s p false) (hO:gZ w b v out) (hl:out.length<=1048576) (hs:s.size<=140737488355328) (hp:p<=8*s.size)
  (f:Nat) (hf:8*s.size < p+f):
  CP 104 #[zp b,v] w fun e w'=>∃ v',e=.returned v'/\tF w b s (Pm.bn s.data.toList f p out) v' w':=by
 have hlen:s.data.toList.length=s.size:=by simp
 have HL:Hid (8*s.size=8*s.data.toList.length):=by show _=_;rw [hlen]
 clear hlen;generalize hres:Pm.bn s.data.toList f p out=res;have HR:Hid (Pm.bn s.data.toList f p out=res):=hres;clear hres;go_enter func104,ntmps104
 go_wp2;go_loopg [1] (8*s.size+2) (fun g u wr=>∃ q bd o,RB wr b s q bd/\q<=8*s.size/\gZ wr b u o/\Below b w wr/\o.length<=1200000/\8*s.size+1 - q<=g/\
  ((bd=false/\o.length<=1048576/\∃ f',8*s.size < q+f'/\Pm.bn s.data.toList f' q o=res)\/((bd=true\/1048576 < o.length)/\res=none)))
 case atStart=>exact ⟨p,false,out,h,hp,hO,ZV _ _,by omega,by omega,Zg ⟨rfl,hl,f,hf,HR.out⟩⟩
 case round=>
  clear hf HR h hO hl;obtain ⟨q,bd,o,hr,hq,ho,hb,hol,hg,hcase⟩:=hrel;have r0:=hr.c0;have r1:=hr.c1;have r2:=hr.c2;obtain ⟨ad,cap,hform,hnone⟩:=ho.form;subst hform;by_cases hlive:bd=false/\o.length<=1048576
  ·obtain ⟨rfl,hlo⟩:=hlive;have hcase':∃ f',8*s.size < q+f'/\Pm.bn s.data.toList f' q o=res:=by
    rcases hcase with ⟨_,_,hh⟩ | ⟨hh | hh,_⟩
    ·exact hh
    ·cases hh
    ·omega
   clear hcase;have HC:Hid (∃ f',8*s.size < q+f'/\Pm.bn s.data.toList f' q o=res):=hcase';clear hcase' hnone;go_wp2_with fail
   refine (tV wr b s q false hr hs hq).mono ?_;rintro e w1 ⟨rfl,hr1,ho1⟩;have hwd:=Pm.tJ s.data.toList q;have hcc:=Pm.AW s.data.toList q;by_cases hend:8*s.size < q+(Pm.bC s.data.toList q).2
   ·
    have HN:Hid (res=none):=Pm.jC hq HC.out (Pm.wO (by rw [<-HL.out];exact hend));have e1:min (q+(Pm.bC s.data.toList q).2) (8*s.size)=8*s.size:=by omega
    have e2:(false||decide (8*s.size < q+(Pm.bC s.data.toList q).2))=true:=by simp;omega
    rw [e1,e2] at hr1;clear e1 e2 HC;have t2:=hr1.c2;generalize (Pm.bC s.data.toList q).1=c at*;generalize (Pm.bC s.data.toList q).2=wd at*;go_wp2;go_ret;exact ⟨_,rfl,_,_,_,hr1,ZX _,ho.only ho1,hb.trans (ho1.below hr.lt),hol,Zo ⟨Zg rfl,HN.out⟩⟩
   ·have e1:min (q+(Pm.bC s.data.toList q).2) (8*s.size)=q+(Pm.bC s.data.toList q).2:=by omega
    have e2:(false||decide (8*s.size < q+(Pm.bC s.data.toList q).2))=false:=by simp;omega
    rw [e1,e2] at hr1;clear e1 e2;have hend':q+(Pm.bC s.data.toList q).2<=8*s.data.toList.length:=by rw [<-HL.out];omega
    have t2:=hr1.c2;by_cases h256:(Pm.bC s.data.toList q).1=256
    ·have HN:Hid (res=some (q+(Pm.bC s.data.toList q).2,o)):=Pm.vF hq HC.out (Pm.pj hend' h256);clear HC hend';generalize (Pm.bC s.data.toList q).1=c at*;generalize (Pm.bC s.data.toList q).2=wd at*;subst h256;go_wp2;go_ret;exact ⟨_,rfl,_,_,_,hr1,by omega,ho.only ho1,hb.trans (ho1.below hr.lt),hol,Zg ⟨rfl,hlo,HN.out⟩⟩
    ·by_cases hlt:(Pm.bC s.data.toList q).1 < 256
     ·
      have HB:Hid (o.length+1<=1048576->∃ f',8*s.size < q+(Pm.bC s.data.toList q).2+f'/\Pm.bn s.data.toList f' (q+(Pm.bC s.data.toList q).2) (o++[UInt8.ofNat (Pm.bC s.data.toList q).1])=res):=
       fun hh=>Pm.qQ hq HC.out (Pm.mC hend' hlt hh) (by omega)
      have HN:Hid (1048576 < o.length+1->res=none):=fun hh=>Pm.jC hq HC.out (Pm.uf hlt hh)
      clear HC hend';generalize (Pm.bC s.data.toList q).1=c at*;generalize (Pm.bC s.data.toList q).2=wd at*;have hO1:=ho.only ho1;have hub:(UInt8.ofNat c).toNat=c:=by simp;omega
      have HCell:Hid ((w1.alloc (.cells #[.int .u8 c] 5)).cell? w1=some (.int .u8 ((UInt8.ofNat c).toNat:Nat))):=by
       show _=_
       rw [hub];simp
      clear hub;go_wp2_with (at_builtin;refine kX rfl (.tmp 35) (.tmp 38) 66 rfl underlying66 b _ o rfl (hO1.alloc _) ⟨w1,0,none⟩ 1 rfl (UInt8.ofNat c) HCell.out rfl (by omega) ?_)
      intro v' w2 hO2 hb2;go_wp2;go_roundg (gk - 1)
      case measure=>omega
      case rel=>
       refine ⟨q+wd,false,o++[UInt8.ofNat c],(hr1.kept ?_).kept hb2,by omega,hO2,?_,by simp;omega,by omega,?_⟩
       ·exact (ZV _ _).alloc hO1.base _
       ·exact ((hb.trans (ho1.below hr.lt)).trans ((ZV _ _).alloc (Yu hO1.base) _)).trans (hb2.mono (Nat.le_succ b))
       ·by_cases hh:o.length+1<=1048576
        ·exact Zg ⟨rfl,by simp;omega,HB.out hh⟩
        ·exact Zo ⟨Zo (by simp;omega),HN.out (by omega)⟩
     ·
      have hc1:257<=(Pm.bC s.data.toList q).1:=by omega
      have HNo:Hid (Pm.ch s.data.toList (q+(Pm.bC s.data.toList q).2) (Pm.bC s.data.toList q).1 o=none->res=none):=
       fun hh=>Pm.jC hq HC.out (Pm.uV (by omega) hh)
      have HGo:Hid (∀ r,Pm.ch s.data.toList (q+(Pm.bC s.data.toList q).2) (Pm.bC s.data.toList q).1 o=some r->∃ f',8*s.size < r.1+f'/\Pm.bn s.data.toList f' r.1 r.2=res):=
       fun r hh=>Pm.qQ hq HC.out (Pm.lk hend' (by omega) hh) (by have:=(Pm.lg (q':=r.1) (o:=r.2) hh).1;omega)
      clear HC hend';generalize (Pm.bC s.data.toList q).1=c at*;generalize (Pm.bC s.data.toList q).2=wd at*;have hO1:=ho.only ho1;have hb1:=hb.trans (ho1.below hr.lt);clear ho1 ho hb r0 r1 r2 hr;by_cases h285:285 < c
      ·have HN:Hid (res=none):=HNo.out (by unfold Pm.ch;rw [ZO h285]);have tf:=hr1.f2;go_wp2;go_ret;exact ⟨_,rfl,_,_,_,hr1.spoil true,by omega,hO1.only ((bT.refl b _).setCell _ _),hb1.setCell (ZX b) _,hol,Zo ⟨Zg rfl,HN.out⟩⟩
      ·have HNo1:=aa (fun hh=>HNo.out (Pm.vy (q:=q+wd) (out:=o) HL.out hc1 hh));have HNo2:=aa (fun hh=>HNo.out (Pm.wi (q:=q+wd) (c:=c) (out:=o) HL.out hh));have HYes:=aa (fun n1 n2=>Pm.vN (q:=q+wd) (c:=c) (out:=o) HL.out hc1 (by omega) n1 n2);have hlb:=Pm.fh c (by omega) hc1;have hE:=hlb.1;have hA:=hlb.2.2;have hX:=Pm.cJ s.data.toList (q+wd) (Pm.al c);have hF:=tx (Pm.al c) 5 hE (by omega);go_wp2_with fail
       refine (oh _ c hc1 (by omega)).mono ?_;rintro e w2 ⟨rfl,rfl⟩;go_wp2_with fail
       refine (kl _ b s _ _ (Pm.al c) (by omega) hr1 hs (by omega)).mono ?_;rintro e w3 ⟨rfl,hr3,ho3⟩;go_wp2_with fail
       refine (iP _ b s _ _ 5 (by omega) hr3 hs (by omega)).mono ?_;rintro e w4 ⟨rfl,hr4,ho4⟩;rw [Bool.false_or] at hr4;have hv5:Pm.aR s.data.toList (min (q+wd+Pm.al c) (8*s.size)) 5 < 32:=Pm.kt _ _ 5;have hO4:=(hO1.only ho3).only ho4;have hb4:=(hb1.trans (ho3.below hr1.lt)).trans (ho4.below hr3.lt);have hq4:min (min (q+wd+Pm.al c) (8*s.size)+5) (8*s.size)<=8*s.size:=by omega
       clear hr3 hr1 ho3 ho4 hO1 hb1;generalize Pm.aR s.data.toList (min (q+wd+Pm.al c) (8*s.size)) 5=v5 at*;generalize Pm.am s.data.toList (q+wd) (Pm.al c)=X at*;generalize Pm.a_ c=A at*;generalize Pm.al c=E at*;have hX2:A+X<=258:=by omega
       clear hlb hX hF;by_cases t1:29 < v5
       ·have HN:Hid (res=none):=HNo1.out (Zg t1);have tf:=hr4.f2;have tc:=hr4.c2;go_wp2;go_ret;exact ⟨_,rfl,_,_,_,hr4.spoil true,hq4,hO4.only ((bT.refl b _).setCell _ _),hb4.setCell (ZX b) _,hol,Zo ⟨Zg rfl,HN.out⟩⟩
       ·by_cases t2:c=284/\258<=A+X
        ·have HN:Hid (res=none):=HNo1.out (Zo t2);have tf:=hr4.f2;have tc:=hr4.c2;obtain ⟨rfl,t3⟩:=t2;have t5:((A:Int)+(X:Int)==258)=true:=by rw [beq_iff_eq];omega
         go_wp2;go_ret;exact ⟨_,rfl,_,_,_,hr4.spoil true,hq4,hO4.only ((bT.refl b _).setCell _ _),hb4.setCell (ZX b) _,hol,Zo ⟨Zg rfl,HN.out⟩⟩
        ·have t1n:v5<=29:=by omega
         have hdb:=Pm.eN v5 (by omega);have hY:=Pm.cJ s.data.toList (min (min (q+wd+E) (8*s.size)+5) (8*s.size)) (Pm.aH v5);have hDB:=hdb.1;have hD1:=hdb.2.1;have hD2:Pm.bD v5+Pm.am s.data.toList (min (min (q+wd+E) (8*s.size)+5) (8*s.size)) (Pm.aH v5)<=32768:=by omega
         clear hdb hY;have HNT:Hid (¬ (29 < v5\/c=284/\258<=A+X)):=by rintro (hh | hh);exact t1 hh;exact t2 hh
         have t2b:¬ (c=284/\A+X=258):=by omega
         clear HNo1 t2 t1;rcases (show (¬ c=284)\/(c=284/\¬ A+X=258) from by omega) with t2c | ⟨rfl,t2d⟩
         rotate_left
         have t2c:((A:Int)+(X:Int)==258)=false:=by rw [Xy];omega
         all_goals
          go_wp2_with fail
          refine (lN _ v5 (by omega)).mono ?_;rintro e w5 ⟨rfl,rfl⟩;go_wp2_with fail
          refine (kl _ b s _ _ (Pm.aH v5) (by omega) hr4 hs hq4).mono ?_;rintro e w6 ⟨rfl,hr6,ho6⟩;have hO6:=hO4.only ho6;have hb6:=hb4.trans (ho6.below hr4.lt);have hq6:min (min (min (q+wd+E) (8*s.size)+5) (8*s.size)+Pm.aH v5) (8*s.size)<=8*s.size:=XE _ _;have tc:=hr6.c2;have tf:=hr6.f2;generalize Pm.am s.data.toList (min (min (q+wd+E) (8*s.size)+5) (8*s.size)) (Pm.aH v5)=Y at*;generalize Pm.bD v5=D at*;generalize Pm.aH v5=G at*;generalize hbd:(decide (8*s.size < q+wd+E)||decide (8*s.size < min (q+wd+E) (8*s.size)+5)||decide (8*s.size < min (min (q+wd+E) (8*s.size)+5) (8*s.size)+G))=bd at*;clear hbd
          cases bd with
          | true=>
           have HN:Hid (res=none):=HNo2.out (Zg rfl);go_wp2;go_ret;exact ⟨_,rfl,_,_,_,hr6.spoil true,hq6,hO6.only ((bT.refl b _).setCell _ _),hb6.setCell (ZX b) _,hol,Zo ⟨Zg rfl,HN.out⟩⟩
          | false=>
           by_cases t6:o.length < D+Y
           ·have HN:Hid (res=none):=HNo2.out (Zo t6);go_wp2;go_ret;exact ⟨_,rfl,_,_,_,hr6.spoil true,hq6,hO6.only ((bT.refl b _).setCell _ _),hb6.setCell (ZX b) _,hol,Zo ⟨Zg rfl,HN.out⟩⟩
           ·have hd1:1<=D+Y:=by omega
            have H8:=HYes.out HNT.out (by rintro (hh | hh);cases hh;exact t6 hh);have HT:=aa H8;have HDY:Hid (D+Y<=o.length):=Nat.le_of_not_lt t6;clear H8 HNo2 HYes HNT;have hDY:=HDY.out;go_wp2;obtain ⟨gkO,hgkO⟩:∃ x,x=gk:=⟨_,rfl⟩;subst hgkO;go_loopg [1,11] (A+X) (fun g u i wr'=>∃ k:Nat,k<=A+X/\A+X - k<=g/\i=.int .i64 k/\gZ wr' b u (Pm.eQ o (D+Y) k)/\Below (b+1) w6 wr')
            case atStart=>exact ⟨0,by omega,by omega,rfl,hO6,ZV _ _⟩
            case round=>
             obtain ⟨k,hk1,hk2,rfl,hOk,hbk⟩:=hrel;have HCS:=aa (Pm.mW o (D+Y) k);have hM:=Pm.ig o (D+Y) k;have HDone:Hid (k=A+X->gZ _ b _ (Pm.eQ o (D+Y) (A+X))):=fun hh=>hh ▸ hOk
             by_cases hkl:k < A+X
             ·clear HDone;generalize Pm.eQ o (D+Y) k=o2 at*;have hM1:o2.length<=o.length+k:=by omega
              have hM2:o.length+k<=o2.length:=by omega
              clear hM;obtain ⟨gb,cap2,hv2,hcell,hgb⟩:=hOk.at (o2.length - (D+Y)) (by omega);subst hv2;generalize o2.getD (o2.length - (D+Y)) 0=cc at*;have HCell:Hid ((wr.alloc (.cells #[.int .u8 (cc.toNat:Nat)] 5)).cell? wr=some (.int .u8 (cc.toNat:Nat))):=by
               show _=_
               simp
              go_wp2_with (at_builtin;refine kX rfl (.tmp 103) (.tmp 111) 66 rfl underlying66 b _ o2 rfl (hOk.alloc _) ⟨wr,0,none⟩ 1 rfl cc HCell.out rfl (by omega) ?_)
              intro v' w7 hO7 hb7;go_wp2;go_roundg (gk - 1)
              case measure=>omega
              case rel=>
               refine ⟨k+1,by omega,by omega,by go_num,?_,?_⟩
               ·rw [HCS.out];exact hO7
               ·exact (hbk.trans ((ZV _ _).alloc hOk.base _)).trans hb7
             ·have hke:k=A+X:=by omega
              have hOD:=HDone.out hke;have hMD:=Pm.ig o (D+Y) (A+X);subst hke;clear HCS hM HDone;go_wp2;go_roundg (gkO - 1)
              case measure=>omega
              case rel=>
               refine ⟨_,false,_,hr6.kept hbk,hq6,hOD,hb6.trans (hbk.mono (Nat.le_succ b)),by omega,?_,?_⟩
               ·omega
               ·by_cases hh:o.length+(A+X)<=1048576
                ·exact Zg ⟨rfl,by omega,HGo.out _ (HT.out.2 hh)⟩
                ·exact Zo ⟨Zo (by omega),HNo.out (HT.out.1 (by omega))⟩
  ·have hN:res=none:=by
    rcases hcase with ⟨g1,g2,_⟩ | ⟨_,hh⟩
    ·exact absurd ⟨g1,g2⟩ hlive
    ·exact hh
   have HN:Hid (res=none):=hN;have hdead:bd=true\/1048576 < o.length:=by
    cases bd
    ·right;exact XD (fun hh=>hlive ⟨rfl,hh⟩)
    ·left;rfl
   have HD:Hid (bd=true\/1048576 < o.length):=hdead;clear hN hcase hlive hnone
   cases bd with
   | true=>
    clear hdead HD;go_wp2;go_ret;exact ⟨_,rfl,_,_,_,hr,hq,ho,hb,hol,Zo ⟨Zg rfl,HN.out⟩⟩
   | false=>
    have h5:1048576 < o.length:=by rcases hdead with hh | hh;cases hh;exact hh
    clear hdead HD;go_wp2;go_ret;exact ⟨_,rfl,_,_,_,hr,hq,ho,hb,hol,Zo ⟨Zo h5,HN.out⟩⟩
theorem jt (w:World) (b:Nat) (s:ByteArray) (p:Nat) (bad:Bool) (v:Value) (out:List UInt8) (h:RB w b s p bad) (hO:gZ w b v out) (hl:out.length<=1048576) (hs:s.size<=140737488355328) (hp:p<=8*s.size):
  CP 103 #[zp b,v] w fun e w'=>∃ v',e=.returned v'/\tF w b s (if bad then none else Pm.cO s.data.toList p out) v' w':=by
 have hlen:s.data.toList.length=s.size:=by simp
 have HL:Hid (8*s.size=8*s.data.toList.length):=by show _=_;rw [hlen]
 clear hlen;have hup:p<=bq p/\bq p<=8*s.size/\bq p % 8=0:=by unfold bq;omega
 generalize hres:(if bad then none else Pm.cO s.data.toList p out)=res;have HR:=aa hres;clear hres;obtain ⟨ad,cap,hform,hnone⟩:=hO.form;subst hform;go_enter func103,ntmps103
 go_wp2_with fail
 refine (jo w b s p bad h hs hp).mono ?_;rintro e w1 ⟨rfl,hr1,ho1⟩;generalize hP:bq p=P at*;have HP:=aa hP;clear hP;go_wp2_with fail
 refine (kl w1 b s P _ 16 (by omega) hr1 hs (by omega)).mono ?_;rintro e w2 ⟨rfl,hr2,ho2⟩;go_wp2_with fail
 refine (kl w2 b s _ _ 16 (by omega) hr2 hs (XE _ _)).mono ?_;rintro e w3 ⟨rfl,hr3,ho3⟩;have hN:Pm.am s.data.toList P 16 < 65536:=Pm.cJ _ _ 16;have hM:Pm.am s.data.toList (min (P+16) (8*s.size)) 16 < 65536:=Pm.cJ _ _ 16;have hO3:=((hO.only ho1).only ho2).only ho3;have hb3:=(((ZV b w).trans (ho1.below h.lt)).trans (ho2.below hr1.lt)).trans (ho3.below hr2.lt);clear ho1 ho2 ho3 hr1 hr2 hO h;have hlen2:s.data.toList.length=s.size:=by simp
 have HNo:=aa (fun hh=>HR.out.symm.trans (Pm.yz (out:=out) HL.out (show Pm.bq p=P from HP.out) (by omega) hh));have HYes:=aa (fun h1 h2 h3=>Pm.uS (out:=out) (bad:=bad) HL.out (show Pm.bq p=P from HP.out) h1 h2 h3);rw [hlen2] at HNo HYes;rw [HR.out] at HYes;clear hlen2 HR HP HL;have hQ:min (min (P+16) (8*s.size)+16) (8*s.size)<=8*s.size:=XE _ _;have hQ8:min (min (P+16) (8*s.size)+16) (8*s.size) % 8=0:=by omega
 generalize min (min (P+16) (8*s.size)+16) (8*s.size)=Q at*;have HQ8:=aa hQ8;clear hQ8;generalize Pm.am s.data.toList (min (P+16) (8*s.size)) 16=M at*;generalize Pm.am s.data.toList P 16=N at*;generalize (bad||decide (Pm.am s.data.toList p (P - p)≠0)||decide (8*s.size < P+16)||decide (8*s.size < min (P+16) (8*s.size)+16))=bd at*;have c0:=hr3.c0;have c1:=hr3.c1;have c2:=hr3.c2;have f1:=hr3.f1;have f2:=hr3.f2;generalize hQB:Q / 8=B at*;have e1:IntKind.i64.wrap ((Q:Int) / 8)=(B:Int):=by rw [Xl _ (by omega)];omega
 have hB:B<=s.size:=by omega
 have HQB:=aa hQB;clear hQB
 cases bd with
 | true=>
  have HN:=aa (HNo.out (Zg rfl));go_wp2;go_quiet (fail)
  go_wp2;go_ret;exact ⟨_,rfl,_,_,_,(hr3.drewN _).spoil true,hQ,(hO3.drewN _).only ((bT.refl b _).setCell _ _),(Go.below_drewN hb3 _).setCell (ZX b) _,by omega,Zo ⟨Zg rfl,HN.out⟩⟩
 | false=>
  by_cases h2:M=65535 - N
  ·have hm:((M:Int) != 65535 - (N:Int))=false:=by rw [Yz];omega
   by_cases h3:s.size < B+N
   ·have HN:=aa (HNo.out (Zo (Zo h3)));have h4:(s.size:Int) < (B:Int)+(N:Int):=by omega
    clear h2;go_wp2;go_quiet (fail)
    go_wp2;go_ret;exact ⟨_,rfl,_,_,_,(hr3.drewN _).spoil true,hQ,(hO3.drewN _).only ((bT.refl b _).setCell _ _),(Go.below_drewN hb3 _).setCell (ZX b) _,by omega,Zo ⟨Zg rfl,HN.out⟩⟩
   ·have HY:=aa (HYes.out rfl h2 (by omega));have h4:(B:Int)+(N:Int)<=(s.size:Int):=by omega
    have h4':decide ((s.size:Int) < (B:Int)+(N:Int))=false:=by simp;omega
    have e2:IntKind.i64.wrap ((B:Int)+(N:Int))=(B:Int)+(N:Int):=Xl _ (by omega);have hsl:∀ wx,(Instr.slice 9 s (some (.int .i64 (B:Int))) (some (.int .i64 ((B:Int)+(N:Int)))) none).run prog wx=.ok (.string (s.extract B (B+N))) wx:=by
     intro wx;rw [run_slice_string wx 9 s .i64 .i64 (B:Int) ((B:Int)+(N:Int)) underlying9 (by omega) (by omega) (by omega)];have t1:((B:Int)+(N:Int)).toNat=B+N:=by omega
     rw [t1,Int.toNat_natCast]
    clear h2 HNo HYes;go_wp2;go_quiet (fail)
    go_wp2;have hO4:=(hO3.drewN nq).drew;go_region_held_law (fun w'=>w'.cell? b=some (.string s)/\w'.cell? (zq b 1)=some (.int .i64 Q)) (go_keep) ((refine vd rfl (.tmp 42) (.tmp 59) 66 9 rfl underlying66 underlying9 b _ out (by simp [Act.eval,Act.put]) hO4 (s.extract B (B+N)) (by simp [Act.eval,Act.put]) (by simp;omega) ?_;intro v' w5 hO5 hb5;have k0:=(hb5.cell (p:=b) (YW b));have k1:=(hb5.cell (p:=zq b 1) (YW b))))
    have q1:w5.cell? (zq b 1)=Q:=by rw [k1];exact c1
    have q2:w5.frozen? (zq b 1)=false:=by rw [hb5.frozen (p:=zq b 1) (YW b)];exact f1
    clear k0 k1;go_wp2;go_ret;have hr5:=(hr3.drewN nq).drew.kept hb5;have hl5:(out++(s.extract B (B+N)).data.toList).length=out.length+N:=by
     rw [Pm.eX,ZZ,Zx,YV];have:s.data.toList.length=s.size:=by simp
     omega
    have hl6:out++(s.extract B (B+N)).data.toList=out++(s.data.toList.drop B).take N:=by rw [Pm.eX]
    refine ⟨_,rfl,Q+8*N,false,_,hr5.at (Q+8*N) _ (by simp),?_,hO5.only ((bT.refl b _).setCell _ _),?_,by omega,?_⟩
    ·have k1:=HQB.out;have k2:=HQ8.out;omega
    ·exact (((Go.below_drewN hb3 _).drew).trans (hb5.mono (Nat.le_succ b))).setCell (ZX b) _
    ·by_cases hh:out.length+N<=1048576
     ·exact Zg ⟨rfl,by omega,by rw [hl6];exact HY.out.1 hh⟩
     ·exact Zo ⟨Zo (by omega),HY.out.2 (by omega)⟩
  ·have HN:=aa (HNo.out (Zo (Zg h2)));have hm:((M:Int) != 65535 - (N:Int))=true:=by rw [bne_iff_ne];omega
   go_wp2;go_quiet (fail)
   go_wp2;go_ret;exact ⟨_,rfl,_,_,_,(hr3.drewN _).spoil true,hQ,(hO3.drewN _).only ((bT.refl b _).setCell _ _),(Go.below_drewN hb3 _).setCell (ZX b) _,by omega,Zo ⟨Zg rfl,HN.out⟩⟩
theorem gZ.str {w:World} {b:Nat} {v:Value} {out:List UInt8} (h:gZ w b v out):(convert 66 9 v).run prog w=.ok (.string ⟨out.toArray⟩) w:=by
 rcases h.own.2 with ⟨rfl,hn⟩ | ⟨g,cap,cur,rfl,hb,_⟩
 ·rw [run_convert_bytes_nil (w:=w) 66 5 underlying66 underlying5 0 0 9 underlying9];have:out=[]:=Zh hn;subst this;rfl
 ·refine Yf w 66 9 5 ⟨g,0,none⟩ cap out underlying66 underlying5 underlying9 ?_;intro j hj;have hx:(bo out)[j]? =some (.int .u8 ((out[j].toNat:Nat):Int)):=by simp [bo,ZK hj]
  exact h.own.cells (g:=g) rfl j _ hx
def zz:Option (List UInt8×Nat)->Value
 | some (o,n)=>.tuple #[.string ⟨o.toArray⟩,n,oz]
 | none=>.tuple #[.string ⟨#[]⟩,oz,(5:Int)]
theorem pE (w:World) (b:Nat) (s:ByteArray) (p:Nat) (v:Value) (out:List UInt8) (h:RB w b s p true) (hO:gZ w b v out):
  QE 104 #[zp b,v] w v:=by
 have c2:=h.c2;obtain ⟨ad,cap,hform,_⟩:=hO.form;subst hform;go_enter func104,ntmps104
 go_wp2;refine wp_loop_rounds 1 ?_;rw [rounds_succ];go_wp2;go_ret;exact ⟨rfl,rfl⟩
theorem fH (s:ByteArray) (i:Nat) (h:i < s.size):s.data.toList.getD i 0=s[i]:=by
 rw [ZB,ZK (by simpa using h)];rfl
theorem nO (w:World) (s:ByteArray) (hs:s.size<=140737488355328) (hh:Pm.cm s.data.toList=false):
  QB 54 #[s] w (zz (Pm.bP s.data.toList)):=by
 rw [Pm.qT hh];unfold Pm.cm at hh;have hlen:s.data.toList.length=s.size:=by simp
 rw [hlen] at hh;by_cases h2:s.size < 2
 ·clear hh hlen;go_enter func54,ntmps54
  go_wp2;go_ret3;exact ⟨rfl,ZV _ _⟩
 ·have h0:0 < s.size:=by omega
  have h1:1 < s.size:=by omega
  rw [fH s 0 h0,fH s 1 h1] at hh;have b0:s[0].toNat < 256:=s[0].toNat_lt;have b1:s[1].toNat < 256:=s[1].toNat_lt;by_cases k0:s[0].toNat=120
  ·by_cases k1:(30720+s[1].toNat) % 31=0
   ·have k2:¬ s[1].toNat / 32 % 2=0:=by
     intro k2;simp only [decide_eq_false_iff_not] at hh;exact hh ⟨by omega,k0,k1,k2⟩
    have q0:(((s[0].toNat:Nat):Int) != 120)=false:=by rw [Yz];omega
    have q1:(((30720:Int)+((s[1].toNat:Nat):Int)) % 31 != 0)=false:=by rw [Yz];omega
    have q2:(((s[1].toNat:Nat):Int) / 32 % 2 != 0)=true:=by rw [bne_iff_ne];omega
    clear hh hlen k0 k1 k2;have w1:=bY s[1];go_enter func54,ntmps54
    go_wp2;go_ret3;exact ⟨rfl,ZV _ _⟩
   ·have q0:(((s[0].toNat:Nat):Int) != 120)=false:=by rw [Yz];omega
    have q1:(((30720:Int)+((s[1].toNat:Nat):Int)) % 31 != 0)=true:=by rw [bne_iff_ne];omega
    clear hh hlen k0 k1;have w1:=bY s[1];go_enter func54,ntmps54
    go_wp2;go_ret3;exact ⟨rfl,ZV _ _⟩
  ·have q0:(((s[0].toNat:Nat):Int) != 120)=true:=by rw [bne_iff_ne];omega
   clear hh hlen k0;go_enter func54,ntmps54
   go_wp2;go_ret3;exact ⟨rfl,ZV _ _⟩
end Go.Proofs.YtbklfkpjoinofaaGreatDoor
