import Derived.Test.YtbklfkpjoinofaaGreatDoorA03
import Derived.Deep.RegionHeldLaw
set_option linter.all false
set_option maxRecDepth 100000
set_option maxHeartbeats 8000000
namespace Go.Proofs.YtbklfkpjoinofaaGreatDoor
open Go.RowKit Go.Proofs.Tryz
namespace Pm
theorem rP {l:List UInt8} {r:Nat×List UInt8} (f:Nat):∀ (g p:Nat) (o:List UInt8),o.length<=1048576->bn l f p o=some r->8*l.length < p+g->bn l g p o=some r:=by
 induction f with
 | zero=>intro g p o _ h;simp [bn] at h
 | succ f ih=>
  intro g p o ho h hg;rw [bn] at h
  match hs:cY l p o with
  | none=>rw [hs] at h;cases h
  | some (e,q,o')=>
   obtain ⟨h1,h2,h3⟩:=jx hs ho;obtain ⟨g,rfl⟩:∃ g',g=g'+1:=⟨g - 1,by omega⟩;rw [hs] at h;rw [bn,hs]
   cases e with
   | true=>exact h
   | false=>exact ih g q o' h3 h (by omega)
def Hd (N n:Nat):Prop:=19<=n/\N % 524288=196984
theorem Hd.put {N n:Nat} (h:Hd N n) (v k:Nat):Hd (N+v*2 ^ n) (n+k):=by
 refine ⟨by have:=h.1;omega,?_⟩;obtain ⟨m,rfl⟩:∃ m,n=19+m:=⟨n - 19,by have:=h.1;omega⟩;have e:v*2 ^ (19+m)=524288*(v*2 ^ m):=by
  rw [YP];have:(2:Nat) ^ 19=524288:=by decide
  rw [this,Nat.mul_left_comm]
 rw [e,Nat.add_mul_mod_self_left];exact h.2
theorem Hd.start:Hd (120+1*2 ^ 8+1*2 ^ 16+1*2 ^ 17) 19:=⟨by decide,by decide⟩
theorem xi.low {l:List UInt8} {N n:Nat} (h:xi l N n) (p k:Nat) (hk:p+k<=n):ao l p k=N / 2 ^ p % 2 ^ k:=by
 obtain ⟨m,rfl⟩:∃ m,n=p+k+m:=⟨n - (p+k),by omega⟩;rw [<-h.2];unfold ao;rw [YP,YP,XV,Nat.mod_mul_right_div_self,Nat.mod_mul_right_mod]
theorem xi.cut {l:List UInt8} {N n k:Nat} (h:xi l N (n+k)) (hN:N < 2 ^ n):xi l N n/\ao l n k=0:=by
 have:xi l (N+0*2 ^ n) (n+k):=by rw [Nat.zero_mul,Yb];exact h
 exact this.split hN (YL k)
theorem Be:sb 256=0:=by decide
theorem qm:aI 256=(0,7):=by decide
theorem sg.unpack {N n:Nat} {o:List UInt8} (h:sg N n o) (hh:Hd N n) (ho:o.length<=1048576) {l:List UInt8} {M:Nat} (hM:bq (n+7)=8*M) (hl:l.length=M+4) (hp:xi l N (8*M))
  (hs:uK l M=65536*(cB o (1,0)).2+(cB o (1,0)).1):bP l=some (o,l.length):=by
 have hup:n+7<=8*M/\8*M < n+7+8:=by unfold bq at hM;omega
 have h19:=hh.1;obtain ⟨j,hj⟩:∃ j,8*M=n+(7+j):=⟨8*M - n - 7,by omega⟩;have hp':=hp;rw [hj] at hp';obtain ⟨hpn,hz⟩:=hp'.cut h.1;have hz2:=gh l n 7 j;rw [hz] at hz2;have hz7:ao l n 7=0:=by omega
 have hzj:ao l (n+7) j=0:=by
  have h128:(2:Nat) ^ 7=128:=by decide
  rw [h128] at hz2;omega
 have hsym:bC l n=(256,7):=by
  have:=pM (l:=l) (p:=n) (c:=256) (by omega) (by rw [qm];show ao l n 7=_;rw [hz7];decide);rw [this,qm]
 have hend:cY l n o=some (true,n+7,o):=by
  have:=pj (l:=l) (p:=n) (out:=o) (by rw [hsym];show n+7<=_;omega) (by rw [hsym]);rw [this,hsym]
 obtain ⟨k,hk⟩:=h.2 l hpn;have hc:bn l (1+k) 19 []=some (n+7,o):=by
  rw [hk 1,bn,hend]
 have hc2:=rP _ (8*l.length+1) 19 [] (by simp) hc (by omega);have hN:N=N % 524288+524288*(N / 524288):=(Nat.mod_add_div N 524288).symm;rw [hh.2] at hN;generalize N / 524288=X at hN;have hlow:∀ p k,p+k<=19->ao l p k=N / 2 ^ p % 2 ^ k:=fun p k hpk=>hpn.low p k (by omega)
 have e0:ao l (8*0) 8=120:=by rw [hlow _ _ (by omega),hN];show (196984+524288*X) / 1 % 256=120;omega
 have e1:ao l (8*1) 8=1:=by rw [hlow _ _ (by omega),hN];show (196984+524288*X) / 256 % 256=1;omega
 have e2:ao l 16 1=1:=by rw [hlow _ _ (by omega),hN];show (196984+524288*X) / 65536 % 2=1;omega
 have e3:ao l 17 2=1:=by rw [hlow _ _ (by omega),hN];show (196984+524288*X) / 131072 % 4=1;omega
 rw [mI] at e0 e1;have hhead:bi l=true:=by
  unfold bi;rw [e0,e1];simp;omega
 have hb:bF l (8*l.length+1) 16 []=some (n+7,o):=by
  rw [bF,ZO (by omega)];rw [show 16+1=17 from rfl,e3,ZO (by decide),ZM rfl,show 16+3=19 from rfl,hc2];simp only [e2,if_true]
 rw [iM hhead hb];have hM8:bq (n+7) / 8=M:=by rw [hM];omega
 rw [oU (by rw [hM,show 8*M - (n+7)=j by omega];exact hzj) (by rw [hM8];omega) (by rw [hM8];exact hs),hM8,hl]
def qj (W:List UInt8) (i k v b:Nat):Prop:=
 (k=1/\i < W.length/\v=sb (W.getD i 0).toNat/\b=(aI (W.getD i 0).toNat).2)\/
 (∃ d,4<=k/\k<=258/\i+k<=W.length/\1<=d/\d<=32768/\d<=i/\(∀ j,j < k->W.getD (i+j - d) 0=W.getD (i+j) 0)/\v=mv k d/\b=mw k d)
theorem vE (D:List UInt8) (p d:Nat) (hd:1<=d) (hdp:d<=p) (k:Nat) (hk:p+k<=D.length) (h:∀ j,j < k->D.getD (p+j - d) 0=D.getD (p+j) 0):eQ (D.take p) d k=D.take (p+k):=by
 induction k with
 | zero=>rfl
 | succ k ih=>
  rw [qf,ih (by omega) (fun j hj=>h j (by omega))];have hlen:(D.take (p+k)).length=p+k:=by rw [Zk];omega
  rw [hlen, <-YW p k 1,Zv (show p+k < D.length by omega)];congr 1;have hx:=h k (by omega);simp only [ZJ] at hx ⊢;rw [List.getElem?_take_of_lt (by omega),hx,ZN (show p+k < D.length by omega)];rfl
theorem zf (A B C E x a b c N:Nat):N+(A+(B+(C+E*c)*b)*a)*x=N+A*x+B*(x*a)+C*(x*a*b)+E*(x*a*b*c):=by
 simp only [Nat.add_mul]
 ac_rfl
theorem Ax (k d:Nat) (hk:3<=k/\k<=258) (hd:1<=d/\d<=32768):mw k d<=32:=by
 obtain ⟨l1,l2,l3,_,_,_⟩:=j_ k (by omega) hk.1;obtain ⟨d1,d2,_,_⟩:=iN d (by omega) hd.1;have:=fh (bN k).1 (by omega) l1;have:=eN (bB d).1 (by omega);have:=dY (bN k).1 (by omega);unfold mw;omega
theorem qj.enc {D W:List UInt8} {g i k v b N n:Nat} (h:qj W i k v b) (hW:W=D.drop g) (hD:D.length<=1048576) (hE:sg N n (D.take (g+i))):
  sg (N+v*2 ^ n) (n+b) (D.take (g+(i+k)))/\b<=9*k/\v < 2 ^ b/\i+k<=W.length/\1<=k:=by
 have hget:∀ j,W.getD j 0=D.getD (g+j) 0:=by
  intro j;simp only [hW,ZJ,Yc]
 have hlen:W.length=D.length - g:=by rw [hW,Zc]
 rcases h with ⟨rfl,hi,rfl,rfl⟩ | ⟨d,h1,h2,h3,h4,h5,h6,h7,rfl,rfl⟩
 ·have hlt:g+i < D.length:=by omega
  have e:D.take (g+(i+1))=D.take (g+i)++[W.getD i 0]:=by
   rw [<-YW,Zv hlt,hget];congr 1;simp [ZJ,ZN hlt]
  have hc:(W.getD i 0).toNat < 256:=(W.getD i 0).toNat_lt;rw [e];refine ⟨hE.lit _ (by rw [Zk];omega),?_,oV _ (by omega),by omega,by omega⟩;have:=dY (W.getD i 0).toNat (by omega);omega
 ·have hcp:eQ (D.take (g+i)) d k=D.take (g+i+k):=vE D (g+i) d h4 (by omega) k (by omega) (by
   intro j hj;have:=h7 j hj;rw [hget,hget] at this;rw [show g+i+j - d=g+(i+j - d) by omega,show g+i+j=g+(i+j) by omega];exact this)
  have hA:=hE.again k d ⟨by omega,h2⟩ ⟨h4,h5⟩ (by rw [Zk];omega) (by rw [Zk];omega);rw [hcp] at hA;have hmw:=Ax k d ⟨by omega,h2⟩ ⟨h4,h5⟩;have hv:N+mv k d*2 ^ n=((N+sb (bN k).1*2 ^ n+(bN k).2.1*2 ^ (n+(aI (bN k).1).2))+ee 5 (bB d).1*2 ^ (n+(aI (bN k).1).2+(bN k).2.2))+(bB d).2.1*2 ^ (n+(aI (bN k).1).2+(bN k).2.2+5):=by
   unfold mv;rw [zf];simp only [YP]
  have hb:n+mw k d=n+(aI (bN k).1).2+(bN k).2.2+5+(bB d).2.2:=by unfold mw;omega
  rw [hv,hb, <-YW g i k];refine ⟨hA,by omega,?_,h3,by omega⟩;obtain ⟨l1,l2,l3,l4,_,_⟩:=j_ k (by omega) (by omega);obtain ⟨d1,d2,d3,_⟩:=iN d (by omega) h4;have h32:(bB d).1 < 2 ^ 5:=XT d1 (by decide);have a2:ee 5 (bB d).1 < 2 ^ 5:=(je 5 (by omega) (bB d).1 (by omega) h32).2;unfold mv mw;have q1:=dk a2 d3;have q2:=dk l4 q1;have q3:=dk (oV (bN k).1 (by omega)) q2;have hx:(aI (bN k).1).2+(bN k).2.2+5+(bB d).2.2=(aI (bN k).1).2+((bN k).2.2+(5+(bB d).2.2)):=by omega
  rw [hx];exact q3
end Pm
theorem ra (s:ByteArray) (k:Nat) (h:k < s.size):s.data.toList.take (k+1)=s.data.toList.take k++[s[k]]:=by
 rw [Zv (by simpa using h)];rfl
theorem ta (w:World):
  QB 195 #[] w (.agg #[.int .u32 1,.int .u32 0]):=by
 go_enter func195,ntmps195
 go_wp2;exact YO (v:=.agg #[.int .u32 1,.int .u32 0]) (by simp [results,Tryz.results195,go_sem]) rfl ⟨rfl,(ZQ _ _).alloc (ZV _) _⟩
theorem DE (w:World) (c A B:Nat) (t:ByteArray) (ht:t.size<=140737488355328) (hA:A < 65521) (hB:B < 65521) (c0:w.cell? c=some (.int .u32 A)) (c1:w.cell? (zq c 1)=some (.int .u32 B)) (f0:w.frozen? c=false) (f1:w.frozen? (zq c 1)=false):
  CP 197 #[zp c,t] w fun e w'=>e=.returned (.tuple #[])/\w'.cell? c=some (.int .u32 ((Pm.cB t.data.toList (A,B)).1:Nat))/\w'.cell? (zq c 1)=some (.int .u32 ((Pm.cB t.data.toList (A,B)).2:Nat))/\
   w'.frozen? c=false/\w'.frozen? (zq c 1)=false/\bT c w w':=by
 go_enter func197,ntmps197
 go_wp2;go_quiet (fail)
 go_wp2;go_loopg [4,5,6] t.size (fun g x y i wr=>∃ k X Y:Nat,k<=t.size/\X < 65521/\Y < 65521/\t.size - k<=g/\i=.int .i64 k/\x=.int .u32 X/\y=.int .u32 Y/\Hid (Pm.cB (t.data.toList.take k) (A,B)=(X,Y))/\wr=w.drewN nq)
 case atStart=>exact ⟨0,A,B,by omega,hA,hB,by omega,rfl,rfl,rfl,rfl,rfl⟩
 case round=>
  obtain ⟨k,X,Y,hk,hX,hY,hg,rfl,rfl,rfl,HE,rfl⟩:=hrel;by_cases hlt:k < t.size
  ·have HS:Hid (Pm.cB (t.data.toList.take (k+1)) (A,B)=((X+t[k].toNat) % 65521,(Y+(X+t[k].toNat) % 65521) % 65521)):=by
    show _=_
    rw [ra t k hlt,Pm.oT,HE.out]
   have hc:t[k].toNat < 256:=t[k].toNat_lt;go_wp2;go_roundg (gk - 1)
   case measure=>omega
   case rel=>exact ⟨k+1,(X+t[k].toNat) % 65521,(Y+(X+t[k].toNat) % 65521) % 65521,by omega,Yt _ (by decide),Yt _ (by decide),by omega,by go_num,by simp,by simp,HS.out,rfl⟩
  ·have hkc:t.data.toList.take k=t.data.toList:=ZA (by simp;omega);have HE2:Hid (Pm.cB t.data.toList (A,B)=(X,Y)):=by show _=_;rw [<-hkc];exact HE.out
   clear hkc;go_wp2;go_end0;rw [HE2.out];refine ⟨rfl,?_,?_,?_,?_,?_⟩
   ·rw [ZW _ _ _ _ (by simp)];exact ZE _ _ _ c0
   ·exact ZE (u:=.int .u32 B) _ _ _ (by rw [ZW _ _ _ _ (by simp)];exact c1)
   ·rw [ZL,ZL];exact f0
   ·rw [ZL,ZL];exact f1
   ·exact (((bT.refl c w).drewN _).setCell _ _).setCell _ _
theorem AV (A B:Nat) (hA:A < 65521) (hB:B < 65521):bits BinOp.or IntKind.u32 ((B:Int)*65536 % 4294967296) (A:Int)=((65536*B+A:Nat):Int):=by
 have e1:(B:Int)*65536 % 4294967296=((B*65536:Nat):Int):=by omega
 rw [e1,u32_or_nat _ _ (by omega) (by omega),nat_join 16 _ _ (by omega) (by omega)];congr 1;omega
theorem uW (w:World) (A B:Nat) (hA:A < 65521) (hB:B < 65521):
  QB 203 #[.agg #[.int .u32 A,.int .u32 B]] w (.int .u32 (65536*B+A:Nat)):=by
 go_enter func203,ntmps203
 go_wp2;go_ret;refine ⟨bI ?_,(ZQ _ _).alloc (ZV _) _⟩;rw [<-AV A B hA hB];congr 1;omega
def gQ (t i:Nat):Nat:=t / 2 ^ (24 - 8*i) % 256
def cH (t:Nat):Nat->Nat
 | 0=>0
 | k+1=>cH t k+gQ t k*2 ^ (8*k)
theorem dM (t i:Nat):gQ t i < 256:=Yt _ (by decide)
theorem AC {l:List UInt8} {N M t:Nat} (hl:l.length=M+4) (hN:N < 2 ^ (8*M)) (h:Pm.cw l=N+cH t 4*2 ^ (8*M)) (ht:t < 4294967296):Pm.xi l N (8*M)/\Pm.uK l M=t:=by
 have hb:cH t 4=gQ t 0+gQ t 1*256+gQ t 2*65536+gQ t 3*16777216:=by
  simp [cH]
 have hdiv:Pm.cw l / 2 ^ (8*M)=cH t 4:=by
  rw [h,Nat.add_mul_div_right _ _ (YL _),XE hN,YH]
 refine ⟨⟨by omega,by rw [h,Nat.add_mul_mod_self_right,XM hN]⟩,?_⟩;have hget:∀ i,(l.getD (M+i) 0).toNat=cH t 4 / 2 ^ (8*i) % 256:=by
  intro i;rw [<-Pm.mI];unfold Pm.ao;rw [XP,YP, <-XF,hdiv]
 have g0:=hget 0;have g1:=hget 1;have g2:=hget 2;have g3:=hget 3;have h0:=dM t 0;have h1:=dM t 1;have h2:=dM t 2;have h3:=dM t 3;have s0:gQ t 0=t / 16777216 % 256:=rfl;have s1:gQ t 1=t / 65536 % 256:=rfl;have s2:gQ t 2=t / 256 % 256:=rfl;have s3:gQ t 3=t % 256:=by show t / 1 % 256=_;rw [Nat.div_one]
 have p0:cH t 4 / 2 ^ (8*0)=cH t 4:=by simp
 have p1:cH t 4 / 2 ^ (8*1)=cH t 4 / 256:=rfl;have p2:cH t 4 / 2 ^ (8*2)=cH t 4 / 65536:=rfl;have p3:cH t 4 / 2 ^ (8*3)=cH t 4 / 16777216:=rfl;rw [p0] at g0;rw [p1] at g1;rw [p2] at g2;rw [p3] at g3;rw [Yb] at g0;unfold Pm.uK;have q:∀ b0 b1 b2 b3 X:Nat,b0 < 256->b1 < 256->b2 < 256->b3 < 256->X=b0+b1*256+b2*65536+b3*16777216->X % 256=b0/\X / 256 % 256=b1/\X / 65536 % 256=b2/\X / 16777216 % 256=b3:=by
  intro b0 b1 b2 b3 X a0 a1 a2 a3 e;refine ⟨?_,?_,?_,?_⟩ <;> omega
 obtain ⟨x0,x1,x2,x3⟩:=q _ _ _ _ _ h0 h1 h2 h3 hb;rw [g0,g1,g2,g3,x0,x1,x2,x3,s0,s1,s2,s3];clear q x0 x1 x2 x3 g0 g1 g2 g3 hb hget hdiv p0 p1 p2 p3 s0 s1 s2 s3 h0 h1 h2 h3 h;omega
theorem jn (F:List UInt8):dt F 0=Pm.cw F:=by unfold dt;omega
theorem A4 (x:Nat):bits BinOp.and IntKind.u32 (x:Int) 255=((x % 256:Nat):Int):=by
 have h1:(BitVec.ofInt 32 255).toNat=2 ^ 8 - 1:=by decide
 have key:(BitVec.ofInt 32 (x:Int)&&& BitVec.ofInt 32 255).toNat=((x:Int) % ((2 ^ 32:Nat):Int)).toNat % 2 ^ 8:=by
  rw [BitVec.toNat_and,Xy,h1,XS]
 show IntKind.u32.wrap ((BitVec.ofInt 32 (x:Int)&&& BitVec.ofInt 32 255).toNat:Nat)=_
 rw [key,IntKind.wrap_u32];omega
theorem jg (t i:Nat) (ht:t < 4294967296) (hi:i < 4) (x:Int) (hx:x=((t / 2 ^ (24 - 8*i):Nat):Int)):wrap64 (bits BinOp.and IntKind.u32 x 255)=((gQ t i:Nat):Int):=by
 have:=dM t i;rw [hx,A4,YY _ (by unfold gQ at this;omega)];rfl
theorem ud {F0 Fk F':List UInt8} {t k:Nat} (h:Pm.cw Fk=Pm.cw F0+cH t k*2 ^ (8*F0.length)) (hl:Fk.length=F0.length+k) (h2:Pm.cw F'=Pm.cw Fk+gQ t k*2 ^ (8*Fk.length+0)):Pm.cw F'=Pm.cw F0+cH t (k+1)*2 ^ (8*F0.length):=by
 rw [h2,h,hl,cH,Yb,XP,YP,Nat.add_mul,YW,XV,Ye (2 ^ (8*k))]
def bq (p:Nat):Nat:=(p+7) / 8*8
theorem gZ.str {w:World} {b:Nat} {v:Value} {out:List UInt8} (h:gZ w b v out):(convert 66 9 v).run prog w=.ok (.string ⟨out.toArray⟩) w:=by
 rcases h.own.2 with ⟨rfl,hn⟩ | ⟨g,cap,cur,rfl,hb,_⟩
 ·rw [run_convert_bytes_nil (w:=w) 66 5 underlying66 underlying5 0 0 9 underlying9];have:out=[]:=Zr hn;subst this;rfl
 ·refine Yz w 66 9 5 ⟨g,0,none⟩ cap out underlying66 underlying5 underlying9 ?_;intro j hj;have hx:(cells out)[j]? =some (.int .u8 ((out[j].toNat:Nat):Int)):=by simp [cells,ZN hj]
  exact h.own.cells (g:=g) rfl j _ hx
end Go.Proofs.YtbklfkpjoinofaaGreatDoor
