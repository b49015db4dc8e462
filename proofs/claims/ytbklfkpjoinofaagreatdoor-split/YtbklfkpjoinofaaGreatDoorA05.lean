import Derived.Test.YtbklfkpjoinofaaGreatDoorA03
import Derived.Deep.RegionHeldLaw
set_option linter.all false
set_option maxRecDepth 100000
set_option maxHeartbeats 8000000
namespace Go.Proofs.YtbklfkpjoinofaaGreatDoor
open Go.RowKit Go.Proofs.Tryz
namespace Pm
theorem rP {l:List UInt8} {r:Nat×List UInt8} (f:Nat):∀ (g p:Nat) (o:List UInt8),o.length<=1048576->bn l f p o=some r->8*l.length < p+g->bn l g p o=some r:=by
 induction f with
 | zero=>intro g p o _ h;simp [bn] at h
 | succ f ih=>
  intro g p o ho h hg;rw [bn] at h
  match hs:cY l p o with
  | none=>rw [hs] at h;cases h
  | some (e,q,o')=>
   obtain ⟨h1,h2,h3⟩:=pA hs ho;obtain ⟨g,rfl⟩:∃ g',g=g'+1:=⟨g - 1,by omega⟩;rw [hs] at h;rw [bn,hs]
   cases e with
   | true=>exact h
   | false=>exact ih g q o' h3 h (by omega)
def Hd (N n:Nat):Prop:=19<=n/\N % 524288=196984
theorem Hd.put {N n:Nat} (h:Hd N n) (v k:Nat):Hd (N+v*2 ^ n) (n+k):=by
 refine ⟨by have:=h.1;omega,?_⟩;obtain ⟨m,rfl⟩:∃ m,n=19+m:=⟨n - 19,by have:=h.1;omega⟩;have e:v*2 ^ (19+m)=524288*(v*2 ^ m):=by
  rw [YL];have:(2:Nat) ^ 19=524288:=by decide
  rw [this,Nat.mul_left_comm]
 rw [e,Nat.add_mul_mod_self_left];exact h.2
theorem Hd.start:Hd (120+1*2 ^ 8+1*2 ^ 16+1*2 ^ 17) 19:=⟨by decide,by decide⟩
theorem xi.low {l:List UInt8} {N n:Nat} (h:xi l N n) (p k:Nat) (hk:p+k<=n):ao l p k=N / 2 ^ p % 2 ^ k:=by
 obtain ⟨m,rfl⟩:∃ m,n=p+k+m:=⟨n - (p+k),by omega⟩;rw [<-h.2];unfold ao;rw [YL,YL,XU,Nat.mod_mul_right_div_self,Nat.mod_mul_right_mod]
theorem xi.cut {l:List UInt8} {N n k:Nat} (h:xi l N (n+k)) (hN:N < 2 ^ n):xi l N n/\ao l n k=0:=by
 have:xi l (N+0*2 ^ n) (n+k):=by rw [Nat.zero_mul,Yb];exact h
 exact this.split hN (YH k)
theorem Be:sb 256=0:=by decide
theorem qm:aI 256=(0,7):=by decide
theorem sg.unpack {N n:Nat} {o:List UInt8} (h:sg N n o) (hh:Hd N n) (ho:o.length<=1048576) {l:List UInt8} {M:Nat} (hM:bq (n+7)=8*M) (hl:l.length=M+4) (hp:xi l N (8*M))
  (hs:uK l M=65536*(cB o (1,0)).2+(cB o (1,0)).1):bP l=some (o,l.length):=by
 have hup:n+7<=8*M/\8*M < n+7+8:=by unfold bq at hM;omega
 have h19:=hh.1;obtain ⟨j,hj⟩:∃ j,8*M=n+(7+j):=⟨8*M - n - 7,by omega⟩;have hp':=hp;rw [hj] at hp';obtain ⟨hpn,hz⟩:=hp'.cut h.1;have hz2:=gh l n 7 j;rw [hz] at hz2;have hz7:ao l n 7=0:=by omega
 have hzj:ao l (n+7) j=0:=by
  have h128:(2:Nat) ^ 7=128:=by decide
  rw [h128] at hz2;omega
 have hsym:bC l n=(256,7):=by
  have:=pM (l:=l) (p:=n) (c:=256) (by omega) (by rw [qm];show ao l n 7=_;rw [hz7];decide);rw [this,qm]
 have hend:cY l n o=some (true,n+7,o):=by
  have:=pj (l:=l) (p:=n) (out:=o) (by rw [hsym];show n+7<=_;omega) (by rw [hsym]);rw [this,hsym]
 obtain ⟨k,hk⟩:=h.2 l hpn;have hc:bn l (1+k) 19 []=some (n+7,o):=by
  rw [hk 1,bn,hend]
 have hc2:=rP _ (8*l.length+1) 19 [] (by simp) hc (by omega);have hN:N=N % 524288+524288*(N / 524288):=(Nat.mod_add_div N 524288).symm;rw [hh.2] at hN;generalize N / 524288=X at hN;have hlow:∀ p k,p+k<=19->ao l p k=N / 2 ^ p % 2 ^ k:=fun p k hpk=>hpn.low p k (by omega)
 have e0:ao l (8*0) 8=120:=by rw [hlow _ _ (by omega),hN];show (196984+524288*X) / 1 % 256=120;omega
 have e1:ao l (8*1) 8=1:=by rw [hlow _ _ (by omega),hN];show (196984+524288*X) / 256 % 256=1;omega
 have e2:ao l 16 1=1:=by rw [hlow _ _ (by omega),hN];show (196984+524288*X) / 65536 % 2=1;omega
 have e3:ao l 17 2=1:=by rw [hlow _ _ (by omega),hN];show (196984+524288*X) / 131072 % 4=1;omega
 rw [mI] at e0 e1;have hhead:bi l=true:=by
  unfold bi;rw [e0,e1];simp;omega
 have hb:bF l (8*l.length+1) 16 []=some (n+7,o):=by
  rw [bF,ZO (by omega)];rw [show 16+1=17 from rfl,e3,ZO (by decide),ZN rfl,show 16+3=19 from rfl,hc2];simp only [e2,if_true]
 rw [iM hhead hb];have hM8:bq (n+7) / 8=M:=by rw [hM];omega
 rw [oU (by rw [hM,show 8*M - (n+7)=j by omega];exact hzj) (by rw [hM8];omega) (by rw [hM8];exact hs),hM8,hl]
def qj (W:List UInt8) (i k v b:Nat):Prop:=
 (k=1/\i < W.length/\v=sb (W.getD i 0).toNat/\b=(aI (W.getD i 0).toNat).2)\/
 (∃ d,4<=k/\k<=258/\i+k<=W.length/\1<=d/\d<=32768/\d<=i/\(∀ j,j < k->W.getD (i+j - d) 0=W.getD (i+j) 0)/\v=mv k d/\b=mw k d)
theorem vE (D:List UInt8) (p d:Nat) (hd:1<=d) (hdp:d<=p) (k:Nat) (hk:p+k<=D.length) (h:∀ j,j < k->D.getD (p+j - d) 0=D.getD (p+j) 0):eQ (D.take p) d k=D.take (p+k):=by
 induction k with
 | zero=>rfl
 | succ k ih=>
  rw [sH,ih (by omega) (fun j hj=>h j (by omega))];have hlen:(D.take (p+k)).length=p+k:=by rw [Ze];omega
  rw [hlen, <-YS p k 1,Zv (show p+k < D.length by omega)];congr 1;have hx:=h k (by omega);simp only [ZJ] at hx ⊢;rw [List.getElem?_take_of_lt (by omega),hx,ZM (show p+k < D.length by omega)];rfl
theorem Ej (A B C E x a b c N:Nat):N+(A+(B+(C+E*c)*b)*a)*x=N+A*x+B*(x*a)+C*(x*a*b)+E*(x*a*b*c):=by
 simp only [Nat.add_mul]
 ac_rfl
theorem Ax (k d:Nat) (hk:3<=k/\k<=258) (hd:1<=d/\d<=32768):mw k d<=32:=by
 obtain ⟨l1,l2,l3,_,_,_⟩:=j_ k (by omega) hk.1;obtain ⟨d1,d2,_,_⟩:=iN d (by omega) hd.1;have:=fh (bN k).1 (by omega) l1;have:=eN (bB d).1 (by omega);have:=dY (bN k).1 (by omega);unfold mw;omega
theorem qj.enc {D W:List UInt8} {g i k v b N n:Nat} (h:qj W i k v b) (hW:W=D.drop g) (hD:D.length<=1048576) (hE:sg N n (D.take (g+i))):
  sg (N+v*2 ^ n) (n+b) (D.take (g+(i+k)))/\b<=9*k/\v < 2 ^ b/\i+k<=W.length/\1<=k:=by
 have hget:∀ j,W.getD j 0=D.getD (g+j) 0:=by
  intro j;simp only [hW,ZJ,Yc]
 have hlen:W.length=D.length - g:=by rw [hW,Za]
 rcases h with ⟨rfl,hi,rfl,rfl⟩ | ⟨d,h1,h2,h3,h4,h5,h6,h7,rfl,rfl⟩
 ·have hlt:g+i < D.length:=by omega
  have e:D.take (g+(i+1))=D.take (g+i)++[W.getD i 0]:=by
   rw [<-YS,Zv hlt,hget];congr 1;simp [ZJ,ZM hlt]
  have hc:(W.getD i 0).toNat < 256:=(W.getD i 0).toNat_lt;rw [e];refine ⟨hE.lit _ (by rw [Ze];omega),?_,oV _ (by omega),by omega,by omega⟩;have:=dY (W.getD i 0).toNat (by omega);omega
 ·have hcp:eQ (D.take (g+i)) d k=D.take (g+i+k):=vE D (g+i) d h4 (by omega) k (by omega) (by
   intro j hj;have:=h7 j hj;rw [hget,hget] at this;rw [show g+i+j - d=g+(i+j - d) by omega,show g+i+j=g+(i+j) by omega];exact this)
  have hA:=hE.again k d ⟨by omega,h2⟩ ⟨h4,h5⟩ (by rw [Ze];omega) (by rw [Ze];omega);rw [hcp] at hA;have hmw:=Ax k d ⟨by omega,h2⟩ ⟨h4,h5⟩;have hv:N+mv k d*2 ^ n=((N+sb (bN k).1*2 ^ n+(bN k).2.1*2 ^ (n+(aI (bN k).1).2))+ee 5 (bB d).1*2 ^ (n+(aI (bN k).1).2+(bN k).2.2))+(bB d).2.1*2 ^ (n+(aI (bN k).1).2+(bN k).2.2+5):=by
   unfold mv;rw [Ej];simp only [YL]
  have hb:n+mw k d=n+(aI (bN k).1).2+(bN k).2.2+5+(bB d).2.2:=by unfold mw;omega
  rw [hv,hb, <-YS g i k];refine ⟨hA,by omega,?_,h3,by omega⟩;obtain ⟨l1,l2,l3,l4,_,_⟩:=j_ k (by omega) (by omega);obtain ⟨d1,d2,d3,_⟩:=iN d (by omega) h4;have h32:(bB d).1 < 2 ^ 5:=XS d1 (by decide);have a2:ee 5 (bB d).1 < 2 ^ 5:=(je 5 (by omega) (bB d).1 (by omega) h32).2;unfold mv mw;have q1:=dk a2 d3;have q2:=dk l4 q1;have q3:=dk (oV (bN k).1 (by omega)) q2;have hx:(aI (bN k).1).2+(bN k).2.2+5+(bB d).2.2=(aI (bN k).1).2+((bN k).2.2+(5+(bB d).2.2)):=by omega
  rw [hx];exact q3
end Pm
theorem tC (s:ByteArray) (k:Nat) (h:k < s.size):s.data.toList.take (k+1)=s.data.toList.take k++[s[k]]:=by
 rw [Zv (by simpa using h)];rfl
theorem ta (w:World):
  QB 195 #[] w (.agg #[.int .u32 1,.int .u32 0]):=by
 go_enter func195,ntmps195
 go_wp2;exact YT (v:=.agg #[.int .u32 1,.int .u32 0]) (by simp [results,Tryz.results195,go_sem]) rfl ⟨rfl,(ZT _ _).alloc (ZW _) _⟩
theorem E6 (w:World) (c A B:Nat) (t:ByteArray) (ht:t.size<=140737488355328) (hA:A < 65521) (hB:B < 65521) (c0:w.cell? c=some (.int .u32 A)) (c1:w.cell? (zq c 1)=some (.int .u32 B)) (f0:w.frozen? c=false) (f1:w.frozen? (zq c 1)=false):
  CP 197 #[zp c,t] w fun e w'=>e=.returned (.tuple #[])/\w'.cell? c=some (.int .u32 ((Pm.cB t.data.toList (A,B)).1:Nat))/\w'.cell? (zq c 1)=some (.int .u32 ((Pm.cB t.data.toList (A,B)).2:Nat))/\
   w'.frozen? c=false/\w'.frozen? (zq c 1)=false/\bT c w w':=by
 go_enter func197,ntmps197
 go_wp2;go_quiet (fail)
 go_wp2;go_loopg [4,5,6] t.size (fun g x y i wr=>∃ k X Y:Nat,k<=t.size/\X < 65521/\Y < 65521/\t.size - k<=g/\i=.int .i64 k/\x=.int .u32 X/\y=.int .u32 Y/\Hid (Pm.cB (t.data.toList.take k) (A,B)=(X,Y))/\wr=w.drewN nq)
 case atStart=>exact ⟨0,A,B,by omega,hA,hB,by omega,rfl,rfl,rfl,rfl,rfl⟩
 case round=>
  obtain ⟨k,X,Y,hk,hX,hY,hg,rfl,rfl,rfl,HE,rfl⟩:=hrel;by_cases hlt:k < t.size
  ·have HS:Hid (Pm.cB (t.data.toList.take (k+1)) (A,B)=((X+t[k].toNat) % 65521,(Y+(X+t[k].toNat) % 65521) % 65521)):=by
    show _=_
    rw [tC t k hlt,Pm.oT,HE.out]
   have hc:t[k].toNat < 256:=t[k].toNat_lt;go_wp2;go_roundg (gk - 1)
   case measure=>omega
   case rel=>exact ⟨k+1,(X+t[k].toNat) % 65521,(Y+(X+t[k].toNat) % 65521) % 65521,by omega,Yy _ (by decide),Yy _ (by decide),by omega,by go_num,by simp,by simp,HS.out,rfl⟩
  ·have hkc:t.data.toList.take k=t.data.toList:=Zy (by simp;omega);have HE2:Hid (Pm.cB t.data.toList (A,B)=(X,Y)):=by show _=_;rw [<-hkc];exact HE.out
   clear hkc;go_wp2;go_end0;rw [HE2.out];refine ⟨rfl,?_,?_,?_,?_,?_⟩
   ·rw [ZV _ _ _ _ (by simp)];exact ZC _ _ _ c0
   ·exact ZC (u:=.int .u32 B) _ _ _ (by rw [ZV _ _ _ _ (by simp)];exact c1)
   ·rw [ZL,ZL];exact f0
   ·rw [ZL,ZL];exact f1
   ·exact (((bT.refl c w).drewN _).setCell _ _).setCell _ _
theorem AV (A B:Nat) (hA:A < 65521) (hB:B < 65521):bits BinOp.or IntKind.u32 ((B:Int)*65536 % 4294967296) (A:Int)=((65536*B+A:Nat):Int):=by
 have e1:(B:Int)*65536 % 4294967296=((B*65536:Nat):Int):=by omega
 rw [e1,u32_or_nat _ _ (by omega) (by omega),nat_join 16 _ _ (by omega) (by omega)];congr 1;omega
theorem uW (w:World) (A B:Nat) (hA:A < 65521) (hB:B < 65521):
  QB 203 #[.agg #[.int .u32 A,.int .u32 B]] w (.int .u32 (65536*B+A:Nat)):=by
 go_enter func203,ntmps203
 go_wp2;go_ret;refine ⟨bI ?_,(ZT _ _).alloc (ZW _) _⟩;rw [<-AV A B hA hB];congr 1;omega
def gQ (t i:Nat):Nat:=t / 2 ^ (24 - 8*i) % 256
def cH (t:Nat):Nat->Nat
 | 0=>0
 | k+1=>cH t k+gQ t k*2 ^ (8*k)
theorem dM (t i:Nat):gQ t i < 256:=Yy _ (by decide)
theorem AC {l:List UInt8} {N M t:Nat} (hl:l.length=M+4) (hN:N < 2 ^ (8*M)) (h:Pm.cL l=N+cH t 4*2 ^ (8*M)) (ht:t < 4294967296):Pm.xi l N (8*M)/\Pm.uK l M=t:=by
 have hb:cH t 4=gQ t 0+gQ t 1*256+gQ t 2*65536+gQ t 3*16777216:=by
  simp [cH]
 have hdiv:Pm.cL l / 2 ^ (8*M)=cH t 4:=by
  rw [h,Nat.add_mul_div_right _ _ (YH _),XC hN,YF]
 refine ⟨⟨by omega,by rw [h,Nat.add_mul_mod_self_right,XK hN]⟩,?_⟩;have hget:∀ i,(l.getD (M+i) 0).toNat=cH t 4 / 2 ^ (8*i) % 256:=by
  intro i;rw [<-Pm.mI];unfold Pm.ao;rw [XO,YL, <-XD,hdiv]
 have g0:=hget 0;have g1:=hget 1;have g2:=hget 2;have g3:=hget 3;have h0:=dM t 0;have h1:=dM t 1;have h2:=dM t 2;have h3:=dM t 3;have s0:gQ t 0=t / 16777216 % 256:=rfl;have s1:gQ t 1=t / 65536 % 256:=rfl;have s2:gQ t 2=t / 256 % 256:=rfl;have s3:gQ t 3=t % 256:=by show t / 1 % 256=_;rw [Nat.div_one]
 have p0:cH t 4 / 2 ^ (8*0)=cH t 4:=by simp
 have p1:cH t 4 / 2 ^ (8*1)=cH t 4 / 256:=rfl;have p2:cH t 4 / 2 ^ (8*2)=cH t 4 / 65536:=rfl;have p3:cH t 4 / 2 ^ (8*3)=cH t 4 / 16777216:=rfl;rw [p0] at g0;rw [p1] at g1;rw [p2] at g2;rw [p3] at g3;rw [Yb] at g0;unfold Pm.uK;have q:∀ b0 b1 b2 b3 X:Nat,b0 < 256->b1 < 256->b2 < 256->b3 < 256->X=b0+b1*256+b2*65536+b3*16777216->X % 256=b0/\X / 256 % 256=b1/\X / 65536 % 256=b2/\X / 16777216 % 256=b3:=by
  intro b0 b1 b2 b3 X a0 a1 a2 a3 e;refine ⟨?_,?_,?_,?_⟩ <;> omega
 obtain ⟨x0,x1,x2,x3⟩:=q _ _ _ _ _ h0 h1 h2 h3 hb;rw [g0,g1,g2,g3,x0,x1,x2,x3,s0,s1,s2,s3];clear q x0 x1 x2 x3 g0 g1 g2 g3 hb hget hdiv p0 p1 p2 p3 s0 s1 s2 s3 h0 h1 h2 h3 h;omega
theorem jn (F:List UInt8):dt F 0=Pm.cL F:=by unfold dt;omega
theorem A4 (x:Nat):bits BinOp.and IntKind.u32 (x:Int) 255=((x % 256:Nat):Int):=by
 have h1:(BitVec.ofInt 32 255).toNat=2 ^ 8 - 1:=by decide
 have key:(BitVec.ofInt 32 (x:Int)&&& BitVec.ofInt 32 255).toNat=((x:Int) % ((2 ^ 32:Nat):Int)).toNat % 2 ^ 8:=by
  rw [BitVec.toNat_and,Xx,h1,XR]
 show IntKind.u32.wrap ((BitVec.ofInt 32 (x:Int)&&& BitVec.ofInt 32 255).toNat:Nat)=_
 rw [key,IntKind.wrap_u32];omega
theorem jg (t i:Nat) (ht:t < 4294967296) (hi:i < 4) (x:Int) (hx:x=((t / 2 ^ (24 - 8*i):Nat):Int)):wrap64 (bits BinOp.and IntKind.u32 x 255)=((gQ t i:Nat):Int):=by
 have:=dM t i;rw [hx,A4,YU _ (by unfold gQ at this;omega)];rfl
theorem ud {F0 Fk F':List UInt8} {t k:Nat} (h:Pm.cL Fk=Pm.cL F0+cH t k*2 ^ (8*F0.length)) (hl:Fk.length=F0.length+k) (h2:Pm.cL F'=Pm.cL Fk+gQ t k*2 ^ (8*Fk.length+0)):Pm.cL F'=Pm.cL F0+cH t (k+1)*2 ^ (8*F0.length):=by
 rw [h2,h,hl,cH,Yb,XO,YL,Nat.add_mul,YS,XU,Ye (2 ^ (8*k))]
def bq (p:Nat):Nat:=(p+7) / 8*8
theorem gZ.str {w:World} {b:Nat} {v:Value} {out:List UInt8} (h:gZ w b v out):(convert 66 9 v).run prog w=.ok (.string ⟨out.toArray⟩) w:=by
 rcases h.own.2 with ⟨rfl,hn⟩ | ⟨g,cap,cur,rfl,hb,_⟩
 ·rw [run_convert_bytes_nil (w:=w) 66 5 underlying66 underlying5 0 0 9 underlying9];have:out=[]:=Zp hn;subst this;rfl
 ·refine Yx w 66 9 5 ⟨g,0,none⟩ cap out underlying66 underlying5 underlying9 ?_;intro j hj;have hx:(cells out)[j]? =some (.int .u8 ((out[j].toNat:Nat):Int)):=by simp [cells,ZM hj]
  exact h.own.cells (g:=g) rfl j _ hx
structure nr (b:Nat) (w w':World):Prop where
 only:bT b w w'
 cell:∀ o,4<=o->w'.cell? (zq b o)=w.cell? (zq b o)
 frz:∀ o,w'.frozen? (zq b o)=w.frozen? (zq b o)
theorem nr.refl (b:Nat) (w:World):nr b w w:=⟨bT.refl b w,fun _ _=>rfl,fun _=>rfl⟩
theorem nr.trans {b:Nat} {u v w:World} (h:nr b u v) (k:nr b v w):nr b u w:=
 ⟨h.only.trans k.only,fun o ho=>(k.cell o ho).trans (h.cell o ho),fun o=>(k.frz o).trans (h.frz o)⟩
theorem nr.drewN {b:Nat} {u w:World} (h:nr b u w) (n:Nat):nr b u (w.drewN n):=⟨h.only.drewN n,h.cell,h.frz⟩
theorem nr.setCell {b:Nat} {u w:World} (h:nr b u w) (o:Nat) (v:Value) (ho:o < 4:=by decide):nr b u (w.setCell (zq b o) v):=
 ⟨h.only.setCell o v,fun k hk=>(ZV _ _ _ _ (by intro e;cases e;omega)).trans (h.cell k hk),fun k=>(ZL ..).trans (h.frz k)⟩
theorem nr.below {b:Nat} {w w':World} (h:nr b w w') (hb:b < w.heap.size):Below b w w':=h.only.below hb
structure PR (w:World) (b:Nat) (s:ByteArray) (p n:Nat):Prop where
 at8:(p+n) % 8=0
 le:p+n<=8*s.size
 c0:w.cell? b=s
 c1:w.cell? (zq b 1)=((p+n) / 8:Nat)
 c2:w.cell? (zq b 2)=some (.int .u32 (Pm.ao s.data.toList p n:Nat))
 c3:w.cell? (zq b 3)=n
 f1:w.frozen? (zq b 1)=false
 f2:w.frozen? (zq b 2)=false
 f3:w.frozen? (zq b 3)=false
theorem PR.lt {w:World} {b:Nat} {s:ByteArray} {p n:Nat} (h:PR w b s p n):b < w.heap.size:=ZD w _ h.c0
theorem PR.put {w:World} {b:Nat} {s:ByteArray} {p n:Nat} (h:PR w b s p n) {w':World} {p' n':Nat} (h8:(p'+n') % 8=0) (hle:p'+n'<=8*s.size)
  (k0:w'.cell? b=w.cell? b) (k1:w'.cell? (zq b 1)=((p'+n') / 8:Nat)) (k2:w'.cell? (zq b 2)=some (.int .u32 (Pm.ao s.data.toList p' n':Nat))) (k3:w'.cell? (zq b 3)=n')
  (kf:∀ a,w'.frozen? a=w.frozen? a):PR w' b s p' n':=
 ⟨h8,hle,k0.trans h.c0,k1,k2,k3,(kf _).trans h.f1,(kf _).trans h.f2,(kf _).trans h.f3⟩
theorem PR.drewN {w:World} {b:Nat} {s:ByteArray} {p n:Nat} (h:PR w b s p n) (q:Nat):PR (w.drewN q) b s p n:=⟨h.at8,h.le,h.c0,h.c1,h.c2,h.c3,h.f1,h.f2,h.f3⟩
theorem PR.filled {w:World} {b:Nat} {s:ByteArray} {p n:Nat} (h:PR w b s p n) {z x y:Value} (hlt:p+n < 8*s.size) (hz:z=.int .u32 (Pm.ao s.data.toList p (n+8):Nat)) (hx:x=.int .i64 ((p+n) / 8+1:Nat)) (hy:y=.int .i64 (n+8:Nat)):
  PR (((w.setCell (zq b 2) z).setCell (zq b 1) x).setCell (zq b 3) y) b s p (n+8):=by
 subst hz hx hy;have h8:=h.at8;refine h.put (by omega) (by omega) ?_ ?_ ?_ ?_ ?_
 ·rw [ZV _ _ _ _ (by simp),ZV _ _ _ _ (by simp),ZV _ _ _ _ (by simp)]
 ·rw [ZV _ _ _ _ (by simp)];rw [ZC (u:=.int .i64 ((p+n) / 8:Nat)) _ _ _ (by rw [ZV _ _ _ _ (by simp)];exact h.c1)];congr 3;omega
 ·rw [ZV _ _ _ _ (by simp),ZV _ _ _ _ (by simp)];exact ZC _ _ _ h.c2
 ·exact ZC (u:=.int .i64 n) _ _ _ (by rw [ZV _ _ _ _ (by simp),ZV _ _ _ _ (by simp)];exact h.c3)
 ·intro a;rw [ZL,ZL,ZL]
theorem PR.taken {w:World} {b:Nat} {s:ByteArray} {p n k:Nat} (h:PR w b s p n) {z y:Value} (hk:k<=n) (hz:z=.int .u32 (Pm.ao s.data.toList (p+k) (n - k):Nat)) (hy:y=.int .i64 (n - k:Nat)):
  PR ((w.setCell (zq b 2) z).setCell (zq b 3) y) b s (p+k) (n - k):=by
 subst hz hy;have h8:=h.at8;have hl:=h.le;have e1:p+k+(n - k)=p+n:=by omega
 refine h.put (by omega) (by omega) ?_ ?_ ?_ ?_ ?_
 ·rw [ZV _ _ _ _ (by simp),ZV _ _ _ _ (by simp)]
 ·rw [ZV _ _ _ _ (by simp),ZV _ _ _ _ (by simp),e1];exact h.c1
 ·rw [ZV _ _ _ _ (by simp)];exact ZC _ _ _ h.c2
 ·exact ZC (u:=.int .i64 n) _ _ _ (by rw [ZV _ _ _ _ (by simp)];exact h.c3)
 ·intro a;rw [ZL,ZL]
theorem E9 (s:ByteArray) (i:Nat) (hi:i < s.size):Pm.ao s.data.toList (8*i) 8=s[i].toNat:=by
 rw [Pm.mI,ZJ,ZM (by simpa using hi)];rfl
theorem Ex (s:ByteArray) (p m i:Nat) (hi:i < s.size) (he:p+m=8*i) (hm:m<=15):
  bits BinOp.or IntKind.u32 (Pm.ao s.data.toList p m:Nat) ((s[i].toNat:Int) % 4294967296*2 ^ m % 4294967296)=((Pm.ao s.data.toList p (m+8):Nat):Int):=by
 have hb:s[i].toNat < 256:=s[i].toNat_lt;have hF:2 ^ m<=32768:=ZU (YM (by decide) hm) (by decide);have hP:s[i].toNat*2 ^ m < 16777216:=by
  have:s[i].toNat*2 ^ m<=255*32768:=XF (by omega) hF;omega
 have e1:(s[i].toNat:Int) % 4294967296*2 ^ m % 4294967296=((s[i].toNat*2 ^ m:Nat):Int):=by
  have e0:(s[i].toNat:Int) % 4294967296=(s[i].toNat:Int):=Int.emod_eq_of_lt (by omega) (by omega);rw [e0];have e2:(s[i].toNat:Int)*2 ^ m=((s[i].toNat*2 ^ m:Nat):Int):=by push_cast;rfl
  rw [e2];omega
 have hl:=Pm.cJ s.data.toList p m;rw [e1,u32_or_nat _ _ (by omega) (by omega),Nat.or_comm,nat_join m _ _ (Nat.mul_mod_left _ _) hl,Pm.gh,he,E9 s i hi];congr 1;rw [Ye];omega
theorem j7 {a b:Int} {c:Bool} (h:a=b):Ending.returned (.tuple #[a,c])=.returned (.tuple #[b,c]):=by rw [h]
theorem E7 (hv k:Nat) (hk:k<=16) (hh:hv<=16777216):wrap64 (bits BinOp.and IntKind.u32 (hv:Int) ((2 ^ k - 1) % 4294967296))=((hv % 2 ^ k:Nat):Int):=by
 have hF:2 ^ k<=65536:=ZU (YM (by decide) hk) (by decide);have h0:=YH k;have e1:((2:Int) ^ k - 1) % 4294967296=((2 ^ k - 1:Nat):Int):=by
  have e2:(2:Int) ^ k=((2 ^ k:Nat):Int):=by push_cast;rfl
  rw [e2];omega
 rw [e1,u32_and_nat _ _ (by omega) (by omega),XR];have:=Yy hv h0;exact YU _ (by omega)
theorem Fy (l:List UInt8) (p m k:Nat) (h:k<=m):Pm.ao l p m % 2 ^ k=Pm.ao l p k/\Pm.ao l p m / 2 ^ k=Pm.ao l (p+k) (m - k):=by
 obtain ⟨r,rfl⟩:∃ r,m=k+r:=⟨m - k,by omega⟩;have hl:=Pm.cJ l p k;rw [Pm.gh,Nat.add_mul_mod_self_left,XK hl,Nat.add_mul_div_left _ _ (YH k),XC hl];refine ⟨rfl,?_⟩;rw [YF];congr 1;omega
theorem bz (w:World) (b:Nat) (s:ByteArray) (p n k:Nat) (h:PR w b s p n) (hn:n < 8) (hk:k<=16) (hs:s.size<=140737488355328) (hp:p+k<=8*s.size):
  CP 206 #[zp b,k] w fun e w'=>e=.returned (.tuple #[(Pm.ao s.data.toList p k:Nat),true])/\(∃ n',n' < 8/\PR w' b s (p+k) n')/\nr b w w':=by
 go_enter func206,ntmps206
 go_wp2;go_loopg [4] 30 (fun g _ wr=>∃ m,PR wr b s p m/\m < k+8/\nr b w wr/\24 - m<=g)
 case atStart=>exact ⟨n,h,by omega,nr.refl b w,by omega⟩
 case round=>
  clear h hn;obtain ⟨m,hr,hm,ho,hg⟩:=hrel;have a8:=hr.at8;have al:=hr.le;have c0:=hr.c0;have c1:=hr.c1;have c2:=hr.c2;have c3:=hr.c3;have f1:=hr.f1;have f2:=hr.f2;have f3:=hr.f3;by_cases hlt:m < k
  ·have hat:(p+m) / 8 < s.size:=by omega
   have HV:=ai (Ex s p m ((p+m) / 8) hat (by omega) (by omega));have HR:=ai (fun (z x y:Value) (q:Nat) hz hx hy=>(hr.drewN q).filled (z:=z) (x:=x) (y:=y) (by omega) hz hx hy);generalize hat':(p+m) / 8=at_ at*;generalize hhv:Pm.ao s.data.toList p m=hv at*;clear hat' hhv;go_wp2;go_quiet (fail)
   go_wp2;go_region
   go_wp2;go_roundg (gk - 1)
   case measure=>omega
   case rel=>
    refine ⟨m+8,HR.out _ _ _ _ (by rw [HV.out]) (by go_num) (by go_num),by omega,?_,by omega⟩;exact (((ho.drewN _).setCell _ _).setCell _ _).setCell _ _
  ·have HL:=ai (Fy s.data.toList p m k (by omega));have HR:=ai (fun (z y:Value) (q:Nat) hz hy=>(hr.drewN q).taken (z:=z) (y:=y) (k:=k) (by omega) hz hy);have hlt2:=Pm.cJ s.data.toList p m;have hlt3:(2:Nat) ^ m<=16777216:=ZU (YM (by decide) (show m<=24 by omega)) (by decide);have hlt4:Pm.ao s.data.toList p m<=16777216:=by omega
   clear hlt2 hlt3;generalize (p+m) / 8=at_ at*;generalize hhv:Pm.ao s.data.toList p m=hv at*;clear hhv;go_wp2;go_quiet (fail)
   go_wp2;go_ret2;refine ⟨j7 ?_,⟨m - k,by omega,HR.out _ _ _ ?_ ?_⟩,((ho.drewN _).setCell _ _).setCell _ _⟩
   ·rw [E7 hv k hk hlt4,HL.out.1]
   ·rw [<-HL.out.2];first | rfl | (push_cast;rfl)
   ·go_num
theorem gG (w:World) (b:Nat) (s:ByteArray) (p n k:Nat) (h:PR w b s p n) (hn:n < 16) (hk:k<=16) (hs:s.size<=140737488355328) (hp:8*s.size < p+k):
  CP 206 #[zp b,k] w fun e w'=>e=.returned (.tuple #[oz,false])/\(∃ n',n' < 16/\PR w' b s p n')/\nr b w w':=by
 go_enter func206,ntmps206
 go_wp2;go_loopg [4] 30 (fun g _ wr=>∃ m,PR wr b s p m/\m < 16/\nr b w wr/\24 - m<=g)
 case atStart=>exact ⟨n,h,by omega,nr.refl b w,by omega⟩
 case round=>
  clear h hn;obtain ⟨m,hr,hm,ho,hg⟩:=hrel;have a8:=hr.at8;have al:=hr.le;have c0:=hr.c0;have c1:=hr.c1;have c2:=hr.c2;have c3:=hr.c3;have f1:=hr.f1;have f2:=hr.f2;have f3:=hr.f3;have hlt:m < k:=by omega
  by_cases hat:(p+m) / 8 < s.size
  ·have HV:=ai (Ex s p m ((p+m) / 8) hat (by omega) (by omega));have HR:=ai (fun (z x y:Value) (q:Nat) hz hx hy=>(hr.drewN q).filled (z:=z) (x:=x) (y:=y) (by omega) hz hx hy);have hm8:m+8 < 16:=by omega
   generalize hat':(p+m) / 8=at_ at*;generalize hhv:Pm.ao s.data.toList p m=hv at*;clear hat' hhv;go_wp2;go_quiet (fail)
   go_wp2;go_region
   go_wp2;go_roundg (gk - 1)
   case measure=>omega
   case rel=>
    refine ⟨m+8,HR.out _ _ _ _ (by rw [HV.out]) (by go_num) (by go_num),by omega,?_,by omega⟩;exact (((ho.drewN _).setCell _ _).setCell _ _).setCell _ _
  ·generalize (p+m) / 8=at_ at*;go_wp2;go_quiet (fail)
   go_wp2;go_ret2;exact ⟨rfl,⟨m,hm,hr.drewN _⟩,ho.drewN _⟩
theorem Fw:∀ c:Nat,c < 285->265<=c->(3+(4+((c:Int) - 257) % 4)*2 ^ ((c - 257) / 4 - 1)=((Pm.a_ c:Nat):Int))/\0<=(4+((c:Int) - 257) % 4)*2 ^ ((c - 257) / 4 - 1)/\(4+((c:Int) - 257) % 4)*2 ^ ((c - 257) / 4 - 1)<=100000/\
  ((c:Int) - 257) / 4 - 1=((Pm.ak c:Nat):Int):=by decide+kernel
theorem DW:∀ c:Nat,c < 30->4<=c->(1+(2+(c:Int) % 2)*2 ^ (c / 2 - 1)=((Pm.bD c:Nat):Int))/\0<=(2+(c:Int) % 2)*2 ^ (c / 2 - 1)/\(2+(c:Int) % 2)*2 ^ (c / 2 - 1)<=100000/\
  (c:Int) / 2 - 1=((Pm.aH c:Nat):Int):=by decide+kernel
theorem gz (w:World) (c:Nat) (h1:257<=c) (h2:c<=285):
  QE 325 #[c] w (.tuple #[(Pm.a_ c:Nat),(Pm.ak c:Nat)]):=by
 by_cases h:c=285
 ·subst h;have e1:Pm.a_ 285=258:=by decide
  have e2:Pm.ak 285=0:=by decide
  rw [e1,e2];go_enter func325,ntmps325
  go_wp2;go_ret2;exact ⟨rfl,rfl⟩
 ·by_cases h8:c < 265
  ·have e1:Pm.a_ c=c - 254:=by unfold Pm.a_;rw [ZO h,ZN h8]
   have e2:Pm.ak c=0:=by unfold Pm.ak;rw [ZN (YJ h8)]
   have HE:Hid ((3:Int)+((c:Int) - 257)=((Pm.a_ c:Nat):Int)):=by show _=_;rw [e1];omega
   rw [e2];clear e1 e2;go_enter func325,ntmps325
   go_wp2;go_ret2;exact ⟨pW HE.out rfl,rfl⟩
  ·go_enter func325,ntmps325
   go_wp2;go_ret2;have hh:=Fw c (by omega) (by omega);refine ⟨pW ?_ hh.2.2.2,rfl⟩;rw [YU ((4+((c:Int) - 257) % 4)*2 ^ ((c - 257) / 4 - 1)) (by omega),YU _ (by omega),hh.1]
theorem j4 (w:World) (c:Nat) (h2:c < 30):
  QE 326 #[c] w (.tuple #[(Pm.bD c:Nat),(Pm.aH c:Nat)]):=by
 by_cases h8:c < 4
 ·have e1:Pm.bD c=1+c:=by unfold Pm.bD;rw [ZN h8]
  have e2:Pm.aH c=0:=by unfold Pm.aH;rw [ZN h8]
  have HE:Hid ((1:Int)+(c:Int)=((Pm.bD c:Nat):Int)):=by show _=_;rw [e1];omega
  rw [e2];clear e1 e2;go_enter func326,ntmps326
  go_wp2;go_ret2;exact ⟨pW HE.out rfl,rfl⟩
 ·go_enter func326,ntmps326
  go_wp2;go_ret2;have hh:=DW c (by omega) (by omega);refine ⟨pW ?_ hh.2.2.2,rfl⟩;rw [YU ((2+(c:Int) % 2)*2 ^ (c / 2 - 1)) (by omega),YU _ (by omega),hh.1]
theorem gW (w:World) (b:Nat) (s:ByteArray) (p n k:Nat) (h:PR w b s p n) (hn:n < 8) (hk:k < 10) (hs:s.size<=140737488355328) (hp:p+k<=8*s.size):
  CP 302 #[zp b,k] w fun e w'=>e=.returned (.tuple #[(Pm.aR s.data.toList p k:Nat),true])/\(∃ n',n' < 8/\PR w' b s (p+k) n')/\nr b w w':=by
 have hlt:=Pm.cJ s.data.toList p k;have HH:=ai (Pm.jh s.data.toList p k k (ZW k));go_enter func302,ntmps302
 go_wp2_with fail
 refine (bz w b s p n k h hn (by omega) hs hp).mono ?_;rintro e w1 ⟨rfl,⟨n',hn',hr'⟩,ho'⟩;generalize Pm.ao s.data.toList p k=v at*;go_wp2_with fail
 refine (oA w1 v k hk hlt).mono ?_;rintro e w2 ⟨rfl,q,rfl⟩;go_wp2;go_ret2;exact ⟨j7 (by rw [HH.out]),⟨n',hn',hr'.drewN _⟩,ho'.drewN _⟩
theorem rl (w:World) (b:Nat) (s:ByteArray) (p n k:Nat) (h:PR w b s p n) (hn:n < 16) (hk:k < 10) (hs:s.size<=140737488355328) (hp:8*s.size < p+k):
  CP 302 #[zp b,k] w fun e w'=>(∃ z,e=.returned (.tuple #[.int .i64 z,false]))/\(∃ n',n' < 16/\PR w' b s p n')/\nr b w w':=by
 go_enter func302,ntmps302
 go_wp2_with fail
 refine (gG w b s p n k h hn (by omega) hs hp).mono ?_;rintro e w1 ⟨rfl,⟨n',hn',hr'⟩,ho'⟩;go_wp2_with fail
 refine (oA w1 0 k hk (YH k)).mono ?_;rintro e w2 ⟨rfl,q,rfl⟩;go_wp2;go_ret2;exact ⟨⟨_,rfl⟩,⟨n',hn',hr'.drewN _⟩,ho'.drewN _⟩
theorem wz:∀ x:Nat,x < 256->∀ y:Nat,y < 2->bits BinOp.or IntKind.i64 ((x:Int)*2) (y:Int)=((2*x+y:Nat):Int):=by decide+kernel
theorem PR.aligned {w:World} {b:Nat} {s:ByteArray} {p n:Nat} (h:PR w b s p n):PR ((w.setCell (zq b 2) (.int .u32 0)).setCell (zq b 3) (0:Int)) b s (p+n) 0:=by
 have h8:=h.at8;have hl:=h.le;refine h.put (by omega) (by omega) ?_ ?_ ?_ ?_ ?_
 ·rw [ZV _ _ _ _ (by simp),ZV _ _ _ _ (by simp)]
 ·rw [ZV _ _ _ _ (by simp),ZV _ _ _ _ (by simp)];exact h.c1
 ·rw [ZV _ _ _ _ (by simp),Pm.o6];exact ZC _ _ _ h.c2
 ·exact ZC (u:=.int .i64 n) _ _ _ (by rw [ZV _ _ _ _ (by simp)];exact h.c3)
 ·intro a;rw [ZL,ZL]
theorem uq (w:World) (b:Nat) (s:ByteArray) (p n:Nat) (h:PR w b s p n):
  CP 159 #[zp b] w fun e w'=>e=.returned (.bool (decide (Pm.ao s.data.toList p n=0)))/\PR w' b s (p+n) 0/\nr b w w':=by
 have c2:=h.c2;have c3:=h.c3;have f2:=h.f2;have f3:=h.f3;by_cases hz:Pm.ao s.data.toList p n=0
 ·rw [hz] at c2;have e1:decide (Pm.ao s.data.toList p n=0)=true:=by simp [hz]
  rw [e1];clear e1 hz;go_enter func159,ntmps159
  go_wp2;go_ret;exact ⟨rfl,h.aligned,((nr.refl b w).setCell _ _).setCell _ _⟩
 ·have e1:decide (Pm.ao s.data.toList p n=0)=false:=by simp [hz]
  rw [e1];clear e1;generalize Pm.ao s.data.toList p n=z at*;have e2:((z:Int)==0)=false:=by rw [Ys];omega
  go_enter func159,ntmps159
  go_wp2;go_ret;exact ⟨rfl,h.aligned,((nr.refl b w).setCell _ _).setCell _ _⟩
theorem PR.skip {w:World} {b:Nat} {s:ByteArray} {p k:Nat} (h:PR w b s p 0) {x:Value} (hk:p+8*k<=8*s.size) (hx:x=.int .i64 (p / 8+k:Nat)):PR (w.setCell (zq b 1) x) b s (p+8*k) 0:=by
 subst hx;have h8:=h.at8;refine h.put (by omega) (by omega) ?_ ?_ ?_ ?_ ?_
 ·rw [ZV _ _ _ _ (by simp)]
 ·rw [ZC _ _ _ h.c1];congr 3;omega
 ·rw [ZV _ _ _ _ (by simp),Pm.o6];have:=h.c2;rwa [Pm.o6] at this
 ·rw [ZV _ _ _ _ (by simp)];exact h.c3
 ·intro a;rw [ZL]
theorem qg (w:World) (b:Nat) (s:ByteArray) (p k:Nat) (h:PR w b s p 0) (hs:s.size<=140737488355328) (hk:p / 8+k<=s.size):
  CP 208 #[zp b,k] w fun e w'=>e=.returned (.tuple #[.string (s.extract (p / 8) (p / 8+k)),true])/\PR w' b s (p+8*k) 0/\nr b w w':=by
 have h8:=h.at8;have c0:=h.c0;have c1:=h.c1;have f1:=h.f1;have HR:=ai (fun (x:Value) (q:Nat) hx=>(h.drewN q).skip (k:=k) (x:=x) (by omega) hx);rw [Yb] at c1;generalize hq:p / 8=q at*;clear hq h8;go_enter func208,ntmps208
 go_wp2;go_quiet (fail)
 go_wp2;go_quiet (fail)
 go_wp2;go_ret2;refine ⟨rfl,?_,?_⟩
 ·first | exact HR.out _ _ (by go_num) | exact (HR.out _ _ (by go_num)).drewN _
 ·first | exact ((nr.refl b w).drewN _).setCell _ _ | exact (((nr.refl b w).drewN _).setCell _ _).drewN _
theorem qf (w:World) (b:Nat) (s:ByteArray) (p k:Nat) (h:PR w b s p 0) (hs:s.size<=140737488355328) (hk1:k<=100000) (hk:s.size < p / 8+k):
  CP 208 #[zp b,k] w fun e w'=>e=.returned (.tuple #[.string ⟨#[]⟩,false])/\PR w' b s p 0/\nr b w w':=by
 have h8:=h.at8;have hl:=h.le;have c0:=h.c0;have c1:=h.c1;rw [Yb] at c1;have hq:p / 8<=s.size:=by omega
 generalize p / 8=q at*;go_enter func208,ntmps208
 go_wp2;go_quiet (fail)
 go_wp2;go_ret2;exact ⟨rfl,h.drewN _,(nr.refl b w).drewN _⟩
theorem FI (w:World) (b:Nat) (s:ByteArray) (p n:Nat) (h:PR w b s p n) (hn:n < 8) (hs:s.size<=140737488355328) (hp:p+(Pm.bC s.data.toList p).2<=8*s.size):
  CP 269 #[zp b] w fun e w'=>e=.returned (.tuple #[((Pm.bC s.data.toList p).1:Nat),true])/\(∃ n',n' < 8/\PR w' b s (p+(Pm.bC s.data.toList p).2) n')/\nr b w w':=by
 have hw:=Pm.tJ s.data.toList p;have g7:Pm.aR s.data.toList p 7 < 128:=Pm.pJ s.data.toList p 7;have g8:Pm.ao s.data.toList (p+7) 1 < 2:=Pm.cJ s.data.toList (p+7) 1;have g9:Pm.ao s.data.toList (p+8) 1 < 2:=Pm.cJ s.data.toList (p+8) 1;have HS:=ai (show Pm.bC s.data.toList p=_ from rfl);generalize hsy:Pm.bC s.data.toList p=sy at*;have HY:Hid (Pm.bC s.data.toList p=sy):=hsy;clear hsy HS;obtain ⟨c,wd⟩:=sy;simp only [] at*;go_enter func269,ntmps269
 go_wp2_with fail
 refine (gW w b s p n 7 h hn (by omega) hs (by omega)).mono ?_;rintro e w1 ⟨rfl,⟨n1,hn1,hr1⟩,ho1⟩;by_cases c1:Pm.aR s.data.toList p 7<=23
 ·have e0:=HY.out;unfold Pm.bC at e0;rw [ZN c1] at e0;have HE:=ai e0;clear e0 HY;generalize Pm.aR s.data.toList p 7=v7 at*;go_wp2;go_ret2;have e1:=HE.out
  cases e1
  exact ⟨j7 (by simp),⟨n1,hn1,hr1⟩,ho1⟩
 ·have e0:=HY.out;unfold Pm.bC at e0;rw [ZO c1] at e0;have hwd:8<=wd:=by
   split at e0
   ·cases e0;omega
   ·split at e0 <;> cases e0 <;> omega
  have HE:=ai e0;clear e0 HY;go_wp2_with fail
  refine (bz w1 b s (p+7) n1 1 hr1 hn1 (by omega) hs (by omega)).mono ?_;rintro e w2 ⟨rfl,⟨n2,hn2,hr2⟩,ho2⟩;have OB:=wz (Pm.aR s.data.toList p 7) (by omega) _ g8;generalize Pm.aR s.data.toList p 7=v7 at*;generalize Pm.ao s.data.toList (p+7) 1=x7 at*;by_cases c2:2*v7+x7<=191
  ·have e1:=HE.out;rw [ZN c2] at e1;have HE2:=ai e1;clear e1 HE;go_wp2;go_ret2;have e1:=HE2.out
   cases e1
   exact ⟨j7 (by first | omega | (simp;omega)),⟨n2,hn2,hr2⟩,ho1.trans ho2⟩
  ·have e1:=HE.out;rw [ZO c2] at e1;have HE2:=ai e1;clear e1 HE;by_cases c3:2*v7+x7<=199
   ·have e1:=HE2.out;rw [ZN c3] at e1;have HE3:=ai e1;clear e1 HE2;go_wp2;go_ret2;have e1:=HE3.out
    cases e1
    exact ⟨j7 (by first | omega | (simp;omega)),⟨n2,hn2,hr2⟩,ho1.trans ho2⟩
   ·have e1:=HE2.out;rw [ZO c3] at e1;have HE3:=ai e1;clear e1 HE2;have hwd9:9<=wd:=by have e2:=HE3.out;cases e2;omega
    have OB2:=fun hh=>wz (2*v7+x7) hh _ g9
    have OB3:=OB2 (by omega);clear OB2;go_wp2_with fail
    refine (bz w2 b s (p+7+1) n2 1 hr2 hn2 (by omega) hs (by omega)).mono ?_;rintro e w3 ⟨rfl,⟨n3,hn3,hr3⟩,ho3⟩;generalize Pm.ao s.data.toList (p+8) 1=x8 at*;go_wp2;go_ret2;have e1:=HE3.out
    cases e1
    refine ⟨j7 ?_,⟨n3,hn3,hr3⟩,(ho1.trans ho2).trans ho3⟩;have h1:(2*(v7:Int)+(x7:Int))*2=((2*v7+x7:Nat):Int)*2:=by push_cast;rfl
    rw [h1,OB3,YU (144+_) (by omega),YU _ (by omega)];omega
theorem FH (w:World) (b:Nat) (s:ByteArray) (p n:Nat) (h:PR w b s p n) (hn:n < 8) (hs:s.size<=140737488355328) (hp:8*s.size < p+(Pm.bC s.data.toList p).2):
  CP 269 #[zp b] w fun e w'=>(∃ z,e=.returned (.tuple #[.int .i64 z,false]))/\(∃ p' n',n' < 16/\PR w' b s p' n')/\nr b w w':=by
 have g7:Pm.aR s.data.toList p 7 < 128:=Pm.pJ s.data.toList p 7;have g8:Pm.ao s.data.toList (p+7) 1 < 2:=Pm.cJ s.data.toList (p+7) 1;by_cases h7:8*s.size < p+7
 ·clear hp;go_enter func269,ntmps269
  go_wp2_with fail
  refine (rl w b s p n 7 h (by omega) (by omega) hs h7).mono ?_;rintro e w1 ⟨⟨z,rfl⟩,⟨n1,hn1,hr1⟩,ho1⟩;go_wp2;go_ret2;exact ⟨⟨_,rfl⟩,⟨_,n1,hn1,hr1⟩,ho1⟩
 ·have c1:¬ Pm.aR s.data.toList p 7<=23:=by
   intro c1;unfold Pm.bC at hp;rw [ZN c1] at hp;simp only [] at hp;omega
  have H9:Hid (p+8<=8*s.size->¬ 2*Pm.aR s.data.toList p 7+Pm.ao s.data.toList (p+7) 1<=199/\8*s.size < p+9):=by
   intro h8;unfold Pm.bC at hp;rw [ZO c1] at hp;by_cases c2:2*Pm.aR s.data.toList p 7+Pm.ao s.data.toList (p+7) 1<=191
   ·rw [ZN c2] at hp;simp only [] at hp;omega
   ·rw [ZO c2] at hp;by_cases c3:2*Pm.aR s.data.toList p 7+Pm.ao s.data.toList (p+7) 1<=199
    ·rw [ZN c3] at hp;simp only [] at hp;omega
    ·rw [ZO c3] at hp;exact ⟨c3,hp⟩
  clear hp;have OB0:bits BinOp.or IntKind.i64 ((Pm.aR s.data.toList p 7:Int)*2) 0=((2*Pm.aR s.data.toList p 7:Nat):Int):=wz (Pm.aR s.data.toList p 7) (by omega) 0 (by omega);have OB:=wz (Pm.aR s.data.toList p 7) (by omega) _ g8;go_enter func269,ntmps269
  go_wp2_with fail
  refine (gW w b s p n 7 h hn (by omega) hs (by omega)).mono ?_;rintro e w1 ⟨rfl,⟨n1,hn1,hr1⟩,ho1⟩;by_cases h8:8*s.size < p+7+1
  ·clear OB g8;generalize Pm.aR s.data.toList p 7=v7 at*;go_wp2_with fail
   refine (gG w1 b s (p+7) n1 1 hr1 (by omega) (by omega) hs h8).mono ?_;rintro e w2 ⟨rfl,⟨n2,hn2,hr2⟩,ho2⟩;by_cases c2:2*v7<=191
   ·go_wp2;go_ret2;exact ⟨⟨_,rfl⟩,⟨_,n2,hn2,hr2⟩,ho1.trans ho2⟩
   ·by_cases c3:2*v7<=199
    ·go_wp2;go_ret2;exact ⟨⟨_,rfl⟩,⟨_,n2,hn2,hr2⟩,ho1.trans ho2⟩
    ·go_wp2_with fail
     refine (gG w2 b s (p+7) n2 1 hr2 hn2 (by omega) hs h8).mono ?_;rintro e w3 ⟨rfl,⟨n3,hn3,hr3⟩,ho3⟩;go_wp2;go_ret2;exact ⟨⟨_,rfl⟩,⟨_,n3,hn3,hr3⟩,(ho1.trans ho2).trans ho3⟩
  ·obtain ⟨c3,h9⟩:=H9.out (by omega);clear H9 OB0;go_wp2_with fail
   refine (bz w1 b s (p+7) n1 1 hr1 hn1 (by omega) hs (by omega)).mono ?_;rintro e w2 ⟨rfl,⟨n2,hn2,hr2⟩,ho2⟩;generalize Pm.aR s.data.toList p 7=v7 at*;generalize Pm.ao s.data.toList (p+7) 1=x7 at*;go_wp2_with fail
   refine (gG w2 b s (p+7+1) n2 1 hr2 (by omega) (by omega) hs (by omega)).mono ?_;rintro e w3 ⟨rfl,⟨n3,hn3,hr3⟩,ho3⟩;go_wp2;go_ret2;exact ⟨⟨_,rfl⟩,⟨_,n3,hn3,hr3⟩,(ho1.trans ho2).trans ho3⟩
theorem wA (w:World) (b:Nat) (s:ByteArray) (p n c:Nat) (h:PR w b s p n) (hn:n < 8) (hs:s.size<=140737488355328) (h1:257<=c) (h2:c<=285) (hp:p+Pm.ak c<=8*s.size):
  CP 303 #[zp b,c] w fun e w'=>e=.returned (.tuple #[(Pm.a_ c+Pm.ao s.data.toList p (Pm.ak c):Nat),.bool (decide (¬ (258<=Pm.a_ c+Pm.ao s.data.toList p (Pm.ak c)/\c≠285)))])/\
   (∃ n',n' < 8/\PR w' b s (p+Pm.ak c) n')/\nr b w w':=by
 have hlb:=Pm.fh c (by omega) h1;have hE:=hlb.1;have hX:=Pm.cJ s.data.toList p (Pm.ak c);have hN:Pm.a_ c+Pm.ao s.data.toList p (Pm.ak c)<=258:=by omega
 clear hX hlb;by_cases hb:258<=Pm.a_ c+Pm.ao s.data.toList p (Pm.ak c)
 ·by_cases h5:c=285
  ·have e1:decide (¬ (258<=Pm.a_ c+Pm.ao s.data.toList p (Pm.ak c)/\c≠285))=true:=Zt (fun hh=>hh.2 h5);rw [e1];clear e1;have h6:((c:Int)==285)=true:=by rw [beq_iff_eq];omega
   clear h5;go_enter func303,ntmps303
   go_wp2_with fail
   refine (gz w c h1 h2).mono ?_;rintro e w1 ⟨rfl,rfl⟩;go_wp2_with fail
   refine (bz _ b s p n (Pm.ak c) h hn (by omega) hs hp).mono ?_;rintro e w2 ⟨rfl,⟨n2,hn2,hr2⟩,ho2⟩;generalize hX:Pm.ao s.data.toList p (Pm.ak c)=X at*;have HX:=ai hX;clear hX;generalize hA:Pm.a_ c=A at*;have HA:=ai hA;clear hA;go_wp2;go_ret2;exact ⟨j7 (by rw [HX.out,HA.out];simp),⟨n2,hn2,hr2⟩,ho2⟩
  ·have e1:decide (¬ (258<=Pm.a_ c+Pm.ao s.data.toList p (Pm.ak c)/\c≠285))=false:=by simp [h5,hb]
   rw [e1];clear e1;have h6:((c:Int)==285)=false:=by rw [Ys];omega
   clear h5;go_enter func303,ntmps303
   go_wp2_with fail
   refine (gz w c h1 h2).mono ?_;rintro e w1 ⟨rfl,rfl⟩;go_wp2_with fail
   refine (bz _ b s p n (Pm.ak c) h hn (by omega) hs hp).mono ?_;rintro e w2 ⟨rfl,⟨n2,hn2,hr2⟩,ho2⟩;generalize hX:Pm.ao s.data.toList p (Pm.ak c)=X at*;have HX:=ai hX;clear hX;generalize hA:Pm.a_ c=A at*;have HA:=ai hA;clear hA;have hb3:decide ((A:Int)+(X:Int) < 258)=false:=by simp;omega
   go_wp2;go_ret2;exact ⟨j7 (by rw [HX.out,HA.out];simp),⟨n2,hn2,hr2⟩,ho2⟩
 ·have e1:decide (¬ (258<=Pm.a_ c+Pm.ao s.data.toList p (Pm.ak c)/\c≠285))=true:=by simp [hb]
  rw [e1];clear e1;go_enter func303,ntmps303
  go_wp2_with fail
  refine (gz w c h1 h2).mono ?_;rintro e w1 ⟨rfl,rfl⟩;go_wp2_with fail
  refine (bz _ b s p n (Pm.ak c) h hn (by omega) hs hp).mono ?_;rintro e w2 ⟨rfl,⟨n2,hn2,hr2⟩,ho2⟩;generalize hX:Pm.ao s.data.toList p (Pm.ak c)=X at*;have HX:=ai hX;clear hX;generalize hA:Pm.a_ c=A at*;have HA:=ai hA;clear hA;have hb2:decide ((A:Int)+(X:Int) < 258)=true:=by simp;omega
  go_wp2;go_ret2;exact ⟨j7 (by rw [HX.out,HA.out];simp),⟨n2,hn2,hr2⟩,ho2⟩
theorem FG (w:World) (b:Nat) (s:ByteArray) (p n c:Nat) (h:PR w b s p n) (hn:n < 8) (hs:s.size<=140737488355328) (h1:257<=c) (h2:c<=285) (hp:8*s.size < p+Pm.ak c):
  CP 303 #[zp b,c] w fun e w'=>(∃ z,e=.returned (.tuple #[.int .i64 z,false]))/\(∃ p' n',n' < 16/\PR w' b s p' n')/\nr b w w':=by
 have hlb:=Pm.fh c (by omega) h1;have hE:=hlb.1;have hA:Pm.a_ c<=259:=by have:=YH (Pm.ak c);omega
 clear hlb;go_enter func303,ntmps303
 go_wp2_with fail
 refine (gz w c h1 h2).mono ?_;rintro e w1 ⟨rfl,rfl⟩;go_wp2_with fail
 refine (gG _ b s p n (Pm.ak c) h (by omega) (by omega) hs hp).mono ?_;rintro e w2 ⟨rfl,⟨n2,hn2,hr2⟩,ho2⟩;generalize Pm.a_ c=A at*;go_wp2;go_ret2;exact ⟨⟨_,rfl⟩,⟨_,n2,hn2,hr2⟩,ho2⟩
theorem EF (w:World) (b c:Nat) (h1:285 < c) (h2:c<=287):
  QE 303 #[zp b,c] w (.tuple #[oz,false]):=by
 go_enter func303,ntmps303
 go_wp2;go_ret2;exact ⟨rfl,rfl⟩
theorem yI (w:World) (b:Nat) (s:ByteArray) (p n:Nat) (h:PR w b s p n) (hn:n < 8) (hs:s.size<=140737488355328) (h5:p+5<=8*s.size) (hv:Pm.aR s.data.toList p 5<=29) (hp:p+5+Pm.aH (Pm.aR s.data.toList p 5)<=8*s.size):
  CP 304 #[zp b] w fun e w'=>e=.returned (.tuple #[(Pm.bD (Pm.aR s.data.toList p 5)+Pm.ao s.data.toList (p+5) (Pm.aH (Pm.aR s.data.toList p 5)):Nat),true])/\
   (∃ n',n' < 8/\PR w' b s (p+5+Pm.aH (Pm.aR s.data.toList p 5)) n')/\nr b w w':=by
 go_enter func304,ntmps304
 go_wp2_with fail
 refine (gW w b s p n 5 h hn (by omega) hs h5).mono ?_;rintro e w1 ⟨rfl,⟨n1,hn1,hr1⟩,ho1⟩;generalize hv5:Pm.aR s.data.toList p 5=v at*;have HV:=ai hv5;clear hv5;have hdb:=Pm.eN v (by omega);have hE:=hdb.1;have hX:=Pm.cJ s.data.toList (p+5) (Pm.aH v);have hN:Pm.bD v+Pm.ao s.data.toList (p+5) (Pm.aH v)<=32768:=by omega
 clear hX hdb;go_wp2_with fail
 refine (j4 _ v (by omega)).mono ?_;rintro e w2 ⟨rfl,rfl⟩;go_wp2_with fail
 refine (bz _ b s (p+5) n1 (Pm.aH v) hr1 hn1 (by omega) hs hp).mono ?_;rintro e w3 ⟨rfl,⟨n3,hn3,hr3⟩,ho3⟩;generalize hX:Pm.ao s.data.toList (p+5) (Pm.aH v)=X at*;have HX:=ai hX;clear hX;generalize hA:Pm.bD v=A at*;have HA:=ai hA;clear hA;go_wp2;go_ret2;exact ⟨j7 (by rw [HV.out,HX.out,HA.out];simp),⟨n3,hn3,by rw [HV.out];exact hr3⟩,ho1.trans ho3⟩
theorem EB (w:World) (b:Nat) (s:ByteArray) (p n:Nat) (h:PR w b s p n) (hn:n < 8) (hs:s.size<=140737488355328)
  (hbad:8*s.size < p+5\/29 < Pm.aR s.data.toList p 5\/8*s.size < p+5+Pm.aH (Pm.aR s.data.toList p 5)):
  CP 304 #[zp b] w fun e w'=>(∃ z,e=.returned (.tuple #[.int .i64 z,false]))/\(∃ p' n',n' < 16/\PR w' b s p' n')/\nr b w w':=by
 by_cases h5:8*s.size < p+5
 ·clear hbad;go_enter func304,ntmps304
  go_wp2_with fail
  refine (rl w b s p n 5 h (by omega) (by omega) hs h5).mono ?_;rintro e w1 ⟨⟨z,rfl⟩,⟨n1,hn1,hr1⟩,ho1⟩;go_wp2;go_ret2;exact ⟨⟨_,rfl⟩,⟨_,n1,hn1,hr1⟩,ho1⟩
 ·have hlt:Pm.aR s.data.toList p 5 < 32:=Pm.pJ s.data.toList p 5;by_cases hv:29 < Pm.aR s.data.toList p 5
  ·clear hbad;go_enter func304,ntmps304
   go_wp2_with fail
   refine (gW w b s p n 5 h hn (by omega) hs (by omega)).mono ?_;rintro e w1 ⟨rfl,⟨n1,hn1,hr1⟩,ho1⟩;generalize Pm.aR s.data.toList p 5=v at*;go_wp2;go_ret2;exact ⟨⟨_,rfl⟩,⟨_,n1,by omega,hr1⟩,ho1⟩
  ·have hb2:8*s.size < p+5+Pm.aH (Pm.aR s.data.toList p 5):=by omega
   clear hbad;go_enter func304,ntmps304
   go_wp2_with fail
   refine (gW w b s p n 5 h hn (by omega) hs (by omega)).mono ?_;rintro e w1 ⟨rfl,⟨n1,hn1,hr1⟩,ho1⟩;generalize Pm.aR s.data.toList p 5=v at*;have hdb:=Pm.eN v (by omega);have hE:=hdb.1;have hA:Pm.bD v<=32769:=by have:=YH (Pm.aH v);omega
   clear hdb;go_wp2_with fail
   refine (j4 _ v (by omega)).mono ?_;rintro e w2 ⟨rfl,rfl⟩;go_wp2_with fail
   refine (gG _ b s (p+5) n1 (Pm.aH v) hr1 (by omega) (by omega) hs hb2).mono ?_;rintro e w3 ⟨rfl,⟨n3,hn3,hr3⟩,ho3⟩;generalize Pm.bD v=A at*;go_wp2;go_ret2;exact ⟨⟨_,rfl⟩,⟨_,n3,hn3,hr3⟩,ho1.trans ho3⟩
structure PU (w:World) (b:Nat) (s:ByteArray) (p n:Nat) (v:Value) (out:List UInt8):Prop where
 r:PR w b s p n
 c4:w.cell? (zq b 4)=some v
 c5:w.cell? (zq b 5)=(1048576:Int)
 f4:w.frozen? (zq b 4)=false
 o:gZ w b v out
theorem PU.few {w w':World} {b:Nat} {s:ByteArray} {p n p' n':Nat} {v:Value} {out:List UInt8} (h:PU w b s p n v out) (k:nr b w w') (hr:PR w' b s p' n'):PU w' b s p' n' v out:=
 ⟨hr,(k.cell 4 (by omega)).trans h.c4,(k.cell 5 (by omega)).trans h.c5,(k.frz 4).trans h.f4,h.o.only k.only⟩
theorem PU.drewN {w:World} {b:Nat} {s:ByteArray} {p n:Nat} {v:Value} {out:List UInt8} (h:PU w b s p n v out) (q:Nat):PU (w.drewN q) b s p n v out:=⟨h.r.drewN q,h.c4,h.c5,h.f4,h.o.drewN q⟩
theorem PU.lt {w:World} {b:Nat} {s:ByteArray} {p n:Nat} {v:Value} {out:List UInt8} (h:PU w b s p n v out):b < w.heap.size:=h.r.lt
theorem PR.kept {w w':World} {b:Nat} {s:ByteArray} {p n:Nat} (h:PR w b s p n) (k:Below (b+1) w w'):PR w' b s p n:=
 ⟨h.at8,h.le,(k.cell (Zl b)).trans h.c0,(k.cell (Zl b)).trans h.c1,(k.cell (Zl b)).trans h.c2,(k.cell (Zl b)).trans h.c3,
  (k.frozen (Zl b)).trans h.f1,(k.frozen (Zl b)).trans h.f2,(k.frozen (Zl b)).trans h.f3⟩
theorem PU.grow {w w':World} {b:Nat} {s:ByteArray} {p n:Nat} {v v':Value} {out out':List UInt8} (h:PU w b s p n v out) (k:Below (b+1) w w') (ho:gZ w' b v' out'):PU (w'.setCell (zq b 4) v') b s p n v' out':=by
 have h4:=(k.cell (p:=zq b 4) (Zl b)).trans h.c4;have hr:=h.r.kept k;refine ⟨?_,ZC _ _ _ h4,?_,?_,ho.only ((bT.refl b _).setCell _ _)⟩
 ·exact hr.put hr.at8 hr.le (ZV _ _ _ _ (by simp)) ((ZV _ _ _ _ (by simp)).trans hr.c1) ((ZV _ _ _ _ (by simp)).trans hr.c2) ((ZV _ _ _ _ (by simp)).trans hr.c3) (fun _=>ZL ..)
 ·rw [ZV _ _ _ _ (by simp)];exact (k.cell (p:=zq b 5) (Zl b)).trans h.c5
 ·rw [ZL];exact (k.frozen (p:=zq b 4) (Zl b)).trans h.f4
theorem dr (w:World) (b:Nat) (s:ByteArray) (p n k:Nat) (v:Value) (out:List UInt8) (h:PU w b s p n v out) (hk:k<=100000) (ho:out.length<=1048576):
  QD 268 #[zp b,k] w (.bool (decide (out.length+k<=1048576))):=by
 have c4:=h.c4;have c5:=h.c5;obtain ⟨ad,cap,hform,_⟩:=h.o.form;subst hform;go_enter func268,ntmps268
 go_wp2;go_quiet (fail)
 go_wp2;go_ret;refine ⟨congrArg (fun z=>Ending.returned (.bool z)) ?_,_,rfl⟩;rw [Bool.eq_iff_iff];simp;omega
theorem xj (w:World) (v:Value) (t:TypeId):(w.alloc (.cells #[v] t)).cell? w=some v:=by simp
theorem DL (w:World) (b:Nat) (s:ByteArray) (p n c:Nat) (v:Value) (out:List UInt8) (h:PU w b s p n v out) (hn:n < 8) (hs:s.size<=140737488355328) (ho:out.length<=1048576) (h1:257<=c) (q:Nat) (o':List UInt8) (ha:Pm.gH s.data.toList p c out=some (q,o')):
  CP 270 #[zp b,c] w fun e w'=>e=.returned true/\(∃ n' v',n' < 8/\PU w' b s q n' v' o')/\Below b w w':=by
 have hlen:s.data.toList.length=s.size:=by simp
 have hc:=Pm.gU (by rw [ha];simp:Pm.gH s.data.toList p c out≠none);rw [hlen] at hc;obtain ⟨k1,k2,k3,k4,k5,k6,k7,k8⟩:=hc;have he:=Pm.po (l:=s.data.toList) k1 (by rw [hlen];exact k2) k3 k4 (by rw [hlen];exact k5) k6 (by rw [hlen];exact k7) k8;rw [ha] at he;simp only [Yh,XT] at he;obtain ⟨rfl,rfl⟩:=he;have hlb:=Pm.fh c (by omega) h1;have hX:=Pm.cJ s.data.toList p (Pm.ak c);have hN3:3<=Pm.a_ c+Pm.ao s.data.toList p (Pm.ak c)/\Pm.a_ c+Pm.ao s.data.toList p (Pm.ak c)<=258:=by omega
 have hdb:=Pm.eN (Pm.aR s.data.toList (p+Pm.ak c) 5) (by omega);have hY:=Pm.cJ s.data.toList (p+Pm.ak c+5) (Pm.aH (Pm.aR s.data.toList (p+Pm.ak c) 5));have hD3:1<=Pm.bD (Pm.aR s.data.toList (p+Pm.ak c) 5)+Pm.ao s.data.toList (p+Pm.ak c+5) (Pm.aH (Pm.aR s.data.toList (p+Pm.ak c) 5))/\Pm.bD (Pm.aR s.data.toList (p+Pm.ak c) 5)+Pm.ao s.data.toList (p+Pm.ak c+5) (Pm.aH (Pm.aR s.data.toList (p+Pm.ak c) 5))<=32768:=by omega
 clear hX hlb hY hdb ha hlen;have e1:decide (¬ (258<=Pm.a_ c+Pm.ao s.data.toList p (Pm.ak c)/\c≠285))=true:=Zt k3;have HLen:=wA w b s p n c h.r hn hs h1 k1 k2;rw [e1] at HLen;have HLen':=ai HLen;have HDist:=ai (fun (wx:World) (nx:Nat) (hx:PR wx b s (p+Pm.ak c) nx) (hnx:nx < 8)=>yI wx b s (p+Pm.ak c) nx hx hnx hs k5 k6 k7);clear HLen e1 k3 k5 k6 k7;generalize Pm.a_ c+Pm.ao s.data.toList p (Pm.ak c)=N at*;generalize Pm.bD (Pm.aR s.data.toList (p+Pm.ak c) 5)+Pm.ao s.data.toList (p+Pm.ak c+5) (Pm.aH (Pm.aR s.data.toList (p+Pm.ak c) 5))=D at*;generalize p+Pm.ak c+5+Pm.aH (Pm.aR s.data.toList (p+Pm.ak c) 5)=Q at*;go_enter func270,ntmps270
 go_wp2_with fail
 refine HLen'.out.mono ?_;rintro e w1 ⟨rfl,⟨n1,hn1,hr1⟩,ho1⟩;have hU1:=h.few ho1 hr1;have hb1:=ho1.below h.lt;clear HLen' ho1 hr1;go_wp2_with fail
 refine (dr w1 b s _ _ N v out hU1 (by omega) ho).mono ?_;rintro e w2 ⟨rfl,z,rfl⟩;have e2:decide (out.length+N<=1048576)=true:=Zt k4;rw [e2];clear e2;have hU2:=hU1.drewN z;have hb2:=below_drewN hb1 z;clear hU1 hb1;go_wp2_with fail
 refine (HDist.out _ n1 hU2.r hn1).mono ?_;rintro e w3 ⟨rfl,⟨n3,hn3,hr3⟩,ho3⟩;have hU3:=hU2.few ho3 hr3;have hb3:=hb2.trans (ho3.below hU2.lt);clear hU2 hb2 ho3 hr3 HDist;have c4:=hU3.c4;obtain ⟨ad,cap,hform,_⟩:=hU3.o.form;rw [hform] at c4;have hdd:decide (out.length < D)=false:=Zo (by omega);go_wp2;clear c4;go_loopg [39] (N+1) (fun g i wr=>∃ k:Nat,k<=N/\N - k < g/\i=.int .i64 k/\(∃ u,PU wr b s Q n3 u (Pm.eQ out D k))/\Below b w wr)
 case atStart=>exact ⟨0,by omega,by omega,rfl,⟨v,hU3⟩,hb3⟩
 case round=>
  clear hU3 hb3 hform;obtain ⟨k,hk1,hk2,rfl,⟨u,hUk⟩,hbk⟩:=hrel;have HCS:=ai (Pm.sH out D k);have hM:=Pm.ig out D k;have HDone:Hid (k=N->PU wr b s Q n3 u (Pm.eQ out D N)):=fun hh=>hh ▸ hUk
  by_cases hkl:k < N
  ·clear HDone;generalize Pm.eQ out D k=o2 at*;have hM1:o2.length<=out.length+k:=by omega
   have hM2:out.length+k<=o2.length:=by omega
   clear hM;have hOk:=hUk.o;obtain ⟨gb,cap2,hv2,hcell,hgb⟩:=hOk.at (o2.length - D) (by omega);subst hv2;generalize hI:o2.length - D=I at*;have eI:IntKind.i64.wrap ((o2.length:Int) - (D:Int))=(I:Int):=by rw [IntWalk.i64_in _ (by omega)];omega
   have eB:(I:Int) < (o2.length:Int):=by omega
   clear hI;generalize o2.getD I 0=cc at*;have c4:=hUk.c4;have f4:=hUk.f4;have c4a:∀ ob:Obj,(wr.alloc ob).cell? (zq b 4)=some (.slice gb o2.length cap2):=fun ob=>(((ZT (b+1) wr).alloc hOk.base ob).cell (p:=zq b 4) (Zl b)).trans c4
   have HCell:Hid ((wr.drew.alloc (.cells #[.int .u8 (cc.toNat:Nat)] 5)).cell? wr=some (.int .u8 (cc.toNat:Nat))):=by
    exact xj wr.drew _ _
   have hOd:=hOk.drew.alloc (.cells #[.int .u8 (cc.toNat:Nat)] 5);have hbd:Below (b+1) wr (wr.drew.alloc (.cells #[.int .u8 (cc.toNat:Nat)] 5)):=((ZT _ _).drew).alloc hOk.base _;have HBd:=ai hbd;clear hbd;go_wp2;go_region_law ((refine Dn rfl (.tmp 45) (.tmp 59) 66 rfl underlying66 b _ o2 (by simp [Act.eval,Act.put]) hOd ⟨wr,0,none⟩ 1 (by simp [Act.eval,Act.put]) cc HCell.out rfl (by omega) ?_;intro v7 w7 hO7 hb7;obtain ⟨ad7,cap7,hv7,hno7⟩:=hO7.form;clear hno7;generalize (o2++[cc]).length=L7 at hv7;rw [hv7] at hO7 ⊢;clear hv7;have k4:=((HBd.out.trans hb7).cell (p:=zq b 4) (Zl b)).trans c4;have kf:=((HBd.out.trans hb7).frozen (p:=zq b 4) (Zl b)).trans f4))
   all_goals
    go_wp2;go_roundg (gk - 1)
    case measure=>omega
    case rel=>
     refine ⟨k+1,by omega,by omega,by go_num,⟨.slice ad7 L7 cap7,?_⟩,?_⟩
     ·rw [HCS.out];exact hUk.grow (HBd.out.trans hb7) hO7
     ·exact (hbk.trans ((HBd.out.trans hb7).mono (Nat.le_succ b))).setCell (ZW b) _
  ·have hke:k=N:=by omega
   have hUD:=HDone.out hke;subst hke;clear HCS hM HDone;go_wp2;go_ret;exact ⟨rfl,⟨n3,u,hn3,hUD⟩,hbk⟩
theorem DK (w:World) (b:Nat) (s:ByteArray) (p n c:Nat) (v:Value) (out:List UInt8) (h:PU w b s p n v out) (hn:n < 8) (hs:s.size<=140737488355328) (ho:out.length<=1048576) (h1:257<=c) (h2:c<=287) (ha:Pm.gH s.data.toList p c out=none):
  CP 270 #[zp b,c] w fun e w'=>e=.returned false/\Below b w w':=by
 have hlen:s.data.toList.length=s.size:=by simp
 by_cases k1:c<=285
 ·by_cases k2:p+Pm.ak c<=8*s.size
  ·have hlb:=Pm.fh c (by omega) h1;have hX:=Pm.cJ s.data.toList p (Pm.ak c);have hN3:Pm.a_ c+Pm.ao s.data.toList p (Pm.ak c)<=258:=by omega
   clear hX hlb;by_cases k3:258<=Pm.a_ c+Pm.ao s.data.toList p (Pm.ak c)/\c≠285
   ·have e1:decide (¬ (258<=Pm.a_ c+Pm.ao s.data.toList p (Pm.ak c)/\c≠285))=false:=Zo (by simpa using k3);have HLen:=wA w b s p n c h.r hn hs h1 k1 k2;rw [e1] at HLen;have HLen':=ai HLen;clear HLen e1 ha k3;generalize Pm.a_ c+Pm.ao s.data.toList p (Pm.ak c)=N at*;go_enter func270,ntmps270
    go_wp2_with fail
    refine HLen'.out.mono ?_;rintro e w1 ⟨rfl,⟨n1,hn1,hr1⟩,ho1⟩;go_wp2;go_ret;exact ⟨rfl,ho1.below h.lt⟩
   ·have e1:decide (¬ (258<=Pm.a_ c+Pm.ao s.data.toList p (Pm.ak c)/\c≠285))=true:=Zt k3;have HLen:=wA w b s p n c h.r hn hs h1 k1 k2;rw [e1] at HLen;have HLen':=ai HLen;clear HLen e1;by_cases k4:out.length+(Pm.a_ c+Pm.ao s.data.toList p (Pm.ak c))<=1048576
    ·by_cases k5:8*s.size < p+Pm.ak c+5\/29 < Pm.aR s.data.toList (p+Pm.ak c) 5\/8*s.size < p+Pm.ak c+5+Pm.aH (Pm.aR s.data.toList (p+Pm.ak c) 5)
     ·have HDist:=ai (fun (wx:World) (nx:Nat) (hx:PR wx b s (p+Pm.ak c) nx) (hnx:nx < 8)=>EB wx b s (p+Pm.ak c) nx hx hnx hs k5);clear ha k3 k5;generalize Pm.a_ c+Pm.ao s.data.toList p (Pm.ak c)=N at*;go_enter func270,ntmps270
      go_wp2_with fail
      refine HLen'.out.mono ?_;rintro e w1 ⟨rfl,⟨n1,hn1,hr1⟩,ho1⟩;have hU1:=h.few ho1 hr1;have hb1:=ho1.below h.lt;clear HLen' ho1 hr1;go_wp2_with fail
      refine (dr w1 b s _ _ N v out hU1 (by omega) ho).mono ?_;rintro e w2 ⟨rfl,z,rfl⟩;have e2:decide (out.length+N<=1048576)=true:=Zt k4;rw [e2];clear e2;go_wp2_with fail
      refine (HDist.out _ n1 (hU1.drewN z).r hn1).mono ?_;rintro e w3 ⟨⟨zz,rfl⟩,_,ho3⟩;go_wp2;go_ret;exact ⟨rfl,(below_drewN hb1 z).trans (ho3.below (hU1.drewN z).lt)⟩
     ·simp only [not_or,Nat.not_lt] at k5;obtain ⟨k5,k6,k7⟩:=k5;have k8:out.length < Pm.bD (Pm.aR s.data.toList (p+Pm.ak c) 5)+Pm.ao s.data.toList (p+Pm.ak c+5) (Pm.aH (Pm.aR s.data.toList (p+Pm.ak c) 5)):=by
       refine XY fun hle=>?_
       rw [Pm.po (l:=s.data.toList) k1 (by rw [hlen];exact k2) k3 k4 (by rw [hlen];exact k5) k6 (by rw [hlen];exact k7) hle] at ha
       cases ha
      have hdb:=Pm.eN (Pm.aR s.data.toList (p+Pm.ak c) 5) (by omega);have hY:=Pm.cJ s.data.toList (p+Pm.ak c+5) (Pm.aH (Pm.aR s.data.toList (p+Pm.ak c) 5));have hD3:Pm.bD (Pm.aR s.data.toList (p+Pm.ak c) 5)+Pm.ao s.data.toList (p+Pm.ak c+5) (Pm.aH (Pm.aR s.data.toList (p+Pm.ak c) 5))<=32768:=by omega
      have HDist:=ai (fun (wx:World) (nx:Nat) (hx:PR wx b s (p+Pm.ak c) nx) (hnx:nx < 8)=>yI wx b s (p+Pm.ak c) nx hx hnx hs k5 k6 k7);clear ha k3 k5 k6 k7 hdb hY;generalize Pm.a_ c+Pm.ao s.data.toList p (Pm.ak c)=N at*;generalize Pm.bD (Pm.aR s.data.toList (p+Pm.ak c) 5)+Pm.ao s.data.toList (p+Pm.ak c+5) (Pm.aH (Pm.aR s.data.toList (p+Pm.ak c) 5))=D at*;go_enter func270,ntmps270
      go_wp2_with fail
      refine HLen'.out.mono ?_;rintro e w1 ⟨rfl,⟨n1,hn1,hr1⟩,ho1⟩;have hU1:=h.few ho1 hr1;have hb1:=ho1.below h.lt;clear HLen' ho1 hr1;go_wp2_with fail
      refine (dr w1 b s _ _ N v out hU1 (by omega) ho).mono ?_;rintro e w2 ⟨rfl,z,rfl⟩;have e2:decide (out.length+N<=1048576)=true:=Zt k4;rw [e2];clear e2;have hU2:=hU1.drewN z;have hb2:=below_drewN hb1 z;clear hU1 hb1;go_wp2_with fail
      refine (HDist.out _ n1 hU2.r hn1).mono ?_;rintro e w3 ⟨rfl,⟨n3,hn3,hr3⟩,ho3⟩;have hU3:=hU2.few ho3 hr3;have hb3:=hb2.trans (ho3.below hU2.lt);clear hU2 hb2 ho3 hr3 HDist;have c4:=hU3.c4;obtain ⟨ad,cap,hform,_⟩:=hU3.o.form;rw [hform] at c4;go_wp2;go_ret;exact ⟨rfl,hb3⟩
    ·clear ha k3;generalize Pm.a_ c+Pm.ao s.data.toList p (Pm.ak c)=N at*;go_enter func270,ntmps270
     go_wp2_with fail
     refine HLen'.out.mono ?_;rintro e w1 ⟨rfl,⟨n1,hn1,hr1⟩,ho1⟩;have hU1:=h.few ho1 hr1;go_wp2_with fail
     refine (dr w1 b s _ _ N v out hU1 (by omega) ho).mono ?_;rintro e w2 ⟨rfl,z,rfl⟩;have e2:decide (out.length+N<=1048576)=false:=Zo k4;rw [e2];go_wp2;go_ret;exact ⟨rfl,below_drewN (ho1.below h.lt) z⟩
  ·clear ha;go_enter func270,ntmps270
   go_wp2_with fail
   refine (FG w b s p n c h.r hn hs h1 k1 (by omega)).mono ?_;rintro e w1 ⟨⟨z,rfl⟩,_,ho1⟩;go_wp2;go_ret;exact ⟨rfl,ho1.below h.lt⟩
 ·clear ha;go_enter func270,ntmps270
  go_wp2_with fail
  refine (EF w b c (by omega) h2).mono ?_;rintro e w1 ⟨rfl,rfl⟩;go_wp2;go_ret;exact ⟨rfl,ZT _ _⟩
def E4 (w0:World) (b:Nat) (s:ByteArray) (res:Option (Nat×List UInt8)) (e:Ending) (w':World):Prop:=
 Below b w0 w'/\((e=.returned false/\res=none)\/(∃ q n v o,e=.returned true/\res=some (q,o)/\n < 8/\o.length<=1048576/\PU w' b s q n v o))
theorem BG (w:World) (b:Nat) (s:ByteArray) (p n:Nat) (v:Value) (out:List UInt8) (h:PU w b s p n v out) (hn:n < 8) (hl:out.length<=1048576) (hs:s.size<=140737488355328) (f:Nat) (hf:8*s.size < p+f):
  CP 237 #[zp b] w fun e w'=>E4 w b s (Pm.bn s.data.toList f p out) e w':=by
 have hlen:s.data.toList.length=s.size:=by simp
 have HL:Hid (8*s.size=8*s.data.toList.length):=by show _=_;rw [hlen]
 clear hlen;generalize hres:Pm.bn s.data.toList f p out=res;have HR:Hid (Pm.bn s.data.toList f p out=res):=hres;clear hres;go_enter func237,ntmps237
 go_wp2;go_loopg [3,4] (8*s.size+2) (fun g _ _ wr=>∃ q m u o,PU wr b s q m u o/\m < 8/\Below b w wr/\o.length<=1048576/\8*s.size+1 - q<=g/\∃ f',8*s.size < q+f'/\Pm.bn s.data.toList f' q o=res)
 case atStart=>exact ⟨p,n,v,out,h,hn,ZT _ _,hl,by omega,f,hf,HR.out⟩
 case round=>
  clear hf HR h hn hl;obtain ⟨q,m,u,o,hU,hm,hb,hlo,hg,hf⟩:=hrel;have HC:=ai hf;clear hf;have hq:q<=8*s.size:=by have:=hU.r.le;omega
  have hwd:=Pm.tJ s.data.toList q;have hcc:=Pm.AW s.data.toList q;by_cases hend:8*s.size < q+(Pm.bC s.data.toList q).2
  ·have HN:Hid (res=none):=Pm.jC hq HC.out (Pm.wO (by rw [<-HL.out];exact hend));clear HC;go_wp2_with fail
   refine (FH wr b s q m hU.r hm hs hend).mono ?_;rintro e w1 ⟨⟨z,rfl⟩,_,ho1⟩;go_wp2;go_ret;exact ⟨hb.trans (ho1.below hU.lt),YJ ⟨rfl,HN.out⟩⟩
  ·have hend':q+(Pm.bC s.data.toList q).2<=8*s.data.toList.length:=by rw [<-HL.out];omega
   go_wp2_with fail
   refine (FI wr b s q m hU.r hm hs (by omega)).mono ?_;rintro e w1 ⟨rfl,⟨n1,hn1,hr1⟩,ho1⟩;have hU1:=hU.few ho1 hr1;have hb1:=hb.trans (ho1.below hU.lt);clear hU hb ho1 hr1;by_cases h256:(Pm.bC s.data.toList q).1=256
   ·have HN:Hid (res=some (q+(Pm.bC s.data.toList q).2,o)):=Pm.vF hq HC.out (Pm.pj hend' h256);clear HC hend';generalize (Pm.bC s.data.toList q).1=c at*;generalize (Pm.bC s.data.toList q).2=wd at*;subst h256;go_wp2;go_ret;exact ⟨hb1,YB ⟨_,n1,u,o,rfl,HN.out,hn1,hlo,hU1⟩⟩
   ·by_cases hlt:(Pm.bC s.data.toList q).1 < 256
    ·by_cases hroom:o.length+1<=1048576
     ·have HB:=ai (Pm.qQ hq HC.out (Pm.mC hend' hlt hroom) (by omega));clear HC hend';generalize (Pm.bC s.data.toList q).1=c at*;generalize (Pm.bC s.data.toList q).2=wd at*;go_wp2_with fail
      refine (dr w1 b s _ _ 1 u o hU1 (by omega) hlo).mono ?_;rintro e w2 ⟨rfl,z,rfl⟩;have e2:decide (o.length+1<=1048576)=true:=Zt hroom;rw [e2];clear e2;have hU2:=hU1.drewN z;have hb2:=below_drewN hb1 z;clear hU1 hb1;generalize w1.drewN z=w2 at*;have hub:(UInt8.ofNat c).toNat=c:=by simp;omega
      have HCell:Hid ((w2.alloc (.cells #[.int .u8 c] 5)).cell? w2=some (.int .u8 ((UInt8.ofNat c).toNat:Nat))):=by
       show _=_
       rw [hub];exact xj w2 _ _
      clear hub;have hO2:=hU2.o;have c4:=hU2.c4;have f4:=hU2.f4;have hbd:Below (b+1) w2 (w2.alloc (.cells #[.int .u8 c] 5)):=(ZT _ _).alloc hO2.base _;have HBd:=ai hbd;clear hbd;obtain ⟨ad,cap,hform,_⟩:=hO2.form;rw [hform] at c4 hO2 hU2;clear hform;go_wp2_with (at_builtin;refine kX rfl (.tmp 14) (.tmp 17) 66 rfl underlying66 b _ o rfl (hO2.alloc _) ⟨w2,0,none⟩ 1 rfl (UInt8.ofNat c) HCell.out rfl (by omega) ?_)
      intro v7 w7 hO7 hb7;obtain ⟨ad7,cap7,hv7,hno7⟩:=hO7.form;clear hno7;generalize (o++[UInt8.ofNat c]).length=L7 at hv7;rw [hv7] at hO7 ⊢;clear hv7;have k4:=((HBd.out.trans hb7).cell (p:=zq b 4) (Zl b)).trans c4;have kf:=((HBd.out.trans hb7).frozen (p:=zq b 4) (Zl b)).trans f4;go_wp2;go_roundg (gk - 1)
      case measure=>omega
      case rel=>
       refine ⟨q+wd,n1,_,_,hU2.grow (HBd.out.trans hb7) hO7,hn1,?_,by simp;omega,by omega,HB.out⟩;exact (hb2.trans ((HBd.out.trans hb7).mono (Nat.le_succ b))).setCell (ZW b) _
     ·have HN:Hid (res=none):=Pm.jC hq HC.out (Pm.uf hlt (by omega));clear HC hend';generalize (Pm.bC s.data.toList q).1=c at*;generalize (Pm.bC s.data.toList q).2=wd at*;go_wp2_with fail
      refine (dr w1 b s _ _ 1 u o hU1 (by omega) hlo).mono ?_;rintro e w2 ⟨rfl,z,rfl⟩;have e2:decide (o.length+1<=1048576)=false:=Zo hroom;rw [e2];go_wp2;go_ret;exact ⟨below_drewN hb1 z,YJ ⟨rfl,HN.out⟩⟩
    ·have hc1:257<=(Pm.bC s.data.toList q).1:=by omega
     cases hag:Pm.gH s.data.toList (q+(Pm.bC s.data.toList q).2) (Pm.bC s.data.toList q).1 o with
     | none=>
      have HN:Hid (res=none):=Pm.jC hq HC.out (Pm.uV (by omega) hag);have HAg:=ai (fun (n2:Nat) (hn2:n2 < 8) (hx:PU w1 b s (q+(Pm.bC s.data.toList q).2) n2 u o)=>DK w1 b s _ n2 _ u o hx hn2 hs hlo hc1 hcc hag);clear HC hend' hag;generalize (Pm.bC s.data.toList q).1=c at*;generalize (Pm.bC s.data.toList q).2=wd at*;go_wp2_with fail
      refine (HAg.out n1 hn1 hU1).mono ?_;rintro e w2 ⟨rfl,hb2⟩;go_wp2;go_ret;exact ⟨hb1.trans hb2,YJ ⟨rfl,HN.out⟩⟩
     | some r=>
      obtain ⟨q',o'⟩:=r;have hle:=Pm.lg hag;have HB:=ai (Pm.qQ hq HC.out (Pm.rj hend' (by omega) hag) (by show q < q';omega));have HAg:=ai (fun (n2:Nat) (hn2:n2 < 8) (hx:PU w1 b s (q+(Pm.bC s.data.toList q).2) n2 u o)=>DL w1 b s _ n2 _ u o hx hn2 hs hlo hc1 q' o' hag);have hqq:q < q':=by omega
      have hoo:=hle.2.2;clear HC hend' hag hle;generalize (Pm.bC s.data.toList q).1=c at*;generalize (Pm.bC s.data.toList q).2=wd at*;go_wp2_with fail
      refine (HAg.out n1 hn1 hU1).mono ?_;rintro e w2 ⟨rfl,⟨n2,v2,hn2,hU2⟩,hb2⟩;go_wp2;go_roundg (gk - 1)
      case measure=>omega
      case rel=>exact ⟨q',n2,v2,o',hU2,hn2,hb1.trans hb2,hoo,by omega,HB.out⟩
theorem PR.up {w:World} {b:Nat} {s:ByteArray} {p n:Nat} (h:PR w b s p n) (hn:n < 8):p+n=Pm.bq p/\Pm.bq p - p=n:=by
 have:=h.at8;unfold Pm.bq;omega
theorem De (w:World) (b:Nat) (s:ByteArray) (p n:Nat) (v:Value) (out:List UInt8) (h:PU w b s p n v out) (hn:n < 8) (hl:out.length<=1048576) (hs:s.size<=140737488355328):
  CP 236 #[zp b] w fun e w'=>E4 w b s (Pm.cO s.data.toList p out) e w':=by
 have hlen:s.data.toList.length=s.size:=by simp
 obtain ⟨hP,hn2⟩:=h.r.up hn;have hP8:Pm.bq p % 8=0:=by unfold Pm.bq;omega
 have HNo:=ai (fun hh=>Pm.eO (l:=s.data.toList) (p:=p) (out:=out) hh);have HYes:=ai (fun h1 h2 h3 h4 h5=>Pm.rc (l:=s.data.toList) (p:=p) (out:=out) h1 h2 h3 h4 h5);rw [hlen,hn2] at HNo HYes;have HAl:=uq w b s p n h.r;rw [hP] at HAl;generalize hres:Pm.cO s.data.toList p out=res at*;clear hres hn2 hP hlen;generalize Pm.bq p=P at*;by_cases z0:Pm.ao s.data.toList p n=0
 ·have z0':decide (Pm.ao s.data.toList p n=0)=true:=Zt z0;rw [z0'] at HAl;have HA:=ai HAl;clear HAl z0';by_cases z1:P+16<=8*s.size
  ·by_cases z2:P+32<=8*s.size
   ·have hN:Pm.ao s.data.toList P 16 < 65536:=Pm.cJ _ _ 16;have hM:Pm.ao s.data.toList (P+16) 16 < 65536:=Pm.cJ _ _ 16;by_cases z3:Pm.ao s.data.toList (P+16) 16=65535 - Pm.ao s.data.toList P 16
    ·by_cases z4:out.length+Pm.ao s.data.toList P 16<=1048576
     ·by_cases z5:P / 8+4+Pm.ao s.data.toList P 16<=s.size
      ·have HE:=ai (HYes.out z0 z2 z3 z5 z4);have hm:((Pm.ao s.data.toList (P+16) 16:Int) != 65535 - (Pm.ao s.data.toList P 16:Int))=false:=by rw [XJ];omega
       clear HNo HYes z0 z3;go_enter func236,ntmps236
       go_wp2_with fail
       refine HA.out.mono ?_;rintro e w1 ⟨rfl,hr1,ho1⟩;have hU1:=h.few ho1 hr1;have hb1:=ho1.below h.lt;clear hr1 ho1;go_wp2_with fail
       refine (bz w1 b s P 0 16 hU1.r (by omega) (by omega) hs z1).mono ?_;rintro e w2 ⟨rfl,⟨n2,hn2,hr2⟩,ho2⟩;have hU2:=hU1.few ho2 hr2;have hb2:=hb1.trans (ho2.below hU1.lt);clear hr2 ho2;go_wp2_with fail
       refine (bz w2 b s (P+16) n2 16 hU2.r hn2 (by omega) hs z2).mono ?_;rintro e w3 ⟨rfl,⟨n3,hn3,hr3⟩,ho3⟩;have hU3:=hU2.few ho3 hr3;have hb3:=hb2.trans (ho3.below hU2.lt);have hn30:n3=0:=by have:=hr3.at8;omega
       subst hn30;clear hr3 ho3 hU1 hU2 hb1 hb2;generalize Pm.ao s.data.toList (P+16) 16=M at*;generalize Pm.ao s.data.toList P 16=N at*;go_wp2_with fail
       refine (dr w3 b s _ _ N v out hU3 (by omega) hl).mono ?_;rintro e w4 ⟨rfl,z,rfl⟩;have e2:decide (out.length+N<=1048576)=true:=Zt z4;rw [e2];clear e2;have hU4:=hU3.drewN z;have hb4:=below_drewN hb3 z;clear hU3 hb3;go_wp2_with fail
       have e8:(P+16+16) / 8=P / 8+4:=by omega
       have HTB:=qg (w3.drewN z) b s (P+16+16) N hU4.r hs (by omega);rw [e8] at HTB;refine HTB.mono ?_;clear HTB e8;rintro e w5 ⟨rfl,hr5,ho5⟩;have hU5:=hU4.few ho5 hr5;have hb5:=hb4.trans (ho5.below hU4.lt);clear hr5 ho5 hU4 hb4;have hO5:=hU5.o;have c4:=hU5.c4;have f4:=hU5.f4;obtain ⟨ad,cap,hform,_⟩:=hO5.form;rw [hform] at c4 hO5 hU5;clear hform;have hxs:(s.extract (P / 8+4) (P / 8+4+N)).size<=N:=by simp;omega
       generalize hX:s.extract (P / 8+4) (P / 8+4+N)=X at*;have HX:=ai hX;clear hX;go_wp2_with (at_builtin;refine rx rfl (.tmp 53) (.tmp 54) 66 9 rfl underlying66 underlying9 b _ out rfl hO5 X rfl (by omega) ?_)
       intro v7 w7 hO7 hb7;obtain ⟨ad7,cap7,hv7,hno7⟩:=hO7.form;clear hno7;generalize (out++X.data.toList).length=L7 at hv7;rw [hv7] at hO7 ⊢;clear hv7;have k4:=(hb7.cell (p:=zq b 4) (Zl b)).trans c4;have kf:=(hb7.frozen (p:=zq b 4) (Zl b)).trans f4;go_wp2;go_ret;refine ⟨(hb5.trans (hb7.mono (Nat.le_succ b))).setCell (ZW b) _,YB ⟨P+32+8*N,0,_,out++X.data.toList,rfl,?_,by omega,?_,hU5.grow hb7 hO7⟩⟩
       ·rw [HE.out, <-HX.out,Pm.iP]
       ·have hxl:X.data.toList.length=X.size:=by simp
        rw [ZY,hxl];omega
      ·have HE:=ai (HNo.out (YB (YB (YB (YJ (by omega))))));have hm:((Pm.ao s.data.toList (P+16) 16:Int) != 65535 - (Pm.ao s.data.toList P 16:Int))=false:=by rw [XJ];omega
       clear HNo HYes z0 z3;go_enter func236,ntmps236
       go_wp2_with fail
       refine HA.out.mono ?_;rintro e w1 ⟨rfl,hr1,ho1⟩;have hU1:=h.few ho1 hr1;have hb1:=ho1.below h.lt;clear hr1 ho1;go_wp2_with fail
       refine (bz w1 b s P 0 16 hU1.r (by omega) (by omega) hs z1).mono ?_;rintro e w2 ⟨rfl,⟨n2,hn2,hr2⟩,ho2⟩;have hU2:=hU1.few ho2 hr2;have hb2:=hb1.trans (ho2.below hU1.lt);clear hr2 ho2;go_wp2_with fail
       refine (bz w2 b s (P+16) n2 16 hU2.r hn2 (by omega) hs z2).mono ?_;rintro e w3 ⟨rfl,⟨n3,hn3,hr3⟩,ho3⟩;have hU3:=hU2.few ho3 hr3;have hb3:=hb2.trans (ho3.below hU2.lt);have hn30:n3=0:=by have:=hr3.at8;omega
       subst hn30;clear hr3 ho3 hU1 hU2 hb1 hb2;generalize Pm.ao s.data.toList (P+16) 16=M at*;generalize Pm.ao s.data.toList P 16=N at*;go_wp2_with fail
       refine (dr w3 b s _ _ N v out hU3 (by omega) hl).mono ?_;rintro e w4 ⟨rfl,z,rfl⟩;have e2:decide (out.length+N<=1048576)=true:=Zt z4;rw [e2];clear e2;have hU4:=hU3.drewN z;have hb4:=below_drewN hb3 z;clear hU3 hb3;go_wp2_with fail
       refine (qf (w3.drewN z) b s (P+16+16) N hU4.r hs (by omega) (by omega)).mono ?_;rintro e w5 ⟨rfl,hr5,ho5⟩;have hU5:=hU4.few ho5 hr5;have hb5:=hb4.trans (ho5.below hU4.lt);clear hr5 ho5 hU4 hb4;have hO5:=hU5.o;have c4:=hU5.c4;have f4:=hU5.f4;obtain ⟨ad,cap,hform,_⟩:=hO5.form;rw [hform] at c4 hO5 hU5;clear hform;have hxs:(⟨#[]⟩:ByteArray).size=0:=rfl;go_wp2_with (at_builtin;refine rx rfl (.tmp 53) (.tmp 54) 66 9 rfl underlying66 underlying9 b _ out rfl hO5 ⟨#[]⟩ rfl (by rw [hxs];omega) ?_)
       intro v7 w7 hO7 hb7;obtain ⟨ad7,cap7,hv7,hno7⟩:=hO7.form;clear hno7;generalize (out++(⟨#[]⟩:ByteArray).data.toList).length=L7 at hv7;rw [hv7] at hO7 ⊢;clear hv7;have k4:=(hb7.cell (p:=zq b 4) (Zl b)).trans c4;have kf:=(hb7.frozen (p:=zq b 4) (Zl b)).trans f4;go_wp2;go_ret;exact ⟨(hb5.trans (hb7.mono (Nat.le_succ b))).setCell (ZW b) _,YJ ⟨rfl,HE.out⟩⟩
     ·have HE:=ai (HNo.out (YB (YB (YB (YB (by omega))))));have hm:((Pm.ao s.data.toList (P+16) 16:Int) != 65535 - (Pm.ao s.data.toList P 16:Int))=false:=by rw [XJ];omega
      clear HNo HYes z0 z3;go_enter func236,ntmps236
      go_wp2_with fail
      refine HA.out.mono ?_;rintro e w1 ⟨rfl,hr1,ho1⟩;have hU1:=h.few ho1 hr1;have hb1:=ho1.below h.lt;clear hr1 ho1;go_wp2_with fail
      refine (bz w1 b s P 0 16 hU1.r (by omega) (by omega) hs z1).mono ?_;rintro e w2 ⟨rfl,⟨n2,hn2,hr2⟩,ho2⟩;have hU2:=hU1.few ho2 hr2;have hb2:=hb1.trans (ho2.below hU1.lt);clear hr2 ho2;go_wp2_with fail
      refine (bz w2 b s (P+16) n2 16 hU2.r hn2 (by omega) hs z2).mono ?_;rintro e w3 ⟨rfl,⟨n3,hn3,hr3⟩,ho3⟩;have hU3:=hU2.few ho3 hr3;have hb3:=hb2.trans (ho3.below hU2.lt);clear hr3 ho3 hU1 hU2 hb1 hb2;generalize Pm.ao s.data.toList (P+16) 16=M at*;generalize Pm.ao s.data.toList P 16=N at*;go_wp2_with fail
      refine (dr w3 b s _ _ N v out hU3 (by omega) hl).mono ?_;rintro e w4 ⟨rfl,z,rfl⟩;have e2:decide (out.length+N<=1048576)=false:=Zo z4;rw [e2];go_wp2;go_ret;exact ⟨below_drewN hb3 z,YJ ⟨rfl,HE.out⟩⟩
    ·have HE:=ai (HNo.out (YB (YB (YJ z3))));have hm:((Pm.ao s.data.toList (P+16) 16:Int) != 65535 - (Pm.ao s.data.toList P 16:Int))=true:=by rw [bne_iff_ne];omega
     clear HNo HYes z0 z3;go_enter func236,ntmps236
     go_wp2_with fail
     refine HA.out.mono ?_;rintro e w1 ⟨rfl,hr1,ho1⟩;have hb1:=ho1.below h.lt;go_wp2_with fail
     refine (bz w1 b s P 0 16 hr1 (by omega) (by omega) hs z1).mono ?_;rintro e w2 ⟨rfl,⟨n2,hn2,hr2⟩,ho2⟩;have hb2:=hb1.trans (ho2.below hr1.lt);go_wp2_with fail
     refine (bz w2 b s (P+16) n2 16 hr2 hn2 (by omega) hs z2).mono ?_;rintro e w3 ⟨rfl,_,ho3⟩;have hb3:=hb2.trans (ho3.below hr2.lt);generalize Pm.ao s.data.toList (P+16) 16=M at*;generalize Pm.ao s.data.toList P 16=N at*;go_wp2;go_ret;exact ⟨hb3,YJ ⟨rfl,HE.out⟩⟩
   ·have HE:=ai (HNo.out (YB (YJ (by omega))));clear HNo HYes z0;go_enter func236,ntmps236
    go_wp2_with fail
    refine HA.out.mono ?_;rintro e w1 ⟨rfl,hr1,ho1⟩;have hb1:=ho1.below h.lt;go_wp2_with fail
    refine (bz w1 b s P 0 16 hr1 (by omega) (by omega) hs z1).mono ?_;rintro e w2 ⟨rfl,⟨n2,hn2,hr2⟩,ho2⟩;have hb2:=hb1.trans (ho2.below hr1.lt);go_wp2_with fail
    refine (gG w2 b s (P+16) n2 16 hr2 (by omega) (by omega) hs (by omega)).mono ?_;rintro e w3 ⟨rfl,_,ho3⟩;have hb3:=hb2.trans (ho3.below hr2.lt);generalize Pm.ao s.data.toList P 16=N at*;go_wp2;go_ret;exact ⟨hb3,YJ ⟨rfl,HE.out⟩⟩
  ·have HE:=ai (HNo.out (YB (YJ (by omega))));clear HNo HYes z0;go_enter func236,ntmps236
   go_wp2_with fail
   refine HA.out.mono ?_;rintro e w1 ⟨rfl,hr1,ho1⟩;have hb1:=ho1.below h.lt;go_wp2_with fail
   refine (gG w1 b s P 0 16 hr1 (by omega) (by omega) hs (by omega)).mono ?_;rintro e w2 ⟨rfl,⟨n2,hn2,hr2⟩,ho2⟩;have hb2:=hb1.trans (ho2.below hr1.lt);go_wp2_with fail
   refine (gG w2 b s P n2 16 hr2 hn2 (by omega) hs (by omega)).mono ?_;rintro e w3 ⟨rfl,_,ho3⟩;have hb3:=hb2.trans (ho3.below hr2.lt);go_wp2;go_ret;exact ⟨hb3,YJ ⟨rfl,HE.out⟩⟩
 ·have HE:=ai (HNo.out (YJ z0));have z0':decide (Pm.ao s.data.toList p n=0)=false:=Zo z0;rw [z0'] at HAl;have HA:=ai HAl;clear HAl z0' HNo HYes z0;go_enter func236,ntmps236
  go_wp2_with fail
  refine HA.out.mono ?_;rintro e w1 ⟨rfl,hr1,ho1⟩;go_wp2;go_ret;exact ⟨ho1.below h.lt,YJ ⟨rfl,HE.out⟩⟩
theorem DR (w:World) (b:Nat) (s:ByteArray) (q n:Nat) (v:Value) (out:List UInt8) (h:PU w b s (q+1) n v out) (hn:n < 8) (hs:s.size<=140737488355328) (hq:8*s.size < q+3):
  CP 207 #[zp b] w fun e w'=>e=.returned false/\Below b w w':=by
 go_enter func207,ntmps207
 go_wp2_with fail
 refine (gG w b s (q+1) n 2 h.r (by omega) (by omega) hs (by omega)).mono ?_;rintro e w1 ⟨rfl,_,ho1⟩;go_wp2;go_ret;exact ⟨rfl,ho1.below h.lt⟩
theorem CH (w:World) (b:Nat) (s:ByteArray) (q n:Nat) (v:Value) (out:List UInt8) (h:PU w b s (q+1) n v out) (hn:n < 8) (hl:out.length<=1048576) (hs:s.size<=140737488355328) (hq:q+3<=8*s.size):
  CP 207 #[zp b] w fun e w'=>E4 w b s (Pm.ie s.data.toList q out) e w':=by
 have hlen:s.data.toList.length=s.size:=by simp
 have hK:Pm.ao s.data.toList (q+1) 2 < 4:=Pm.cJ _ _ 2;have HTake:=bz w b s (q+1) n 2 h.r hn (by omega) hs (by omega);unfold Pm.ie;generalize Pm.ao s.data.toList (q+1) 2=K at*;have HT:=ai HTake;clear HTake;rcases (show K=0\/K=1\/K=2\/K=3 from by omega) with rfl | rfl | rfl | rfl
 ·rw [ZN rfl];go_enter func207,ntmps207
  go_wp2_with fail
  refine HT.out.mono ?_;rintro e w1 ⟨rfl,⟨n1,hn1,hr1⟩,ho1⟩;have hU1:=h.few ho1 hr1;have hb1:=ho1.below h.lt;go_wp2_with fail
  refine (De w1 b s (q+3) n1 v out hU1 hn1 hl hs).mono ?_;rintro e w2 ⟨hb2,he⟩;rcases he with ⟨rfl,hr⟩ | ⟨q',n',v',o',rfl,hr,hn',ho',hU'⟩
  ·go_wp2;go_ret;exact ⟨hb1.trans hb2,YJ ⟨rfl,hr⟩⟩
  ·go_wp2;go_ret;exact ⟨hb1.trans hb2,YB ⟨q',n',v',o',rfl,hr,hn',ho',hU'⟩⟩
 ·rw [ZO (by decide),ZN rfl];go_enter func207,ntmps207
  go_wp2_with fail
  refine HT.out.mono ?_;rintro e w1 ⟨rfl,⟨n1,hn1,hr1⟩,ho1⟩;have hU1:=h.few ho1 hr1;have hb1:=ho1.below h.lt;go_wp2_with fail
  refine (BG w1 b s (q+3) n1 v out hU1 hn1 hl hs (8*s.data.toList.length+1) (by rw [hlen];omega)).mono ?_;rintro e w2 ⟨hb2,he⟩;rcases he with ⟨rfl,hr⟩ | ⟨q',n',v',o',rfl,hr,hn',ho',hU'⟩
  ·go_wp2;go_ret;exact ⟨hb1.trans hb2,YJ ⟨rfl,hr⟩⟩
  ·go_wp2;go_ret;exact ⟨hb1.trans hb2,YB ⟨q',n',v',o',rfl,hr,hn',ho',hU'⟩⟩
 ·rw [ZO (by decide),ZO (by decide)];go_enter func207,ntmps207
  go_wp2_with fail
  refine HT.out.mono ?_;rintro e w1 ⟨rfl,_,ho1⟩;go_wp2;go_ret;exact ⟨ho1.below h.lt,YJ ⟨rfl,rfl⟩⟩
 ·rw [ZO (by decide),ZO (by decide)];go_enter func207,ntmps207
  go_wp2_with fail
  refine HT.out.mono ?_;rintro e w1 ⟨rfl,_,ho1⟩;go_wp2;go_ret;exact ⟨ho1.below h.lt,YJ ⟨rfl,rfl⟩⟩
theorem zJ (w:World) (b:Nat) (s:ByteArray) (p n:Nat) (v:Value) (out:List UInt8) (h:PU w b s p n v out) (hn:n < 8) (hl:out.length<=1048576) (hs:s.size<=140737488355328) (f:Nat) (hf:8*s.size < p+f):
  CP 158 #[zp b] w fun e w'=>E4 w b s (Pm.bF s.data.toList f p out) e w':=by
 have hlen:s.data.toList.length=s.size:=by simp
 have HL:Hid (8*s.size=8*s.data.toList.length):=by show _=_;rw [hlen]
 clear hlen;generalize hres:Pm.bF s.data.toList f p out=res;have HR:=ai hres;clear hres;go_enter func158,ntmps158
 go_wp2;go_loopg [3,4] (8*s.size+2) (fun g _ _ wr=>∃ q m u o,PU wr b s q m u o/\m < 8/\Below b w wr/\o.length<=1048576/\8*s.size+1 - q<=g/\∃ f',8*s.size < q+f'/\Pm.bF s.data.toList f' q o=res)
 case atStart=>exact ⟨p,n,v,out,h,hn,ZT _ _,hl,by omega,f,hf,HR.out⟩
 case round=>
  clear hf HR h hn hl;obtain ⟨q,m,u,o,hU,hm,hb,hlo,hg,hf⟩:=hrel;have HC:=ai hf;clear hf;have hq:q<=8*s.size:=by have:=hU.r.le;omega
  by_cases hend:8*s.size < q+3
  ·have HN:=ai (Pm.tQ HL.out hq HC.out hend);clear HC;by_cases h1:8*s.size < q+1
   ·go_wp2_with fail
    refine (gG wr b s q m 1 hU.r (by omega) (by omega) hs h1).mono ?_;rintro e w1 ⟨rfl,_,ho1⟩;go_wp2;go_ret;exact ⟨hb.trans (ho1.below hU.lt),YJ ⟨rfl,HN.out⟩⟩
   ·go_wp2_with fail
    refine (bz wr b s q m 1 hU.r hm (by omega) hs (by omega)).mono ?_;rintro e w1 ⟨rfl,⟨n1,hn1,hr1⟩,ho1⟩;have hU1:=hU.few ho1 hr1;have hb1:=hb.trans (ho1.below hU.lt);generalize Pm.ao s.data.toList q 1=X at*;go_wp2_with fail
    refine (DR w1 b s q n1 u o hU1 hn1 hs hend).mono ?_;rintro e w2 ⟨rfl,hb2⟩;go_wp2;go_ret;exact ⟨hb1.trans hb2,YJ ⟨rfl,HN.out⟩⟩
  ·have hend':q+3<=8*s.size:=by omega
   have hX:Pm.ao s.data.toList q 1 < 2:=Pm.cJ _ _ 1;go_wp2_with fail
   refine (bz wr b s q m 1 hU.r hm (by omega) hs (by omega)).mono ?_;rintro e w1 ⟨rfl,⟨n1,hn1,hr1⟩,ho1⟩;have hU1:=hU.few ho1 hr1;have hb1:=hb.trans (ho1.below hU.lt);clear hU hb ho1 hr1;go_wp2_with fail
   refine (CH w1 b s q n1 u o hU1 hn1 hlo hs hend').mono ?_;rintro e w2 ⟨hb2,he⟩;rcases he with ⟨rfl,hr⟩ | ⟨q',n',v',o',rfl,hr,hn',ho',hU'⟩
   ·have HN:=ai (Pm.rG hq HC.out hr);clear HC;generalize Pm.ao s.data.toList q 1=X at*;go_wp2;go_ret;exact ⟨hb1.trans hb2,YJ ⟨rfl,HN.out⟩⟩
   ·have hqq:=(Pm.ph hr hlo).1;by_cases hx1:Pm.ao s.data.toList q 1=1
    ·have HN:=ai (Pm.rv HL.out hend' HC.out hr hx1);clear HC;generalize Pm.ao s.data.toList q 1=X at*;subst hx1;go_wp2;go_ret;exact ⟨hb1.trans hb2,YB ⟨q',n',v',o',rfl,HN.out,hn',ho',hU'⟩⟩
    ·have HN:=ai (Pm.wR HL.out hend' HC.out hr hx1 hlo);clear HC;generalize Pm.ao s.data.toList q 1=X at*;have hx0:X=0:=by omega
     subst hx0;go_wp2;go_roundg (gk - 1)
     case measure=>omega
     case rel=>exact ⟨q',n',v',o',hU',hn',hb1.trans hb2,ho',by omega,HN.out⟩
theorem Gr:∀ x:Nat,x < 256->(bits BinOp.and IntKind.u8 (x:Int) 32==0)=decide (x / 32 % 2=0):=by decide+kernel
theorem xK (s:ByteArray) (i:Nat) (h:i < s.size):s.data.toList.getD i 0=s[i]:=by
 rw [ZJ,ZM (by simpa using h)];rfl
theorem q8 (w:World) (s:ByteArray) (hs:s.size<=140737488355328):
  QE 157 #[s] w (.bool (Pm.bi s.data.toList)):=by
 have hlen:s.data.toList.length=s.size:=by simp
 unfold Pm.bi;rw [hlen];by_cases h2:s.size < 2
 ·have e1:decide (2<=s.size/\(s.data.toList.getD 0 0).toNat=120/\(30720+(s.data.toList.getD 1 0).toNat) % 31=0/\(s.data.toList.getD 1 0).toNat / 32 % 2=0)=false:=Zo (by omega);rw [e1];clear e1 hlen;go_enter func157,ntmps157
  go_wp2;go_ret;exact ⟨rfl,rfl⟩
 ·have h0:0 < s.size:=by omega
  have h1:1 < s.size:=by omega
  rw [xK s 0 h0,xK s 1 h1];have b0:s[0].toNat < 256:=s[0].toNat_lt;have b1:s[1].toNat < 256:=s[1].toNat_lt;have w1:=bY s[1];have h32:=Gr s[1].toNat b1;clear hlen;by_cases k0:s[0].toNat=120
  ·have q0:(((s[0].toNat:Nat):Int) != 120)=false:=by rw [XJ];omega
   by_cases k1:(30720+s[1].toNat) % 31=0
   ·have q1:(((30720:Int)+((s[1].toNat:Nat):Int)) % 31==0)=true:=by rw [beq_iff_eq];omega
    have e1:decide (2<=s.size/\s[0].toNat=120/\(30720+s[1].toNat) % 31=0/\s[1].toNat / 32 % 2=0)=decide (s[1].toNat / 32 % 2=0):=by
     rw [Bool.eq_iff_iff];simp only [Zh];constructor
     ·exact fun h=>h.2.2.2
     ·exact fun h=>⟨by omega,k0,k1,h⟩
    rw [e1];clear e1 k0 k1;generalize decide (s[1].toNat / 32 % 2=0)=z at*;go_enter func157,ntmps157
    go_wp2;go_ret;exact ⟨rfl,rfl⟩
   ·have q1:(((30720:Int)+((s[1].toNat:Nat):Int)) % 31==0)=false:=by rw [Ys];omega
    have e1:decide (2<=s.size/\s[0].toNat=120/\(30720+s[1].toNat) % 31=0/\s[1].toNat / 32 % 2=0)=false:=Zo (fun h=>k1 h.2.2.1);rw [e1];clear e1 k0 k1 h32;go_enter func157,ntmps157
    go_wp2;go_ret;exact ⟨rfl,rfl⟩
  ·have q0:(((s[0].toNat:Nat):Int) != 120)=true:=by rw [bne_iff_ne];omega
   have e1:decide (2<=s.size/\s[0].toNat=120/\(30720+s[1].toNat) % 31=0/\s[1].toNat / 32 % 2=0)=false:=Zo (fun h=>k0 h.2.1);rw [e1];clear e1 k0 h32;go_enter func157,ntmps157
   go_wp2;go_ret;exact ⟨rfl,rfl⟩
theorem BX (w:World) (b:Nat) (s t:ByteArray) (p:Nat) (h:PR w b s p 0) (hs:s.size<=140737488355328) (hp:s.size < p / 8+4):
  CP 160 #[zp b,t] w fun e w'=>e=.returned false/\Below b w w':=by
 go_enter func160,ntmps160
 go_wp2_with fail
 refine (qf w b s p 4 h hs (by omega) hp).mono ?_;rintro e w1 ⟨rfl,_,ho1⟩;go_wp2;go_ret;exact ⟨rfl,ho1.below h.lt⟩
theorem D5 (V:Nat) (hV:V < 4294967296) (w:World):
  (convert 66 9 (.slice w 4 4)).run prog (w.alloc (.cells #[.int .u8 ((V:Int) / 16777216),.int .u8 ((V:Int) / 65536 % 256),.int .u8 ((V:Int) / 256 % 256),.int .u8 ((V:Int) % 256)] 5))=
   .ok (.string ⟨#[UInt8.ofNat (V / 16777216),UInt8.ofNat (V / 65536),UInt8.ofNat (V / 256),UInt8.ofNat V]⟩) (w.alloc (.cells #[.int .u8 ((V:Int) / 16777216),.int .u8 ((V:Int) / 65536 % 256),.int .u8 ((V:Int) / 256 % 256),.int .u8 ((V:Int) % 256)] 5)):=by
 refine Yx _ 66 9 5 ⟨w,0,none⟩ 4 [UInt8.ofNat (V / 16777216),UInt8.ofNat (V / 65536),UInt8.ofNat (V / 256),UInt8.ofNat V] underlying66 underlying5 underlying9 ?_;intro j hj;have hadd:(⟨w,0,none⟩:Addr).add j=⟨w,j,none⟩:=by unfold Addr.add;split <;> simp_all
 rw [hadd]
 match j,hj with
 | 0,_=>simp;omega
 | 1,_=>simp
 | 2,_=>simp
 | 3,_=>simp
 | (j+4),hj=>simp at hj;omega
theorem Gv (l:List UInt8) (a:Nat) (h:a+4<=l.length):(l.drop a).take 4=[l.getD a 0,l.getD (a+1) 0,l.getD (a+2) 0,l.getD (a+3) 0]:=by
 rw [Zn (by omega),Zn (by omega),Zn (by omega),Zn (by omega)];rw [List.take_succ_cons,List.take_succ_cons,List.take_succ_cons,List.take_succ_cons,List.take_zero];rw [ZJ,ZM (show a < l.length by omega),ZJ,ZM (show a+1 < l.length by omega),
  ZJ,ZM (show a+2 < l.length by omega),ZJ,ZM (show a+3 < l.length by omega)]
 rfl
theorem Fl (l:List UInt8) (a V:Nat) (h:a+4<=l.length) (hV:V < 4294967296):
  ((l.drop a).take 4==[UInt8.ofNat (V / 16777216),UInt8.ofNat (V / 65536),UInt8.ofNat (V / 256),UInt8.ofNat V])=decide (Pm.uK l a=V):=by
 rw [Gv l a h];unfold Pm.uK;generalize l.getD a 0=x0;generalize l.getD (a+1) 0=x1;generalize l.getD (a+2) 0=x2;generalize l.getD (a+3) 0=x3;have h0:=x0.toNat_lt;have h1:=x1.toNat_lt;have h2:=x2.toNat_lt;have h3:=x3.toNat_lt;rw [Bool.eq_iff_iff];simp only [beq_iff_eq,List.cons.injEq,and_true,Zh, <-UInt8.toNat_inj,YW];omega
theorem BY (w:World) (b:Nat) (s t:ByteArray) (p:Nat) (h:PR w b s p 0) (hs:s.size<=140737488355328) (ht:t.size<=140737488355328) (hp:p / 8+4<=s.size):
  CP 160 #[zp b,t] w fun e w'=>e=.returned (.bool (decide (Pm.uK s.data.toList (p / 8)=65536*(Pm.cB t.data.toList (1,0)).2+(Pm.cB t.data.toList (1,0)).1)))/\PR w' b s (p+32) 0/\Below b w w':=by
 have hsb:=Pm.qd t.data.toList (1,0) (by decide);generalize hX:s.extract (p / 8) (p / 8+4)=X;have HX:=ai hX;have HT:=qg w b s p 4 h hs hp;rw [hX] at HT;have HT':=ai HT;clear hX HT;go_enter func160,ntmps160
 go_wp2_with fail
 refine HT'.out.mono ?_;rintro e w1 ⟨rfl,hr1,ho1⟩;have hb1:=ho1.below h.lt;go_wp2_with fail
 refine (ta w1).mono ?_;rintro e w2 ⟨rfl,hb2⟩;go_wp2_with fail
 refine (E6 (w2.alloc (.cells #[.int .u32 1,.int .u32 0] 245)) w2.heap.size 1 0 t ht (by decide) (by decide) (by simp) (by simp) (by simp) (by simp)).mono ?_;rintro e w3 ⟨rfl,d0,d1,_,_,ho3⟩;generalize hA:(Pm.cB t.data.toList (1,0)).1=A at*;generalize hB:(Pm.cB t.data.toList (1,0)).2=B at*;have HA:=ai hA;have HB:=ai hB;clear hA hB;go_wp2_with fail
 refine (uW w3 A B hsb.1 hsb.2).mono ?_;rintro e w4 ⟨rfl,hb4⟩;have hV:65536*B+A < 4294967296:=by omega
 generalize hV2:65536*B+A=V at*;have HV:=ai hV2;clear hV2;have hcv:=D5 V hV w4;go_wp2;go_ret;have hlen:s.data.toList.length=s.size:=by simp
 have z1:b+1<=w1.heap.size:=hr1.lt;have z2:w1.heap.size<=w2.heap.size:=hb2.size;have z3:w2.heap.size+1<=w3.heap.size:=by have:=ho3.size;simpa using this
 have z4:w3.heap.size<=w4.heap.size:=hb4.size;have k1:Below (b+1) w1 (w2.alloc (.cells #[.int .u32 1,.int .u32 0] 245)):=(hb2.mono z1).alloc (by omega) _;have k2:Below (b+1) w1 w3:=k1.trans ((bT.below ho3 (by simp)).mono (by omega));have k3:Below (b+1) w1 w4:=k2.trans (hb4.mono (by omega));have k4:=k3.alloc (by omega) (.cells #[.int .u8 ((V:Int) / 16777216),.int .u8 ((V:Int) / 65536 % 256),.int .u8 ((V:Int) / 256 % 256),.int .u8 ((V:Int) % 256)] 5);refine ⟨congrArg (fun z=>Ending.returned (.bool z)) ?_,?_,?_⟩
 ·rw [HA.out,HB.out,HV.out,Zm, <-HX.out,Pm.iP];exact Fl s.data.toList (p / 8) V (by omega) hV
 ·exact hr1.kept k4
 ·exact hb1.trans (k4.mono (Nat.le_succ b))
theorem PU.new (w:World) (s:ByteArray) (h2:2<=s.size):PU (w.alloc (.cells #[s,(2:Int),.int .u32 0,oz,.slice none 0 0,(1048576:Int)] 206)) w.heap.size s 16 0 (.slice none 0 0) []:=
 ⟨⟨by omega,by omega,by simp,by simp,by simp [Pm.o6],by simp,by simp,by simp,by simp⟩,by simp,by simp,by simp,gZ.nil _ _ (by simp)⟩
def GH:Option (List UInt8×Nat)->Value
 | some (o,n)=>.tuple #[.string ⟨o.toArray⟩,n,true]
 | none=>.tuple #[.string ⟨#[]⟩,oz,false]
theorem yC (w:World) (s:ByteArray) (hs:s.size<=140737488355328):
  QB 107 #[s,(1048576:Int)] w (GH (Pm.bP s.data.toList)):=by
 have hlen:s.data.toList.length=s.size:=by simp
 cases hhd:Pm.bi s.data.toList with
 | false=>
  rw [Pm.qT hhd];have HH:=q8 w s hs;rw [hhd] at HH;have HH':=ai HH;clear HH hhd;go_enter func107,ntmps107
  go_wp2_with fail
  refine HH'.out.mono ?_;rintro e w1 ⟨rfl,rfl⟩;go_wp2;go_ret3;exact ⟨rfl,ZT _ _⟩
 | true=>
  have h2:2<=s.size:=by
   unfold Pm.bi at hhd;simp only [Zh] at hhd;omega
  have HH:=q8 w s hs;rw [hhd] at HH;have HH':=ai HH;clear HH;have HN:=ai (fun hr=>Pm.rW (l:=s.data.toList) hr);have HS:=ai (fun q o hr=>Pm.iM (l:=s.data.toList) (q:=q) (o:=o) hhd hr);have HB:=ai (fun wx (hx:PU wx w.heap.size s 16 0 (.slice none 0 0) [])=>zJ wx w.heap.size s 16 0 _ [] hx (by omega) (by simp) hs (8*s.data.toList.length+1) (by rw [hlen];omega));generalize Pm.bF s.data.toList (8*s.data.toList.length+1) 16 []=res at*;generalize Pm.bP s.data.toList=ans at*;clear hhd;have HU:=ai (PU.new w s h2);go_enter func107,ntmps107
  go_wp2_with fail
  refine HH'.out.mono ?_;rintro e w1 ⟨rfl,rfl⟩;go_wp2_with fail
  refine (HB.out _ HU.out).mono ?_;rintro e w2 ⟨hb2,he⟩;have hb2':=((ZT w1.heap.size w1).alloc (ZW _) (.cells #[s,(2:Int),.int .u32 0,oz,.slice none 0 0,(1048576:Int)] 206)).trans hb2;rcases he with ⟨rfl,hr⟩ | ⟨q,n,v,o,rfl,hr,hn,ho,hU⟩
  ·have HA:=ai (HN.out hr);clear HN HS hr;go_wp2;go_ret3;exact ⟨by rw [HA.out];rfl,hb2'⟩
  ·have HT:=ai (HS.out q o hr);clear HN HS hr HB HU HH';obtain ⟨hP,hn2⟩:=hU.r.up hn;have HAl:=uq w2 w1.heap.size s q n hU.r;rw [hP] at HAl;have HTN:=ai (fun h=>HT.out.trans (Pm.vJ (l:=s.data.toList) (q:=q) (o:=o) h));have HTS:=ai (fun h1 h2 h3=>HT.out.trans (Pm.oU (l:=s.data.toList) (q:=q) (o:=o) h1 h2 h3));rw [hlen,hn2] at HTN HTS;clear HT hn2 hP;have hU8:Pm.bq q % 8=0:=by unfold Pm.bq;omega
   generalize Pm.bq q=U at*;by_cases z0:Pm.ao s.data.toList q n=0
   ·have z0':decide (Pm.ao s.data.toList q n=0)=true:=Zt z0;rw [z0'] at HAl;have HA:=ai HAl;clear HAl z0';go_wp2_with fail
    refine HA.out.mono ?_;rintro e w3 ⟨rfl,hr3,ho3⟩;have hU3:=hU.few ho3 hr3;have hb3:=hb2'.trans (ho3.below hU.lt);clear hU ho3 hr3 HA hb2 hb2';have hcv:=hU3.o.str;have c4:=hU3.c4;obtain ⟨ad,cap,hform,_⟩:=hU3.o.form;rw [hform] at c4 hcv;have hsz:(⟨o.toArray⟩:ByteArray).size=o.length:=by show o.toArray.size=_;simp
    have hdl:(⟨o.toArray⟩:ByteArray).data.toList=o:=by simp
    by_cases z1:s.size < U / 8+4
    ·have HE:=ai (HTN.out (YB (YJ z1)));have HSum:=ai (BX w3 w1.heap.size s ⟨o.toArray⟩ U hU3.r hs z1);clear HTN HTS z0 hsz hdl;go_wp2_with fail
     refine HSum.out.mono ?_;rintro e w4 ⟨rfl,hb4⟩;go_wp2;go_ret3;exact ⟨by rw [HE.out];rfl,hb3.trans hb4⟩
    ·have z2:U / 8+4<=s.size:=by omega
     have HSum:=BY w3 w1.heap.size s ⟨o.toArray⟩ U hU3.r hs (by rw [hsz];omega) z2;rw [hdl] at HSum;by_cases z3:Pm.uK s.data.toList (U / 8)=65536*(Pm.cB o (1,0)).2+(Pm.cB o (1,0)).1
     ·have HE:=ai (HTS.out z0 z2 z3);have z3':decide (Pm.uK s.data.toList (U / 8)=65536*(Pm.cB o (1,0)).2+(Pm.cB o (1,0)).1)=true:=Zt z3;rw [z3'] at HSum;have HSum':=ai HSum;clear HSum z3 z3' HTN HTS z0 hsz hdl;go_wp2_with fail
      refine HSum'.out.mono ?_;rintro e w4 ⟨rfl,hr4,hb4⟩;have c1:=hr4.c1;have e8:(U+32+0) / 8=U / 8+4:=by omega
      rw [e8] at c1;clear e8 c4 hcv;generalize U / 8+4=T at*;go_wp2;go_quiet (fail)
      go_wp2;go_ret3;exact ⟨by rw [HE.out];rfl,below_drewN (hb3.trans hb4) _⟩
     ·have HE:=ai (HTN.out (YB (YB z3)));have z3':decide (Pm.uK s.data.toList (U / 8)=65536*(Pm.cB o (1,0)).2+(Pm.cB o (1,0)).1)=false:=Zo z3;rw [z3'] at HSum;have HSum':=ai HSum;clear HSum z3 z3' HTN HTS z0 hsz hdl;go_wp2_with fail
      refine HSum'.out.mono ?_;rintro e w4 ⟨rfl,_,hb4⟩;go_wp2;go_ret3;exact ⟨by rw [HE.out];rfl,hb3.trans hb4⟩
   ·have HE:=ai (HTN.out (YJ z0));have z0':decide (Pm.ao s.data.toList q n=0)=false:=Zo z0;rw [z0'] at HAl;have HA:=ai HAl;clear HAl z0' HTN HTS z0;go_wp2_with fail
    refine HA.out.mono ?_;rintro e w3 ⟨rfl,_,ho3⟩;go_wp2;go_ret3;exact ⟨by rw [HE.out];rfl,hb2'.trans (ho3.below hU.lt)⟩
end Go.Proofs.YtbklfkpjoinofaaGreatDoor
