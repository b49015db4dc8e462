import Derived.Test.YtbklfkpjoinofaaGreatDoorA03
import Derived.Laws.CopyOwn
set_option linter.all false
set_option maxRecDepth 100000
set_option maxHeartbeats 8000000
namespace Go.Proofs.YtbklfkpjoinofaaGreatDoor
open Go.RowKit Go.Proofs.Tryz
theorem tT (m W:Nat) (hW:W<=16) (hm:m < 65536):bits .and .i64 (m:Int) ((2:Int) ^ W - 1)=((m % 2 ^ W:Nat):Int):=by
 have hF:2 ^ W<=65536:=ZN (YX (by decide) hW) (by decide);have h0:=YH W;have e1:((2:Int) ^ W - 1)=((2 ^ W - 1:Nat):Int):=by
  have e2:(2:Int) ^ W=((2 ^ W:Nat):Int):=by push_cast;rfl
  rw [e2];omega
 rw [e1];have key:(BitVec.ofInt 64 (m:Int)&&& BitVec.ofInt 64 ((2 ^ W - 1:Nat):Int)).toNat=m % 2 ^ W:=by
  have a1:(BitVec.ofInt 64 (m:Int)).toNat=m:=by rw [Xo];omega
  have a2:(BitVec.ofInt 64 ((2 ^ W - 1:Nat):Int)).toNat=2 ^ W - 1:=by rw [Xo];omega
  rw [BitVec.toNat_and,a1,a2,XN]
 show IntKind.i64.wrap ((BitVec.ofInt 64 (m:Int)&&& BitVec.ofInt 64 ((2 ^ W - 1:Nat):Int)).toNat:Nat)=_
 rw [key];have:=Yl m h0;exact Xl _ (by omega)
theorem rz (m W:Nat) (hW:W<=16) (hm:m < 65536):bits .and .i64 (m:Int) (wrap64 (wrap64 (2 ^ W) - 1))=((m % 2 ^ W:Nat):Int):=by
 have hF:2 ^ W<=65536:=ZN (YX (by decide) hW) (by decide);have h0:=YH W;have e2:(2:Int) ^ W=((2 ^ W:Nat):Int):=by push_cast;rfl
 have e3:wrap64 ((2:Int) ^ W)=(2:Int) ^ W:=by rw [e2];exact YS _ (by omega)
 have e4:wrap64 ((2:Int) ^ W - 1)=(2:Int) ^ W - 1:=by rw [e2];exact YS _ (by omega)
 rw [e3,e4];exact tT m W hW hm
theorem rm (K m W:Nat) (hK:K<=1000) (hm:m < 65536):wrap64 ((K:Int)+(m:Int) / 2 ^ W)=((K+m / 2 ^ W:Nat):Int):=by
 have e:(m:Int) / 2 ^ W=((m / 2 ^ W:Nat):Int):=by push_cast;rfl
 have h:=Nat.div_le_self m (2 ^ W);rw [e];generalize m / 2 ^ W=D at*;rw [YS _ (by omega)];omega
theorem Bi:∀ m:Nat,m < 256->8<=m->4<=Pm.bl 16 m/\Pm.bl 16 m<=8:=by decide+kernel
theorem nK (w:World) (n:Nat) (h1:3<=n) (h2:n<=258):
  QD 232 #[n] w (.tuple #[((Pm.bN n).1:Nat),((Pm.bN n).2.1:Nat),((Pm.bN n).2.2:Nat)]):=by
 by_cases h:n=258
 ·subst h;have e:Pm.bN 258=(285,0,0):=by decide
  rw [e];go_enter func232,ntmps232
  go_wp2;go_ret3;exact ⟨rfl,0,rfl⟩
 ·have hq:((n:Int)==258)=false:=by rw [Xy];omega
  by_cases h8:n - 3 < 8
  ·have e:Pm.bN n=(257+(n - 3),0,0):=by unfold Pm.bN;rw [ZU h,ZO h8]
   rw [e];clear e;go_enter func232,ntmps232
   go_wp2;go_ret3;exact ⟨lX (by first | omega | (simp;omega)) rfl rfl,0,rfl⟩
  ·have e:Pm.bN n=(257+4*(Pm.bl 16 (n - 3) - 3)+(n - 3) / 2 ^ (Pm.bl 16 (n - 3) - 3),(n - 3) % 2 ^ (Pm.bl 16 (n - 3) - 3),Pm.bl 16 (n - 3) - 3):=by unfold Pm.bN;rw [ZU h,ZU h8]
   rw [e];clear e;have hb:=Bi (n - 3) (by omega) (by omega);have HLen:=aa (fun wx=>uC wx (n - 3) (by omega));generalize hm:n - 3=m at*;have hnm:(n:Int) - 3=(m:Int):=by omega
   have HM:Hid (n=m+3):=by show _=_;omega
   generalize Pm.bl 16 m=L at*;obtain ⟨W,rfl⟩:∃ W,L=W+3:=⟨L - 3,by omega⟩;have hW:W+3 - 3=W:=by omega
   rw [hW];have HA:=aa (rz m W (by omega) (by omega));have HC:=aa (rm (257+4*W) m W (by omega) (by omega));clear hm hW;go_enter func232,ntmps232
   go_wp2_with fail
   refine (HLen.out _).mono ?_;rintro e w1 ⟨rfl,rfl⟩;go_wp2;go_quiet (fail)
   go_wp2;go_ret3;refine ⟨lX ?_ HA.out rfl,_,rfl⟩;have:=HC.out
   push_cast at this ⊢
   exact this
theorem A_ (f m:Nat):Pm.bl f m<=f:=by
 induction f generalizing m with
 | zero=>simp [Pm.bl]
 | succ f ih=>
  rw [Pm.bl];split
  ·omega
  ·have:=ih (m / 2);omega
theorem AM (m:Nat) (h:4<=m):3<=Pm.bl 16 m:=by
 rw [eA 15 m (by omega),eA 14 _ (by omega),eA 13 _ (by omega)];omega
theorem kM (w:World) (d:Nat) (h1:1<=d) (h2:d<=32768):
  QD 233 #[d] w (.tuple #[((Pm.bB d).1:Nat),((Pm.bB d).2.1:Nat),((Pm.bB d).2.2:Nat)]):=by
 by_cases h8:d - 1 < 4
 ·have e:Pm.bB d=(d - 1,0,0):=by unfold Pm.bB;rw [ZO h8]
  rw [e];clear e;go_enter func233,ntmps233
  go_wp2;go_ret3;exact ⟨lX (by first | omega | (simp;omega)) rfl rfl,0,rfl⟩
 ·have e:Pm.bB d=(2*(Pm.bl 16 (d - 1) - 2)+(d - 1) / 2 ^ (Pm.bl 16 (d - 1) - 2),(d - 1) % 2 ^ (Pm.bl 16 (d - 1) - 2),Pm.bl 16 (d - 1) - 2):=by unfold Pm.bB;rw [ZU h8]
  rw [e];clear e;have hb1:=AM (d - 1) (by omega);have hb2:=A_ 16 (d - 1);have HLen:=aa (fun wx=>uC wx (d - 1) (by omega));generalize hm:d - 1=m at*;have hnm:(d:Int) - 1=(m:Int):=by omega
  generalize Pm.bl 16 m=L at*;obtain ⟨W,rfl⟩:∃ W,L=W+2:=⟨L - 2,by omega⟩;have hW:W+2 - 2=W:=by omega
  rw [hW];have HA:=aa (rz m W (by omega) (by omega));have HC:=aa (rm (2*W) m W (by omega) (by omega));have hm8:4<=m:=by omega
  have hm9:m < 32768:=by omega
  clear hm hW;go_enter func233,ntmps233
  go_wp2_with fail
  refine (HLen.out _).mono ?_;rintro e w1 ⟨rfl,rfl⟩;go_wp2;go_quiet (fail)
  go_wp2;go_ret3;refine ⟨lX ?_ HA.out rfl,_,rfl⟩;have:=HC.out
  push_cast at this ⊢
  exact this
def BK (w:World) (P base:Nat) (vf:Value) (F:List UInt8) (H n:Nat) (v k:Nat) (w':World):Prop:=
 ∃ vf' F' H' n',BW w' P base vf' F' H' n'/\n' < 8/\dt F' H'=dt F H+v*2 ^ (8*F.length+n)/\8*F'.length+n'=8*F.length+n+k/\cd P vf w vf' w'
theorem lp (w:World) (P base:Nat) (vf:Value) (F:List UInt8) (H n v k:Nat) (h:BW w P base vf F H n) (hP:P < w.heap.size) (hn:n < 8) (hk:k < 10) (hv:v < 2 ^ k) (hF:F.length<=50000000):
  CP 234 #[zq P 1,v,k] w fun e w'=>e=.returned (.tuple #[])/\BK w P base vf F H n (Pm.ee k v) k w':=by
 have hv5:v < 512:=ZR hv (ZN (YX (by decide) (show k<=9 by omega)) (by decide));have hr:=(Pm.je k hk v hv5 hv).2;go_enter func234,ntmps234
 go_wp2_with fail
 refine (oA w v k hk hv).mono ?_;rintro e w1 ⟨rfl,z,rfl⟩;go_wp2_with fail
 refine (eU (w.drewN z) P base vf F H n _ k (h.drewN z) hP hn hr (by omega) hF).mono ?_;rintro e w2 ⟨rfl,vf',F',H',n',b1,b2,b3,b4,b5⟩;go_wp2;go_end0;exact ⟨rfl,vf',F',H',n',b1,b2,b3,b4,((cd.refl P vf w).drewN z).trans b5⟩
theorem fR (w:World) (P base:Nat) (vf:Value) (F:List UInt8) (H n c:Nat) (h:BW w P base vf F H n) (hP:P < w.heap.size) (hn:n < 8) (hc:c < 288) (hF:F.length<=50000000):
  CP 201 #[zp P,c] w fun e w'=>e=.returned (.tuple #[])/\BK w P base vf F H n (Pm.sb c) (Pm.aI c).2 w':=by
 have hs:=Pm.dY c hc;unfold Pm.sb;go_enter func201,ntmps201
 go_wp2_with fail
 refine (mU w c hc).mono ?_;rintro e w1 ⟨rfl,rfl⟩;go_wp2_with fail
 refine (lp _ P base vf F H n _ _ h hP hn (by omega) hs.1 hF).mono ?_;rintro e w2 ⟨rfl,hp⟩;go_wp2;go_end0;exact ⟨rfl,hp⟩
theorem yt (w:World) (P base:Nat) (vf:Value) (F:List UInt8) (H n:Nat) (h:BW w P base vf F H n) (hP:P < w.heap.size) (hn:n < 8) (hF:F.length<=50000000):
  CP 202 #[zq P 1] w fun e w'=>e=.returned (.tuple #[])/\BK w P base vf F H n 0 ((8 - n) % 8) w':=by
 have c3:=h.c3;by_cases h0:n=0
 ·subst h0;go_enter func202,ntmps202
  go_wp2;go_end0;exact ⟨rfl,vf,F,H,0,h,by omega,by simp,by omega,cd.refl P vf w⟩
 ·have e8:(8 - n) % 8=8 - n:=by omega
  rw [e8];obtain ⟨k,hk⟩:∃ k,k=8 - n:=⟨_,rfl⟩;have HP:=aa (fun wx (hx:BW wx P base vf F H n) (hp:P < wx.heap.size)=>eU wx P base vf F H n 0 k hx hp hn (YH k) (by omega) hF);have e9:(8:Int) - (n:Int)=(k:Int):=by omega
  rw [<-hk];clear hk e8;go_enter func202,ntmps202
  go_wp2_with fail
  refine (HP.out _ h hP).mono ?_;rintro e w2 ⟨rfl,hp⟩;go_wp2;go_end0;exact ⟨rfl,hp⟩
structure PW (w:World) (P base:Nat) (vw vs:Value) (W:List UInt8) (Sn:List Int) (at_ gone:Nat):Prop where
 c6:w.cell? (zq P 6)=some vw
 c7:w.cell? (zq P 7)=at_
 c8:w.cell? (zq P 8)=gone
 c9:w.cell? (zq P 9)=some vs
 f7:w.frozen? (zq P 7)=false
 ow:w.ownsRow base 5 1 vw W.length (bo W)
 os:w.ownsRow base 3 1 vs 4096 (Sn.map (Value.int .i64))
 nw:vw.ownBlock≠some P
 ns:vs.ownBlock≠some P
 hP:P < w.heap.size
theorem PW.drewN {w:World} {P base:Nat} {vw vs:Value} {W:List UInt8} {Sn:List Int} {at_ gone:Nat} (h:PW w P base vw vs W Sn at_ gone) (q:Nat):PW (w.drewN q) P base vw vs W Sn at_ gone:=⟨h.c6,h.c7,h.c8,h.c9,h.f7,h.ow,h.os,h.nw,h.ns,h.hP⟩
theorem jJ {w:World} {base:Nat} {v:Value} {l:List UInt8} (h:w.ownsRow base 5 1 v l.length (bo l)) (hn:0 < l.length):
  ∃ g cap,v=.slice (zp g) l.length cap/\l.length<=cap/\base<=g/\(∀ i,i < l.length->w.cell? (zq g i)=some (.int .u8 ((l.getD i 0).toNat:Nat))):=by
 rcases h.2 with ⟨_,h0⟩ | ⟨g,cap,cur,rfl,hb,hg,hle,_⟩
 ·omega
 ·refine ⟨g,cap,rfl,hle,hb,fun i hi=>?_⟩;have hx:(bo l)[i]? =some (.int .u8 ((l.getD i 0).toNat:Nat)):=by
   simp [bo,ZK hi]
  have:=h.cells (g:=g) rfl i _ hx;have hadd:(⟨g,0,none⟩:Addr).add i=⟨g,i,none⟩:=by unfold Addr.add;split <;> simp_all
  rwa [hadd] at this
def Ah (b0 b1 b2 b3:UInt8):Int:=bits BinOp.or IntKind.u32 (bits BinOp.or IntKind.u32 (bits BinOp.or IntKind.u32 (b0.toNat:Int) ((b1.toNat:Int)*256)) ((b2.toNat:Int)*65536)) ((b3.toNat:Int)*16777216)*2654435761 % 4294967296 / 1048576
def iG (W:List UInt8) (i:Nat):Nat:=(Ah (W.getD i 0) (W.getD (i+1) 0) (W.getD (i+2) 0) (W.getD (i+3) 0)).toNat
theorem yu (b0 b1 b2 b3:UInt8):0<=Ah b0 b1 b2 b3/\Ah b0 b1 b2 b3 < 4096:=by unfold Ah;omega
theorem uG (W:List UInt8) (i:Nat):iG W i < 4096:=by
 have:=yu (W.getD i 0) (W.getD (i+1) 0) (W.getD (i+2) 0) (W.getD (i+3) 0);unfold iG;omega
theorem uQ (w:World) (P base:Nat) (vw vs:Value) (W:List UInt8) (Sn:List Int) (at_ gone i:Nat) (h:PW w P base vw vs W Sn at_ gone) (hi:i+4<=W.length) (hW:W.length<=10000000):
  QD 265 #[zp P,i] w (iG W i:Nat):=by
 have c6:=h.c6;unfold iG;obtain ⟨g,cap,hv,hle,hb,hcell⟩:=jJ h.ow (by omega);have hcm:cap<=9223372036854775807:=by
  rcases h.ow.2 with ⟨_,h0⟩ | ⟨g',cap',cur,hv',_,_,_,hcm,_⟩
  ·omega
  ·rw [hv] at hv';cases hv';exact hcm
 subst hv;have k0:=hcell i (by omega);have k1:=hcell (i+1) (by omega);have k2:=hcell (i+2) (by omega);have k3:=hcell (i+3) (by omega);clear hcell;generalize W.getD i 0=b0 at*;generalize W.getD (i+1) 0=b1 at*;generalize W.getD (i+2) 0=b2 at*;generalize W.getD (i+3) 0=b3 at*;have h4:i+4 - i=4:=by omega
 have hx0:=b0.toNat_lt;have hx1:=b1.toNat_lt;have hx2:=b2.toNat_lt;have hx3:=b3.toNat_lt;go_enter func265,ntmps265
 go_wp2;go_quiet (fail)
 go_wp2;go_ret;refine ⟨bI ?_,_,rfl⟩;have:=yu b0 b1 b2 b3;rw [Xv this.1];rfl
theorem ints_at {w:World} {base:Nat} {v:Value} {n:Nat} {Sn:List Int} (h:w.ownsRow base 3 1 v n (Sn.map (Value.int .i64))) (hn:0 < n):
  ∃ g cap,v=.slice (zp g) n cap/\base<=g/\(∀ i,i < n->w.cell? (zq g i)=some (.int .i64 (Sn.getD i 0))):=by
 have hl:Sn.length=n:=by have:=h.1;simpa using this
 rcases h.2 with ⟨_,h0⟩ | ⟨g,cap,cur,rfl,hb,_⟩
 ·omega
 ·refine ⟨g,cap,rfl,hb,fun i hi=>?_⟩;have hx:(Sn.map (Value.int .i64))[i]? =some (.int .i64 (Sn.getD i 0)):=by
   simp [ZK (show i < Sn.length by omega)]
  have:=h.cells (g:=g) rfl i _ hx;have hadd:(⟨g,0,none⟩:Addr).add i=⟨g,i,none⟩:=by unfold Addr.add;split <;> simp_all
  rwa [hadd] at this
theorem oS {P:Program} {f:FuncId} {args:Array Value} {w:World} {x:Nat} {v:Value} (h:Calls P f args (w.drewN (1+x)) fun e w'=>e=.returned v/\∃ q,w'=(w.drewN (1+x)).drewN q):
  Calls P f args (w.drewN (1+x)) fun e w''=>e=.returned v/\∃ n,w''=w.drewN (1+n):=
 h.mono fun _ _ ⟨he,m,hm⟩=>⟨he,x+m,by rw [hm,World.drewN_drewN,Zn]⟩
def Found (W:List UInt8) (at_ L D:Nat):Prop:=
 (L=0/\D=0)\/(4<=L/\L<=258/\at_+L<=W.length/\1<=D/\D<=32768/\D<=at_/\∀ j,j < L->W.getD (at_+j - D) 0=W.getD (at_+j) 0)
def tg (W:List UInt8) (i d:Nat):Nat->Nat
 | 0=>0
 | M+1=>if W.getD (i - d) 0=W.getD i 0 then tg W (i+1) d M+1 else 0
theorem Ap (W:List UInt8) (d k:Nat):∀ (i M:Nat),k<=M->(∀ j,j < k->W.getD (i+j - d) 0=W.getD (i+j) 0)->(k=M\/¬ W.getD (i+k - d) 0=W.getD (i+k) 0)->tg W i d M=k:=by
 induction k with
 | zero=>
  intro i M _ _ h
  cases M with
  | zero=>rfl
  | succ M=>
   rcases h with h | h
   ·cases h
   ·rw [tg,ZU (by simpa using h)]
 | succ k ih=>
  intro i M hM hall h;obtain ⟨M,rfl⟩:∃ m,M=m+1:=⟨M - 1,by omega⟩;rw [tg,ZO (by simpa using hall 0 (by omega)),ih (i+1) M (by omega)]
  ·intro j hj;have:=hall (j+1) (by omega);rw [show i+1+j=i+(j+1) by omega];exact this
  ·rcases h with h | h
   ·left;omega
   ·right;rw [show i+1+k=i+(k+1) by omega];exact h
def pl (W:List UInt8) (at_ gone M:Nat) (Z:Int):Nat×Nat:=
 if Z - 1 < 0 then (0,0) else if 32768 < (gone:Int)+(at_:Int) - (Z - 1) then (0,0)
 else if tg W at_ ((gone:Int)+(at_:Int) - (Z - 1)).toNat M < 4 then (0,0) else (tg W at_ ((gone:Int)+(at_:Int) - (Z - 1)).toNat M,((gone:Int)+(at_:Int) - (Z - 1)).toNat)
def fN (W:List UInt8) (Sn:List Int) (at_ gone:Nat):Nat×Nat:=if min 258 (W.length - at_) < 4 then (0,0) else pl W at_ gone (min 258 (W.length - at_)) (Sn.getD (iG W at_) 0)
theorem yr {W:List UInt8} {at_ gone M:Nat} {Z:Int} {D k:Nat} (h1:0<=Z - 1) (h2:(gone:Int)+(at_:Int) - (Z - 1)=(D:Int)) (h3:D<=32768) (hm:tg W at_ D M=k):pl W at_ gone M Z=if k < 4 then (0,0) else (k,D):=by
 unfold pl;rw [ZU (by omega),ZU (by omega),h2,Int.toNat_natCast,hm]
def yq (W:List UInt8) (at_ gone M L:Nat) (Z:Int):Prop:=
 ∀ d:Nat,(gone:Int)+(at_:Int) - (Z - 1)=(d:Int)->1<=Z->d<=32768->(∀ j,j < M->W.getD (at_+j - d) 0=W.getD (at_+j) 0)->L=M
theorem vj (w:World) (P g cap gs caps:Nat) (W:List UInt8) (at_ gone M K N4:Nat) (Z:Int) (ha:at_ < W.length) (hW:W.length<=10000000) (hg:gone<=10000000) (hgo:gone=0\/32768<=at_)
  (c6:w.cell? (zq P 6)=some (.slice g W.length cap))
  (c7:w.cell? (zq P 7)=at_)
  (c8:w.cell? (zq P 8)=gone)
  (c9:w.cell? (zq P 9)=some (.slice gs N4 caps))
  (hcell:∀ i,i < W.length->w.cell? (zq g i)=some (.int .u8 ((W.getD i 0).toNat:Nat)))
  (ks:w.cell? (zq gs K)=Z) (hK:K < N4) (hN1:N4<=10000) (hZ1:0<=Z) (hZ2:Z<=(gone:Int)+(at_:Int))
  (hM1:M<=258) (hM2:at_+M<=W.length) (hM4:4<=M)
  (hcase:(258<=W.length - at_/\258<=M)\/(W.length - at_ < 258/\W.length<=at_+M))
  (hz:Z - 1 < 0\/(0<=Z - 1/\32768 < (gone:Int)+(at_:Int) - (Z - 1))\/(0<=Z - 1/\(gone:Int)+(at_:Int) - (Z - 1)<=32768/\(gone:Int)+(at_:Int) - (Z - 1)<=(at_:Int)))
  (HKey:Hid (∀ q:Nat,CP 265 #[zp P,at_] (w.drewN q) fun e w'=>e=.returned K/\∃ z,w'=(w.drewN q).drewN z)):
  CP 230 #[zp P] w fun e w'=>∃ L D:Nat,e=.returned (.tuple #[L,D])/\Found W at_ L D/\yq W at_ gone M L Z/\(L,D)=pl W at_ gone M Z/\∃ q,w'=w.drewN q:=by
 rcases hcase with ⟨hA,hA2⟩ | ⟨hA,hA2⟩
 all_goals
  go_enter func230,ntmps230
  go_wp2;go_region
  go_wp2;go_quiet ((go_at_call 265;first | exact oS (HKey.out _) | exact Calls.quiet_of (HKey.out _)))
  go_wp2;go_quiet (fail)
  rcases hz with hz | hz | ⟨hz1,hz2,hz3⟩
  ·go_wp2;go_ret2;exact ⟨0,0,rfl,Zg ⟨rfl,rfl⟩,fun d _ _ _ _=>by omega,by unfold pl;rw [ZO hz],_,rfl⟩
  ·go_wp2;go_ret2;exact ⟨0,0,rfl,Zg ⟨rfl,rfl⟩,fun d _ _ _ _=>by omega,by unfold pl;rw [ZU (by omega),ZO hz.2],_,rfl⟩
  ·obtain ⟨D,hD⟩:∃ D:Nat,(gone:Int)+(at_:Int) - (Z - 1)=(D:Int):=⟨((gone:Int)+(at_:Int) - (Z - 1)).toNat,by omega⟩;have hD1:1<=D/\D<=32768/\D<=at_:=by omega
   have HDe:=aa hD;go_wp2;clear hD hz2 hz3;go_loopg [7] 259 (fun g i wr=>∃ k:Nat,k<=M/\M - k < g/\i=.int .i64 k/\(∃ q,wr=w.drewN q)/\Hid (∀ j,j < k->W.getD (at_+j - D) 0=W.getD (at_+j) 0))
   case atStart=>exact ⟨0,by omega,by omega,rfl,⟨_,rfl⟩,fun j hj=>absurd hj (Nat.not_lt_zero j)⟩
   case round=>
    obtain ⟨k,hk1,hk2,rfl,⟨q,rfl⟩,HJ⟩:=hrel;have HStep:=aa (fun (hx:W.getD (at_+k - D) 0=W.getD (at_+k) 0) (j:Nat) (hj:j < k+1)=>if hjk:j < k then HJ.out j hjk else (show j=k by omega) ▸ hx);have HEnd:Hid (4<=k->Found W at_ k D):=fun h4=>Zo ⟨h4,by omega,by omega,hD1.1,hD1.2.1,hD1.2.2,HJ.out⟩
    have HMl:=aa (fun (hm:k=M\/¬ W.getD (at_+k - D) 0=W.getD (at_+k) 0)=>yr (W:=W) (M:=M) hz1 HDe.out hD1.2.1 (Ap W D k at_ M hk1 HJ.out hm));clear HJ;by_cases hkM:k < M
    ·obtain ⟨I,hI⟩:∃ I,I=at_+k - D:=⟨_,rfl⟩;have eI:(at_:Int)+(k:Int) - (D:Int)=(I:Int):=by omega
     have kI:=hcell I (by omega);have kJ:=hcell (at_+k) (by omega);have hIl:I < W.length:=by omega
     have hi1:(k:Int) < 258:=by omega
     have hi2:(k:Int) < (W.length:Int) - (at_:Int):=by omega
     have hd1:decide ((k:Int) < 258)=true:=YR hi1;have hd2:decide ((k:Int) < (W.length:Int) - (at_:Int))=true:=YR hi2;rw [<-hI] at HStep;have HI:=aa hI;clear hI hcell;by_cases hq:(W.getD I 0).toNat=(W.getD (at_+k) 0).toNat
     ·clear HMl;have HS2:=aa (HStep.out (UInt8.toNat_inj.mp hq));clear HStep HEnd;rw [hq] at kI;generalize (W.getD (at_+k) 0).toNat=x at*;clear hq;go_wp2;go_quiet (fail)
      go_wp2;go_roundg (gk - 1)
      case measure=>omega
      case rel=>exact ⟨k+1,by omega,by omega,by go_num,⟨_,rfl⟩,HS2⟩
     ·have HMk:=aa (HMl.out (Zo (by rw [<-HI.out];exact fun h=>hq (congrArg UInt8.toNat h))));clear HMl;have HNo:Hid (∀ L,yq W at_ gone M L Z):=by
       intro L d hd1 _ _ hall;have e1:d=D:=by have:=HDe.out;omega
       have h1:=hall k hkM;rw [e1, <-HI.out] at h1;exact absurd (congrArg UInt8.toNat h1) hq
      clear HStep;generalize (W.getD I 0).toNat=y at*;generalize (W.getD (at_+k) 0).toNat=x at*;go_wp2;go_quiet (fail)
      by_cases h4:k < 4
      ·go_wp2;go_ret2;exact ⟨0,0,rfl,Zg ⟨rfl,rfl⟩,HNo.out 0,by rw [HMk.out,ZO h4],_,rfl⟩
      ·go_wp2;go_ret2;exact ⟨k,D,rfl,HEnd.out (by omega),HNo.out k,by rw [HMk.out,ZU h4],_,rfl⟩
    ·clear HStep hcell
     first
      | have hd:decide ((k:Int) < 258)=false:=Zf (by omega)
      | have hd:decide ((k:Int) < (W.length:Int) - (at_:Int))=false:=Zf (by omega)
     go_wp2;go_quiet (fail)
     go_wp2;go_ret2;exact ⟨k,D,rfl,HEnd.out (by omega),fun _ _ _ _ _=>by omega,by rw [HMl.out (Zg (by omega)),ZU (by omega)],_,rfl⟩
theorem yK (w:World) (P g cap:Nat) (W:List UInt8) (at_ M:Nat) (ha:at_ < W.length) (hW:W.length<=10000000)
  (c6:w.cell? (zq P 6)=some (.slice g W.length cap))
  (c7:w.cell? (zq P 7)=at_)
  (eM:min (258:Int) ((W.length:Int) - (at_:Int))=(M:Int)) (h4:M < 4):
  CP 230 #[zp P] w fun e w'=>∃ L D:Nat,e=.returned (.tuple #[L,D])/\Found W at_ L D/\(L=0/\D=0)/\∃ q,w'=w.drewN q:=by
 go_enter func230,ntmps230
 go_wp2;go_region
 go_wp2;go_ret2;exact ⟨0,0,rfl,Zg ⟨rfl,rfl⟩,⟨rfl,rfl⟩,1,rfl⟩
theorem xx (w:World) (P base:Nat) (vw vs:Value) (W:List UInt8) (Sn:List Int) (at_ gone:Nat) (h:PW w P base vw vs W Sn at_ gone) (ha:at_ < W.length) (hW:W.length<=10000000) (hg:gone<=10000000) (hgo:gone=0\/32768<=at_)
  (hS:∀ j,j < 4096->0<=Sn.getD j 0/\Sn.getD j 0<=(gone+at_:Nat)):
  CP 230 #[zp P] w fun e w'=>∃ L D:Nat,e=.returned (.tuple #[L,D])/\Found W at_ L D/\(4<=min 258 (W.length - at_)->yq W at_ gone (min 258 (W.length - at_)) L (Sn.getD (iG W at_) 0))/\(L,D)=fN W Sn at_ gone/\∃ q,w'=w.drewN q:=by
 obtain ⟨g,cap,hv,hle,hb,hcell⟩:=jJ h.ow (by omega);obtain ⟨gs,caps,hvs,hbs,hcs⟩:=ints_at h.os (by omega);by_cases h4:min 258 (W.length - at_) < 4
 ·refine (yK w P g cap W at_ (min 258 (W.length - at_)) ha hW (hv ▸ h.c6) h.c7 (by omega) h4).mono ?_;rintro e w' ⟨L,D,he,hf,⟨h0,h00⟩,hq⟩;exact ⟨L,D,he,hf,fun h=>by omega,by unfold fN;rw [ZO h4,h0,h00],hq⟩
 ·have hK:=uG W at_;have hsn:=hS (iG W at_) hK;refine (vj w P g cap gs caps W at_ gone (min 258 (W.length - at_)) (iG W at_) 4096 (Sn.getD (iG W at_) 0) ha hW hg hgo (hv ▸ h.c6) h.c7 h.c8 (hvs ▸ h.c9) hcell (hcs _ hK) hK (by omega) hsn.1 (by have:=hsn.2;omega) (by omega) (by omega) (by omega) (by omega) (by have:=hsn.2;omega)
   (fun q=>uQ (w.drewN q) P base vw vs W Sn at_ gone at_ (h.drewN q) (by omega) hW)).mono ?_
  rintro e w' ⟨L,D,he,hf,hfu,hx,hq⟩;exact ⟨L,D,he,hf,fun _=>hfu,by unfold fN;rw [ZU h4];exact hx,hq⟩
structure cF (P:Nat) (vs:Value) (w w':World):Prop where
 os:w'.os=w.os
 tape:w'.tape=w.tape
 output:w'.output=w.output
 size:w.heap.size<=w'.heap.size
 keep:∀ k,k < w.heap.size->k≠P->some k≠vs.ownBlock->w'.heap[k]? =w.heap[k]?
 cell:∀ o,o≠7->w'.cell? (zq P o)=w.cell? (zq P o)
 frz:∀ o,w'.frozen? (zq P o)=w.frozen? (zq P o)
theorem cF.refl (P:Nat) (vs:Value) (w:World):cF P vs w w:=⟨rfl,rfl,rfl,ZX _,fun _ _ _ _=>rfl,fun _ _=>rfl,fun _=>rfl⟩
theorem cF.drew {P:Nat} {vs:Value} {w w':World} (h:cF P vs w w'):cF P vs w w'.drew:=⟨h.os,h.tape,h.output,h.size,h.keep,h.cell,h.frz⟩
theorem cF.drewN {P:Nat} {vs:Value} {w w':World} (h:cF P vs w w') (q:Nat):cF P vs w (w'.drewN q):=⟨h.os,h.tape,h.output,h.size,h.keep,h.cell,h.frz⟩
theorem cF.at {P:Nat} {vs:Value} {w w':World} (h:cF P vs w w') (x:Value):cF P vs w (w'.setCell (zq P 7) x):=by
 refine ⟨h.os,h.tape,h.output,by have:=h.size;simpa [World.setCell] using this,?_,?_,?_⟩
 ·intro k hk hP hv;rw [YP _ _ _ _ hP];exact h.keep k hk hP hv
 ·intro k a;rw [ZT _ _ _ _ (by intro e;cases e;omega)];exact h.cell k a
 ·intro k;rw [ZG];exact h.frz k
theorem cF.seen {P gs n cap:Nat} {w w':World} (h:cF P (.slice gs n cap) w w') (hne:gs≠P) (j:Nat) (x:Value):cF P (.slice gs n cap) w (w'.setCell (zq gs j) x):=by
 refine ⟨h.os,h.tape,h.output,by have:=h.size;simpa [World.setCell] using this,?_,?_,?_⟩
 ·intro k hk hP hv;rw [YP _ _ _ _ (by intro e;exact hv (by simp [Value.ownBlock,e]))];exact h.keep k hk hP hv
 ·intro k a;rw [ZT _ _ _ _ (by intro e;cases e;exact hne rfl)];exact h.cell k a
 ·intro k;rw [ZG];exact h.frz k
theorem PW.drew {w:World} {P base:Nat} {vw vs:Value} {W:List UInt8} {Sn:List Int} {at_ gone:Nat} (h:PW w P base vw vs W Sn at_ gone):PW w.drew P base vw vs W Sn at_ gone:=⟨h.c6,h.c7,h.c8,h.c9,h.f7,h.ow,h.os,h.nw,h.ns,h.hP⟩
theorem PW.go {w:World} {P base:Nat} {vw vs:Value} {W:List UInt8} {Sn:List Int} {at_ gone:Nat} (h:PW w P base vw vs W Sn at_ gone) (at':Nat) {x:Value} (hx:x=.int .i64 at'):PW (w.setCell (zq P 7) x) P base vw vs W Sn at' gone:=by
 subst hx;refine ⟨?_,ZA _ _ _ h.c7,?_,?_,?_,cr h.ow h.nw _ _,cr h.os h.ns _ _,h.nw,h.ns,by have:=h.hP;simpa [World.setCell] using this⟩
 ·rw [ZT _ _ _ _ (by simp)];exact h.c6
 ·rw [ZT _ _ _ _ (by simp)];exact h.c8
 ·rw [ZT _ _ _ _ (by simp)];exact h.c9
 ·rw [ZG];exact h.f7
theorem PW.seen {w:World} {P base gs cap:Nat} {vw:Value} {W:List UInt8} {Sn:List Int} {at_ gone:Nat} (h:PW w P base vw (.slice gs 4096 cap) W Sn at_ gone) (hne:vw.ownBlock≠some gs) (j:Nat) (z:Int) {x:Value} (hx:x=.int .i64 z):PW (w.setCell (zq gs j) x) P base vw (.slice gs 4096 cap) W (Sn.set j z) at_ gone:=by
 subst hx;have hgP:gs≠P:=fun e=>h.ns (by simp [Value.ownBlock,e])
 have hst:=(h.os.stored j z).1;refine ⟨?_,?_,?_,?_,?_,cr h.ow hne _ _,?_,h.nw,h.ns,by have:=h.hP;simpa [World.setCell] using this⟩
 ·rw [ZT _ _ _ _ (by intro e;cases e;exact hgP rfl)];exact h.c6
 ·rw [ZT _ _ _ _ (by intro e;cases e;exact hgP rfl)];exact h.c7
 ·rw [ZT _ _ _ _ (by intro e;cases e;exact hgP rfl)];exact h.c8
 ·rw [ZT _ _ _ _ (by intro e;cases e;exact hgP rfl)];exact h.c9
 ·rw [ZG];exact h.f7
 ·rw [List.map_set];exact hst
def iY (Sn:List Int) (m:Nat):Prop:=∀ j,j < 4096->0<=Sn.getD j 0/\Sn.getD j 0<=(m:Nat)
theorem iY.le {Sn:List Int} {m m':Nat} (h:iY Sn m) (hm:m<=m'):iY Sn m':=fun j hj=>⟨(h j hj).1,by have:=(h j hj).2;omega⟩
theorem iY.set {Sn:List Int} {m:Nat} (h:iY Sn m) (k:Nat):iY (Sn.set k ((m+1:Nat):Int)) (m+1):=by
 intro j hj;have:=h j hj;simp only [ZB] at this ⊢;by_cases e:k=j
 ·subst e;by_cases hl:k < Sn.length
  ·simp [List.getElem?_set,hl];omega
  ·simp [List.getElem?_set,hl];omega
 ·rw [List.getElem?_set_ne e];omega
theorem xh {Pr:Program} {f:FuncId} {args:Array Value} {w:World} {v:Value} (h:∀ q:Nat,Calls Pr f args (w.drewN q) fun e w'=>e=.returned v/\∃ z,w'=(w.drewN q).drewN z) (n x:Nat):
  Calls Pr f args (w.drewN (n+x)) fun e w''=>e=.returned v/\∃ q,w''=w.drewN (n+q):=
 (h (n+x)).mono fun _ _ ⟨he,m,hm⟩=>⟨he,x+m,by rw [hm,World.drewN_drewN,Zn]⟩
theorem PW.seenAt {w:World} {P base gs cap:Nat} {vw:Value} {W:List UInt8} {Sn:List Int} {at_ gone:Nat} (h:PW w P base vw (.slice gs 4096 cap) W Sn at_ gone) (K:Nat) (hK:K < 4096):w.cell? (zq gs K)=(Sn.getD K 0:Int):=by
 obtain ⟨g,c,hv,_,hc⟩:=ints_at h.os (by omega)
 cases hv;exact hc K hK
def kw (κ:Nat->Nat) (W:List UInt8) (at_ gone:Nat) (Sn:List Int):Nat->List Int
 | 0=>Sn
 | n+1=>if at_+n+4<=W.length then (kw κ W at_ gone Sn n).set (κ (at_+n)) ((gone+(at_+n)+1:Nat):Int) else kw κ W at_ gone Sn n
def zF (κ:Nat->Nat) (W:List UInt8) (Sn:List Int) (at_ n gone:Nat):Prop:=1<=n->at_+n+3<=W.length->Sn.getD (κ (at_+n - 1)) 0=((gone+(at_+n):Nat):Int)
theorem wK (w:World) (P base g cap gs caps:Nat) (W:List UInt8) (Sn:List Int) (at_ gone n:Nat) (h:PW w P base (.slice g W.length cap) (.slice gs 4096 caps) W Sn at_ gone) (hne:g≠gs) (ha:at_+n<=W.length) (hW:W.length<=10000000) (hg:gone<=10000000) (hcap:W.length<=cap)
  (hS:iY Sn (gone+at_))
  (κ:Nat->Nat) (HKey:Hid (∀ (wx:World) (Sx:List Int) (i:Nat),PW wx P base (.slice g W.length cap) (.slice gs 4096 caps) W Sx i gone->i+4<=W.length->κ i < 4096/\Hid (∀ q:Nat,CP 265 #[zp P,i] (wx.drewN q) fun e w'=>e=.returned (κ i:Int)/\∃ z,w'=(wx.drewN q).drewN z))):
  CP 231 #[zp P,n] w fun e w'=>e=.returned (.tuple #[])/\∃ Sn',PW w' P base (.slice g W.length cap) (.slice gs 4096 caps) W Sn' (at_+n) gone/\iY Sn' (gone+(at_+n))/\cF P (.slice gs 4096 caps) w w'/\zF κ W Sn' at_ n gone/\Sn'=kw κ W at_ gone Sn n:=by
 have hgP:gs≠P:=fun e=>h.ns (by simp [Value.ownBlock,e])
 go_enter func231,ntmps231
 go_wp2;go_loopg [1] (n+1) (fun gk' c wr=>∃ k:Nat,∃ Sk,k<=n/\n - k < gk'/\c=.int .i64 ((n - k:Nat):Int)/\PW wr P base (.slice g W.length cap) (.slice gs 4096 caps) W Sk (at_+k) gone/\Hid (iY Sk (gone+(at_+k)))/\cF P (.slice gs 4096 caps) w wr/\Hid (zF κ W Sk at_ k gone)/\Hid (Sk=kw κ W at_ gone Sn k))
 case atStart=>exact ⟨0,Sn,by omega,by omega,rfl,h,hS,cF.refl _ _ _,fun h1 _=>absurd h1 (by omega),rfl⟩
 case round=>
  clear h hS;obtain ⟨k,Sk,hk1,hk2,rfl,hPk,HSk,hFk,HLk,HVk⟩:=hrel;obtain ⟨m,hm⟩:∃ m,m=n - k:=⟨_,rfl⟩;rw [<-hm];by_cases hz:m=0
  ·subst hz;go_wp2;go_end0;obtain rfl:k=n:=by omega
   exact ⟨rfl,Sk,hPk,HSk.out,hFk,HLk.out,HVk.out⟩
  ·obtain ⟨A,hA⟩:∃ A,A=at_+k:=⟨_,rfl⟩;rw [<-hA] at hPk HSk;have hAW:A < W.length:=by omega
   have HA:=aa hA;clear hA;have c6:=hPk.c6;have c7:=hPk.c7;have c8:=hPk.c8;have c9:=hPk.c9;have f7:=hPk.f7;have hm1:1<=m:=by omega
   have hm2:m<=10000000:=by omega
   by_cases h4:A+4<=W.length
   ·obtain ⟨K,HKe,hK,HK⟩:∃ K:Nat,Hid (K=κ A)/\K < 4096/\Hid (∀ q:Nat,CP 265 #[zp P,A] (wr.drewN q) fun e w'=>e=.returned K/\∃ z,w'=(wr.drewN q).drewN z):=⟨κ A,rfl,HKey.out wr Sk A hPk h4⟩;have ks:=hPk.seenAt K hK;have kf:=hPk.os.frozenAt K;go_wp2;go_quiet (fail)
    go_wp2;refine bO 21 (by kernel_rfl) (by kernel_rfl) ?_;simp only [TD]
    repeat (go_big_quiet_step ((go_at_call 265;exact xh HK.out _ _)))
    refine Yh ?_;intro _ hw';obtain ⟨nq2,hw''⟩:=hw';subst hw'';go_wp2;go_roundg (gk - 1)
    case measure=>omega
    case rel=>
     have hA:=HA.out;refine ⟨k+1,Sk.set K ((gone+A+1:Nat):Int),by omega,by omega,by go_num,?_,?_,?_,?_,?_⟩
     ·exact (((hPk.drewN _).seen (by simp [Value.ownBlock];exact hne) K ((gone+A+1:Nat):Int) (by go_num)).go _ (by go_num))
     ·have:=HSk.out.set K;rw [show gone+(at_+(k+1))=gone+A+1 by omega];exact this
     ·exact ((hFk.drewN _).seen hgP _ _).at _
     ·intro _ _;rw [show at_+(k+1) - 1=A by omega, <-HKe.out,show gone+(at_+(k+1))=gone+A+1 by omega];have hlen:K < Sk.length:=by have:=hPk.os.1;simp at this;omega
      simp [ZB,List.getElem?_set,hlen]
     ·show _=_
      rw [kw,ZO (by omega), <-HVk.out, <-hA, <-HKe.out]
   ·go_wp2;go_quiet (fail)
    go_wp2;go_roundg (gk - 1)
    case measure=>omega
    case rel=>
     have hA:=HA.out;refine ⟨k+1,Sk,by omega,by omega,by go_num,?_,?_,?_,fun _ h2=>absurd h2 (by omega),by show _=_;rw [kw,ZU (by omega)];exact HVk.out⟩
     ·exact (hPk.drewN _).go _ (by go_num)
     ·exact HSk.out.le (by omega)
     ·exact (hFk.drewN _).at _
def iV (v u:Value):Prop:=∀ g,v.ownBlock=some g->u.ownBlock≠some g
theorem iV.symm {v u:Value} (h:iV v u):iV u v:=fun g a b=>h g b a
theorem cM {w w':World} {base:Nat} {e:TypeId} {v:Value} {n:Nat} {xs:List Value} (h:w.ownsRow base e 1 v n xs) (hk:∀ g,v.ownBlock=some g->w'.heap[g]? =w.heap[g]?):w'.ownsRow base e 1 v n xs:=by
 refine ⟨h.1,?_⟩;rcases h.2 with h2 | ⟨g,cap,cur,rfl,a,b,c⟩
 ·exact .inl h2
 ·exact .inr ⟨g,cap,cur,rfl,a,(hk g rfl).trans b,c⟩
structure Fr (B:Nat->Prop) (w w':World):Prop where
 os:w'.os=w.os
 tape:w'.tape=w.tape
 output:w'.output=w.output
 size:w.heap.size<=w'.heap.size
 keep:∀ k,k < w.heap.size->¬ B k->w'.heap[k]? =w.heap[k]?
theorem Fr.refl (B:Nat->Prop) (w:World):Fr B w w:=⟨rfl,rfl,rfl,ZX _,fun _ _ _=>rfl⟩
theorem Fr.drewN {B:Nat->Prop} {w w':World} (h:Fr B w w') (q:Nat):Fr B w (w'.drewN q):=⟨h.os,h.tape,h.output,h.size,h.keep⟩
theorem Fr.trans {B C:Nat->Prop} {u v w:World} (h:Fr B u v) (k:Fr C v w) (hC:∀ x,x < u.heap.size->C x->B x):Fr B u w:=
 ⟨k.os.trans h.os,k.tape.trans h.tape,k.output.trans h.output,ZN h.size k.size,fun x hx hb=>(k.keep x (ZR hx h.size) (fun hc=>hb (hC x hx hc))).trans (h.keep x hx hb)⟩
theorem Fr.mono {B C:Nat->Prop} {u v:World} (h:Fr B u v) (hB:∀ x,B x->C x):Fr C u v:=⟨h.os,h.tape,h.output,h.size,fun x hx hc=>h.keep x hx (fun hb=>hc (hB x hb))⟩
theorem cd.fr {P:Nat} {vf vf':Value} {w w':World} (h:cd P vf w vf' w'):Fr (fun k=>k=P\/vf.ownBlock=some k) w w':=
 ⟨h.os,h.tape,h.output,h.size,fun k hk hb=>h.keep k hk (fun e=>hb (.inl e)) (fun e=>hb (.inr e.symm))⟩
theorem cF.fr {P:Nat} {vs:Value} {w w':World} (h:cF P vs w w'):Fr (fun k=>k=P\/vs.ownBlock=some k) w w':=
 ⟨h.os,h.tape,h.output,h.size,fun k hk hb=>h.keep k hk (fun e=>hb (.inl e)) (fun e=>hb (.inr e.symm))⟩
structure PK (w:World) (P base:Nat) (nx vf vw vs:Value) (F:List UInt8) (H n A B:Nat) (W:List UInt8) (Sn:List Int) (at_ gone:Nat):Prop where
 bw:BW w P base vf F H n
 pw:PW w P base vw vs W Sn at_ gone
 c0:w.cell? P=some nx
 c4:w.cell? (zq P 4)=some (.int .u32 A)
 c5:w.cell? (zq P 5)=some (.int .u32 B)
 fz:∀ o,w.frozen? (zq P o)=false
 hn:n < 8
 dfw:iV vf vw
 dfs:iV vf vs
 dws:iV vw vs
theorem PK.drewN {w:World} {P base:Nat} {nx vf vw vs:Value} {F:List UInt8} {H n A B:Nat} {W:List UInt8} {Sn:List Int} {at_ gone:Nat} (h:PK w P base nx vf vw vs F H n A B W Sn at_ gone) (q:Nat):PK (w.drewN q) P base nx vf vw vs F H n A B W Sn at_ gone:=
 ⟨h.bw.drewN q,h.pw.drewN q,h.c0,h.c4,h.c5,h.fz,h.hn,h.dfw,h.dfs,h.dws⟩
theorem jl {vf vf' v:Value} {w:World} {base:Nat} {e:TypeId} {n:Nat} {xs:List Value} (ho:w.ownsRow base e 1 v n xs) (hb:vf'.ownBlock=vf.ownBlock\/∃ g,vf'.ownBlock=some g/\w.heap.size<=g) (hd:iV vf v):iV vf' v:=by
 intro g hg hv;rcases hb with e | ⟨x,e,hx⟩
 ·exact hd g (e ▸ hg) hv
 ·rw [e] at hg;cases hg;have:=(ho.lt _ hv).2;omega
theorem PK.put {w w':World} {P base:Nat} {nx vf vw vs vf':Value} {F F':List UInt8} {H n H' n' A B:Nat} {W:List UInt8} {Sn:List Int} {at_ gone:Nat} (h:PK w P base nx vf vw vs F H n A B W Sn at_ gone)
  (hB:BW w' P base vf' F' H' n') (hn:n' < 8) (hF:cd P vf w vf' w'):PK w' P base nx vf' vw vs F' H' n' A B W Sn at_ gone:=by
 have hw:∀ {v:Value} {e:TypeId} {m:Nat} {xs:List Value},w.ownsRow base e 1 v m xs->v.ownBlock≠some P->iV vf v->w'.ownsRow base e 1 v m xs:=by
  intro v e m xs ho hne hd;refine cM ho fun g hg=>hF.keep g (ho.lt g hg).2 (fun e=>hne (by rw [hg,e])) (fun e=>hd g e.symm hg)
 refine ⟨hB,⟨?_,?_,?_,?_,?_,hw h.pw.ow h.pw.nw h.dfw,hw h.pw.os h.pw.ns h.dfs,h.pw.nw,h.pw.ns,ZR h.pw.hP hF.size⟩,?_,?_,?_,?_,hn,jl h.pw.ow hF.blk h.dfw,jl h.pw.os hF.blk h.dfs,h.dws⟩
 ·rw [hF.cell 6 (by omega) (by omega) (by omega)];exact h.pw.c6
 ·rw [hF.cell 7 (by omega) (by omega) (by omega)];exact h.pw.c7
 ·rw [hF.cell 8 (by omega) (by omega) (by omega)];exact h.pw.c8
 ·rw [hF.cell 9 (by omega) (by omega) (by omega)];exact h.pw.c9
 ·rw [hF.frz];exact h.pw.f7
 ·rw [hF.cell 0 (by omega) (by omega) (by omega)];exact h.c0
 ·rw [hF.cell 4 (by omega) (by omega) (by omega)];exact h.c4
 ·rw [hF.cell 5 (by omega) (by omega) (by omega)];exact h.c5
 ·intro o;rw [hF.frz];exact h.fz o
theorem PK.pass {w w':World} {P base:Nat} {nx vf vw vs:Value} {F:List UInt8} {H n A B:Nat} {W:List UInt8} {Sn Sn':List Int} {at_ at' gone:Nat} (h:PK w P base nx vf vw vs F H n A B W Sn at_ gone)
  (hP:PW w' P base vw vs W Sn' at' gone) (hF:cF P vs w w'):PK w' P base nx vf vw vs F H n A B W Sn' at' gone:=by
 have hb:=h.bw;refine ⟨⟨?_,?_,?_,?_,?_,?_,cM hb.own fun g hg=>hF.keep g (hb.own.lt g hg).2 (fun e=>hb.ne (by rw [hg,e])) (fun e=>h.dfs g hg e.symm),hb.ne,ZN hb.hb hF.size,hb.hH⟩,hP,?_,?_,?_,?_,h.hn,h.dfw,h.dfs,h.dws⟩
 ·rw [hF.cell 1 (by omega)];exact hb.c1
 ·rw [hF.cell 2 (by omega)];exact hb.c2
 ·rw [hF.cell 3 (by omega)];exact hb.c3
 ·rw [hF.frz];exact hb.f1
 ·rw [hF.frz];exact hb.f2
 ·rw [hF.frz];exact hb.f3
 ·rw [hF.cell 0 (by omega)];exact h.c0
 ·rw [hF.cell 4 (by omega)];exact h.c4
 ·rw [hF.cell 5 (by omega)];exact h.c5
 ·intro o;rw [hF.frz];exact h.fz o
theorem rF (w:World) (P base:Nat) (vw vs:Value) (W:List UInt8) (Sn:List Int) (at_ gone n:Nat) (h:PW w P base vw vs W Sn at_ gone) (hd:iV vw vs) (hn:1<=n) (ha:at_+n<=W.length) (hW:W.length<=10000000) (hg:gone<=10000000) (hS:iY Sn (gone+at_)):
  CP 231 #[zp P,n] w fun e w'=>e=.returned (.tuple #[])/\∃ Sn',PW w' P base vw vs W Sn' (at_+n) gone/\iY Sn' (gone+(at_+n))/\cF P vs w w'/\zF (iG W) W Sn' at_ n gone/\Sn'=kw (iG W) W at_ gone Sn n:=by
 obtain ⟨g,cap,hv,hle,hb,_⟩:=jJ h.ow (by omega);obtain ⟨gs,caps,hvs,hbs,_⟩:=ints_at h.os (by omega);subst hv hvs;refine wK w P base g cap gs caps W Sn at_ gone n h (fun e=>hd g rfl (by rw [e];rfl)) ha hW hg hle hS (iG W) ?_;intro wx Sx i hx hi;exact ⟨uG W i,fun q=>uQ (wx.drewN q) P base _ _ W Sx i gone i (hx.drewN q) hi hW⟩
structure BP (W:List UInt8) (at_ gone:Nat) (Sn Sn':List Int) (k b:Nat):Prop where
 emit:∃ v,Pm.qj W at_ k v b
 full:4<=min 258 (W.length - at_)->yq W at_ gone (min 258 (W.length - at_)) k (Sn.getD (iG W at_) 0)
 last:zF (iG W) W Sn' at_ k gone
def gc (W:List UInt8) (at_:Nat) (r:Nat×Nat):Nat×Nat×Nat:=
 if r.1=0 then (1,Pm.sb (W.getD at_ 0).toNat,(Pm.aI (W.getD at_ 0).toNat).2) else (r.1,Pm.mv r.1 r.2,Pm.mw r.1 r.2)
def Stepped (w:World) (P base:Nat) (nx vf vw vs:Value) (F:List UInt8) (H n A B:Nat) (W:List UInt8) (Sn:List Int) (at_ gone:Nat) (w':World):Prop:=
 ∃ vf' F' H' n' Sn' k v b,BP W at_ gone Sn Sn' k b/\((k,v,b)=gc W at_ (fN W Sn at_ gone)/\Sn'=kw (iG W) W at_ gone Sn k)/\PK w' P base nx vf' vw vs F' H' n' A B W Sn' (at_+k) gone/\Pm.qj W at_ k v b/\dt F' H'=dt F H+v*2 ^ (8*F.length+n)/\8*F'.length+n'=8*F.length+n+b/\iY Sn' (gone+(at_+k))/\
  Fr (fun x=>x=P\/vf.ownBlock=some x\/vs.ownBlock=some x) w w'/\(vf'.ownBlock=vf.ownBlock\/∃ g,vf'.ownBlock=some g/\w.heap.size<=g)
theorem mh {F0 F1 F2:List UInt8} {H0 H1 H2 n0 n1 v1 v2 k1:Nat} (h1:dt F1 H1=dt F0 H0+v1*2 ^ (8*F0.length+n0)) (l1:8*F1.length+n1=8*F0.length+n0+k1) (h2:dt F2 H2=dt F1 H1+v2*2 ^ (8*F1.length+n1)):
  dt F2 H2=dt F0 H0+(v1+v2*2 ^ k1)*2 ^ (8*F0.length+n0):=by
 rw [h2,h1,l1,Ze 2 (8*F0.length+n0) k1,Nat.add_mul,Zn,Yj v2,XX (2 ^ k1)]
theorem vh (w:World) (P base:Nat) (nx vf vw vs:Value) (F:List UInt8) (H n A B:Nat) (W:List UInt8) (Sn:List Int) (at_ gone:Nat) (h:PK w P base nx vf vw vs F H n A B W Sn at_ gone) (ha:at_ < W.length) (hW:W.length<=10000000) (hg:gone<=10000000) (hS:iY Sn (gone+at_)) (hF:F.length<=40000000)
  (HF:Hid (CP 230 #[zp P] w fun e w'=>∃ L D:Nat,e=.returned (.tuple #[L,D])/\Found W at_ L D/\(4<=min 258 (W.length - at_)->yq W at_ gone (min 258 (W.length - at_)) L (Sn.getD (iG W at_) 0))/\(L,D)=fN W Sn at_ gone/\∃ q,w'=w.drewN q)):
  CP 198 #[zp P] w fun e w'=>e=.returned (.tuple #[])/\Stepped w P base nx vf vw vs F H n A B W Sn at_ gone w':=by
 obtain ⟨g,cap,hv,hle,hb,hcell⟩:=jJ h.pw.ow (by omega);have k0:=hcell at_ ha;have c6:=h.pw.c6;rw [hv] at c6;have c7:=h.pw.c7;have hx0:=(W.getD at_ 0).toNat_lt;have HE:Hid (Pm.qj W at_ 1 (Pm.sb (W.getD at_ 0).toNat) (Pm.aI (W.getD at_ 0).toNat).2):=Zg ⟨rfl,ha,rfl,rfl⟩;have HEv:Hid ((1,Pm.sb (W.getD at_ 0).toNat,(Pm.aI (W.getD at_ 0).toNat).2)=gc W at_ (0,0)):=rfl;obtain ⟨x,hx⟩:∃ x,x=(W.getD at_ 0).toNat:=⟨_,rfl⟩;rw [<-hx] at k0 hx0 HE HEv;clear hx hcell;have hP:=h.pw.hP;have hn8:=h.hn;have hsx:=(Pm.dY x (by omega)).2.2;go_enter func198,ntmps198
 go_wp2_with fail
 refine HF.out.mono ?_;rintro e w1 ⟨L,D,rfl,hf,hfu,hfx,q,rfl⟩;have HFu:=aa hfu;have HFx:=aa hfx;clear hfu hfx;rcases hf with ⟨rfl,rfl⟩ | hm
 ·go_wp2;refine bO 12 (by kernel_rfl) (by kernel_rfl) ?_;simp only [TD]
  repeat (go_big_quiet_step (fail))
  refine Yh ?_;intro _ hw';obtain ⟨nq2,hw''⟩:=hw';subst hw'';go_wp2_with fail
  refine (fR _ P base vf F H n x (h.bw.drewN _) hP h.hn (by omega) (by omega)).mono ?_;rintro e w2 ⟨rfl,vf',F',H',n',b1,b2,b3,b4,b5⟩;have hK2:=(h.drewN _).put b1 b2 b5;go_wp2_with fail
  refine (rF w2 P base vw vs W Sn at_ gone 1 hK2.pw hK2.dws (by omega) (by omega) hW hg hS).mono ?_;rintro e w3 ⟨rfl,Sn',p1,p2,p3,p4,p5⟩;have hK3:=hK2.pass p1 p3;have HLa:=aa p4;have HPv:=aa p5;clear p4 p5;go_wp2
  (try simp only [Exit.inBlock,Exit.then])
  refine Zb (results_none rfl _ _ _) rfl ?_;refine ⟨rfl,vf',F',H',n',Sn',1,_,_,⟨⟨_,HE.out⟩,fun h4 d e1 e2 e3 e4=>absurd (HFu.out h4 d e1 e2 e3 e4) (by omega),HLa.out⟩,⟨by rw [<-HFx.out];exact HEv.out,HPv.out⟩,hK3,HE.out,b3,b4,p2,?_,b5.blk⟩;refine (((Fr.refl _ w).drewN _).trans b5.fr (fun y _ hy=>?_)).trans p3.fr (fun y _ hy=>?_)
  ·rcases hy with e | e
   ·exact .inl e
   ·exact .inr (.inl e)
  ·rcases hy with e | e
   ·exact .inl e
   ·exact .inr (.inr e)
 ·obtain ⟨h4,h258,haL,hD1,hD2,hD3,hj⟩:=hm;have HE2:Hid (Pm.qj W at_ L (Pm.mv L D) (Pm.mw L D)):=Zo ⟨D,h4,h258,haL,hD1,hD2,hD3,hj,rfl,rfl⟩;have HEw:Hid ((L,Pm.mv L D,Pm.mw L D)=gc W at_ (L,D)):=by show _=_;unfold gc;rw [ZU (by simp;omega)]
  unfold Pm.mv Pm.mw at HE2;unfold Pm.mv Pm.mw at HEw;have HL:=aa (nK (w.drewN q) L (by omega) h258);have HDc:=aa (fun wx=>kM wx D hD1 hD2);obtain ⟨l1,l2,l3,l4,_,_⟩:=Pm.j_ L (by omega) (by omega);obtain ⟨d1,d2,d3,_⟩:=Pm.iN D (by omega) hD1;have l5:=(Pm.fh (Pm.bN L).1 (by omega) l1).1;have d5:=(Pm.eN (Pm.bB D).1 (by omega)).1;rw [<-l3] at l5;rw [<-d2] at d5;clear l3 d2 hj k0 c6 c7 HE HF;obtain ⟨c,hc⟩:∃ c,c=(Pm.bN L).1:=⟨_,rfl⟩;obtain ⟨m,hm⟩:∃ m,m=(Pm.bN L).2.1:=⟨_,rfl⟩;obtain ⟨b,hb⟩:∃ b,b=(Pm.bN L).2.2:=⟨_,rfl⟩;obtain ⟨dc,hdc⟩:∃ c,c=(Pm.bB D).1:=⟨_,rfl⟩;obtain ⟨dm,hdm⟩:∃ m,m=(Pm.bB D).2.1:=⟨_,rfl⟩;obtain ⟨db,hdb⟩:∃ b,b=(Pm.bB D).2.2:=⟨_,rfl⟩;rw [<-hc, <-hm, <-hb, <-hdc, <-hdm, <-hdb] at HE2 HEw;rw [<-hc, <-hm, <-hb] at HL;simp only [<-hdc, <-hdm, <-hdb] at HDc;rw [<-hc] at l1 l2;rw [<-hm, <-hb] at l4;rw [<-hb] at l5;rw [<-hdc] at d1;rw [<-hdm, <-hdb] at d3;rw [<-hdb] at d5;clear hc hm hb hdc hdm hdb;have hcx:=(Pm.dY c (by omega)).2.2;go_wp2_with fail
  refine HL.out.mono ?_;rintro e w2 ⟨rfl,q2,rfl⟩;go_wp2_with fail
  refine (fR _ P base vf F H n c (h.bw.drewN _) hP h.hn (by omega) (by omega)).mono ?_;rintro e w3 ⟨rfl,vf3,F3,H3,n3,b31,b32,b33,b34,b35⟩;have hK3:=(h.drewN _).put b31 b32 b35;have hP3:=hK3.pw.hP;go_wp2_with fail
  refine (eU w3 P base vf3 F3 H3 n3 m b b31 hP3 b32 l4 (by omega) (by omega)).mono ?_;rintro e w4 ⟨rfl,vf4,F4,H4,n4,b41,b42,b43,b44,b45⟩;have hK4:=hK3.put b41 b42 b45;have hP4:=hK4.pw.hP;go_wp2_with fail
  refine (HDc.out w4).mono ?_;rintro e w5 ⟨rfl,q5,rfl⟩;go_wp2_with fail
  refine (lp _ P base vf4 F4 H4 n4 dc 5 (b41.drewN _) hP4 b42 (by omega) (XP d1 (by decide)) (by omega)).mono ?_;rintro e w6 ⟨rfl,vf6,F6,H6,n6,b61,b62,b63,b64,b65⟩;have hK6:=(hK4.drewN _).put b61 b62 b65;have hP6:=hK6.pw.hP;go_wp2_with fail
  refine (eU w6 P base vf6 F6 H6 n6 dm db b61 hP6 b62 d3 (by omega) (by omega)).mono ?_;rintro e w7 ⟨rfl,vf7,F7,H7,n7,b71,b72,b73,b74,b75⟩;have hK7:=hK6.put b71 b72 b75;go_wp2_with fail
  refine (rF w7 P base vw vs W Sn at_ gone L hK7.pw hK7.dws (by omega) haL hW hg hS).mono ?_;rintro e w8 ⟨rfl,Sn',p1,p2,p3,p4,p5⟩;have HLa:=aa p4;have HPv:=aa p5;clear p4 p5;have hK8:=hK7.pass p1 p3;have hPt:=((cd.refl P vf w).drewN (q+q2)).trans (b35.trans (b45.trans (((cd.refl P vf4 w4).drewN q5).trans (b65.trans b75))));go_wp2;go_end0;refine ⟨rfl,vf7,F7,H7,n7,Sn',L,_,_,⟨⟨_,HE2.out⟩,HFu.out,HLa.out⟩,⟨by rw [<-HFx.out];exact HEw.out,HPv.out⟩,hK8,HE2.out,?_,?_,p2,?_,hPt.blk⟩
  ·have s1:=mh b63 b64 b73;have s2:=mh b43 b44 s1;exact mh b33 b34 s2
  ·omega
  ·refine (hPt.fr.mono (fun y hy=>?_)).trans p3.fr (fun y _ hy=>?_)
   ·rcases hy with e | e
    ·exact .inl e
    ·exact .inr (.inl e)
   ·rcases hy with e | e
    ·exact .inl e
    ·exact .inr (.inr e)
theorem xM (w:World) (P base:Nat) (nx vf vw vs:Value) (F:List UInt8) (H n A B:Nat) (W:List UInt8) (Sn:List Int) (at_ gone:Nat) (h:PK w P base nx vf vw vs F H n A B W Sn at_ gone) (ha:at_ < W.length) (hW:W.length<=10000000) (hg:gone<=10000000) (hgo:gone=0\/32768<=at_) (hS:iY Sn (gone+at_)) (hF:F.length<=40000000):
  CP 198 #[zp P] w fun e w'=>e=.returned (.tuple #[])/\Stepped w P base nx vf vw vs F H n A B W Sn at_ gone w':=
 vh w P base nx vf vw vs F H n A B W Sn at_ gone h ha hW hg hS hF (xx w P base vw vs W Sn at_ gone h.pw ha hW hg hgo hS)
theorem qH (w:World) (t u ty:TypeId) (ht:Tryz.prog.underlying t=some (.slice 5)) (hu:Tryz.prog.underlying u=some .string) {base:Nat} {v:Value} {out:List UInt8} (h:w.ownsRow base 5 1 v out.length (bo out)) (hb:base<=w.heap.size)
  (s:ByteArray) (hl:out.length+s.size<=4000000000):
  ∃ v' w',(Builtin.append_ #[t,u] ty #[v,s]).run prog w=.ok v' w'/\w'.ownsRow base 5 1 v' (out++s.data.toList).length (bo (out++s.data.toList))/\w.grownBy w' v.ownBlock/\(v'.ownBlock=v.ownBlock\/v'.ownBlock=some w.heap.size):=by
 obtain ⟨i0,hi,hz0,hz1,hz2⟩:=Xn Tryz.info5;obtain ⟨v',w',hr,ho,hg,hnil⟩:=Lib.run_append_own_string (P:=prog) w base t u ty 5 i0 ht hu hi hz0 hz1 hz2 v out.length (bo out) h s (by unfold maxLen;omega) (by omega) hb;refine ⟨v',w',hr,?_,hg,?_⟩
 ·rw [eV,ZZ];exact ho
 ·rcases h.2 with ⟨rfl,hn⟩ | ⟨g,cap,cur,rfl,_,hgc,_,hcm,hcs,_⟩
  ·by_cases hm:s.size=0
   ·rw [hnil.2 ⟨rfl,hm⟩];exact Zg rfl
   ·have hr2:=run_append_nil_string (P:=prog) w t u ty 5 i0 (.int .u8 0) ht hu hi hz0 s (by omega) (by omega) (by rw [hz2];omega);rw [hr2] at hr
    cases hr
    exact Zo rfl
  ·by_cases hroom:out.length+s.size<=cap
   ·have hr2:=Lib.run_append_room_string (P:=prog) w t u ty 5 i0 ht hu hi hz1 g out.length cap cur hgc s hroom (by omega);rw [hr2] at hr
    cases hr
    exact Zg rfl
   ·have hr2:=Lib.run_append_grow_string (P:=prog) w t u ty 5 i0 (.int .u8 0) ht hu hi hz0 ⟨g,0,none⟩ out.length cap (bo out) (by rw [hz1];simp [bo]) (h.cells (g:=g) rfl) s (by omega) (by omega) (by rw [hz2];exact growslice_fits (by omega) (by unfold maxLen at hcm;omega));rw [hr2] at hr
    cases hr
    exact Zo rfl
theorem j' {ops:Array Oper} {o:Oper} {a:Act} {w:World} {K:Act->World->Prop} {Q:Exit->Act->World->Prop} {E:Prop} (hgd:o.guard=none) (sl x:Operand) (t u:TypeId)
  (ho:o.op=.call {callee:=.builtin .append,args:=#[sl,x],argTypes:=#[t,u]}) (ht:Tryz.prog.underlying t=some (.slice 5)) (hu:Tryz.prog.underlying u=some .string)
  (base:Nat) (v:Value) (out:List UInt8) (hs:a.eval sl=v) (h:w.ownsRow base 5 1 v out.length (bo out)) (hb:base<=w.heap.size) (s:ByteArray) (hx:a.eval x=.string s)
  (hl:out.length+s.size<=4000000000)
  (hk:∀ v' w',w'.ownsRow base 5 1 v' (out++s.data.toList).length (bo (out++s.data.toList))->w.grownBy w' v.ownBlock->(v'.ownBlock=v.ownBlock\/v'.ownBlock=some w.heap.size)->K (a.put o.dst v') w'):
  if Region.wanted o (yielded ops a.tmps)=true then Oper.wp prog o a w K Q else E:=by
 have hw:Region.wanted o (yielded ops a.tmps)=true:=by simp [Region.wanted,hgd]
 rw [ZO hw];obtain ⟨v',w',hr,h2,h3,h4⟩:=qH w t u o.type ht hu h hb s hl;unfold Oper.wp execOp;simp only [ho,resolve,invoke,builtin,Xt,Xu,Yc,XU,YC,XT,hs,hx,hr];exact hk v' w' h2 h3 h4
theorem yd (w:World) (c A B:Nat) (t:ByteArray) (ht:t.size<=140737488355328) (hA:A < 65521) (hB:B < 65521) (c0:w.cell? (zq c 4)=some (.int .u32 A)) (c1:w.cell? (zq c 5)=some (.int .u32 B)) (f0:w.frozen? (zq c 4)=false) (f1:w.frozen? (zq c 5)=false):
  CP 197 #[zq c 4,t] w fun e w'=>e=.returned (.tuple #[])/\∃ q,w'=((w.drewN q).setCell (zq c 4) (.int .u32 ((Pm.cB t.data.toList (A,B)).1:Nat))).setCell (zq c 5) (.int .u32 ((Pm.cB t.data.toList (A,B)).2:Nat)):=by
 go_enter func197,ntmps197
 go_wp2;go_quiet (fail)
 go_wp2;go_loopg [4,5,6] t.size (fun g x y i wr=>∃ k X Y:Nat,k<=t.size/\X < 65521/\Y < 65521/\t.size - k<=g/\i=.int .i64 k/\x=.int .u32 X/\y=.int .u32 Y/\Hid (Pm.cB (t.data.toList.take k) (A,B)=(X,Y))/\wr=w.drewN nq)
 case atStart=>exact ⟨0,A,B,by omega,hA,hB,by omega,rfl,rfl,rfl,rfl,rfl⟩
 case round=>
  obtain ⟨k,X,Y,hk,hX,hY,hg,rfl,rfl,rfl,HE,rfl⟩:=hrel;by_cases hlt:k < t.size
  ·have HS:Hid (Pm.cB (t.data.toList.take (k+1)) (A,B)=((X+t[k].toNat) % 65521,(Y+(X+t[k].toNat) % 65521) % 65521)):=by
    show _=_
    rw [sy t k hlt,Pm.oT,HE.out]
   have hc:t[k].toNat < 256:=t[k].toNat_lt;go_wp2;go_roundg (gk - 1)
   case measure=>omega
   case rel=>exact ⟨k+1,(X+t[k].toNat) % 65521,(Y+(X+t[k].toNat) % 65521) % 65521,by omega,Yl _ (by decide),Yl _ (by decide),by omega,by go_num,by simp,by simp,HS.out,rfl⟩
  ·have hkc:t.data.toList.take k=t.data.toList:=ZF (by simp;omega);have HE2:Hid (Pm.cB t.data.toList (A,B)=(X,Y)):=by show _=_;rw [<-hkc];exact HE.out
   clear hkc;go_wp2;go_end0;rw [HE2.out];exact ⟨rfl,nq,rfl⟩
structure SK (w:World) (T base:Nat) (vt:Value) (Tk:List UInt8):Prop where
 c0:w.cell? T=(-1:Int)
 c1:w.cell? (zq T 1)=some vt
 c2:w.cell? (zq T 2)=false
 fz:∀ o,w.frozen? (zq T o)=false
 own:w.ownsRow base 5 1 vt Tk.length (bo Tk)
 ne:vt.ownBlock≠some T
 hT:T < w.heap.size
 hb:base<=w.heap.size
theorem aP (s:ByteArray):s.data.toList.length=s.size:=by simp
abbrev Bl:=Nat->Prop
structure Mv (S:Bl) (w:World) (S':Bl) (w':World):Prop where
 fr:Fr S w w'
 new:∀ k,S' k->S k\/w.heap.size<=k
theorem Mv.refl (S:Bl) (w:World):Mv S w S w:=⟨Fr.refl _ _,fun _ h=>.inl h⟩
theorem Mv.trans {S S' S'':Bl} {u v w:World} (h:Mv S u S' v) (g:Mv S' v S'' w):Mv S u S'' w:=
 ⟨h.fr.trans g.fr (fun k hk hb=>(h.new k hb).elim id (fun e=>absurd hk (by omega))),fun k hk=>(g.new k hk).elim (fun e=>h.new k e) (fun e=>.inr (ZN h.fr.size e))⟩
theorem Mv.size {S S':Bl} {w w':World} (h:Mv S w S' w'):w.heap.size<=w'.heap.size:=h.fr.size
theorem Mv.drewN {S S':Bl} {w w':World} (h:Mv S w S' w') (q:Nat):Mv S w S' (w'.drewN q):=⟨h.fr.drewN q,h.new⟩
theorem Mv.undrew {S S':Bl} {w w':World} {q:Nat} (h:Mv S (w.drewN q) S' w'):Mv S w S' w':=⟨⟨h.fr.os,h.fr.tape,h.fr.output,h.fr.size,h.fr.keep⟩,h.new⟩
theorem Mv.mono {S S' T T':Bl} {w w':World} (h:Mv S w S' w') (hS:∀ k,S k->T k) (hT:∀ k,T' k->S' k\/T k):Mv T w T' w':=
 ⟨h.fr.mono hS,fun k hk=>(hT k hk).elim (fun e=>(h.new k e).elim (fun e=>.inl (hS k e)) .inr) .inl⟩
theorem Mv.grow {w w':World} (h:Below w w w') (S:Bl):Mv S w S w':=⟨⟨h.os,h.tape,h.output,h.size,fun k hk _=>h.block k hk⟩,fun _ h=>.inl h⟩
theorem Mv.below {S S':Bl} {w w':World} {B:Nat} (h:Mv S w S' w') (hS:∀ k,S k->B<=k) (hB:B<=w.heap.size):Below B w w':=
 ⟨h.fr.os,h.fr.tape,h.fr.output,h.fr.size,fun k hk=>h.fr.keep k (ZR hk hB) (fun e=>by have:=hS k e;omega)⟩
theorem Mv.keep {S S':Bl} {w w':World} (h:Mv S w S' w') {k:Nat} (hk:k < w.heap.size) (hs:¬ S k):w'.heap[k]? =w.heap[k]? :=h.fr.keep k hk hs
structure aJ (B:Nat) (K:World->Bl->Prop):Prop where
 keep:∀ {w w':World} {S:Bl},K w S->(∀ k,S k->w'.heap[k]? =w.heap[k]?)->w.heap.size<=w'.heap.size->K w' S
 lt:∀ {w:World} {S:Bl} {k:Nat},K w S->S k->k < w.heap.size
 ge:∀ {w:World} {S:Bl} {k:Nat},K w S->S k->B<=k
def oo (S R:Bl):Prop:=∀ k,S k->¬ R k
theorem oo.symm {S R:Bl} (h:oo S R):oo R S:=fun k a b=>h k b a
theorem aJ.on {B:Nat} {K:World->Bl->Prop} (hT:aJ B K) {w w':World} {S R R':Bl} (h:K w S) (m:Mv R w R' w') (hd:oo S R):K w' S/\oo S R':=
 ⟨hT.keep h (fun k hk=>m.keep (hT.lt h hk) (hd k hk)) m.size,fun k hk hr=>(m.new k hr).elim (hd k hk) (fun e=>by have:=hT.lt h hk;omega)⟩
theorem aJ.drewN {B:Nat} {K:World->Bl->Prop} (hT:aJ B K) {w:World} {S:Bl} (h:K w S) (q:Nat):K (w.drewN q) S:=hT.keep h (fun _ _=>rfl) (ZX _)
theorem aJ.grow {B:Nat} {K:World->Bl->Prop} (hT:aJ B K) {w w':World} {S:Bl} (h:K w S) (hb:Below w w w'):K w' S:=hT.keep h (fun k hk=>hb.block k (hT.lt h hk)) hb.size
theorem aJ.alloc {B:Nat} {K:World->Bl->Prop} (hT:aJ B K) {w:World} {S:Bl} (h:K w S) (o:Obj):K (w.alloc o) S:=hT.grow h ((ZV _ w).alloc (ZX _) o)
def ob (v:Value):Bl:=fun k=>v.ownBlock=some k
def cC (b:Nat):Bl:=fun k=>k=b
def cT (S R:Bl):Bl:=fun k=>S k\/R k
def bM (D:World->Bl->List UInt8->Prop) (ok:List UInt8->Prop) (et:TypeId) (ev:Value) (S:Bl) (w:World) (X out:List UInt8) (G:World->Bl->Prop) (e:Ending) (w':World):Prop:=
 (ok (X++out)/\e=.returned .nilIface/\∃ S',G w' S'/\Mv S w S' w')\/
 (¬ ok (X++out)/\e=.returned (.iface et ev)/\∃ S' Y,D w' S' Y/\X <+:Y/\Y <+:X++out/\Mv S w S' w')
structure fT (B:Nat) (K D:World->Bl->List UInt8->Prop) (ok:List UInt8->Prop) (M:Nat) (ty:TypeId) (q q':Value) (f:FuncId) (et:TypeId) (ev:Value):Prop where
 thing:∀ X,aJ B (fun w S=>K w S X)
 dead:∀ X,aJ B (fun w S=>D w S X)
 hn:∀ wx,(nilAhead 465 ty q "Write").run prog wx=.ok (some false) wx
 hm:∀ wx,(method 465 ty q "Write").run prog wx=.ok (f,q') wx
 he:∀ args wx,(callFunc f args).run prog wx=.ok (.enter f args) wx
 okp:∀ X Y,ok (X++Y)->ok X
 kok:∀ {w S X},K w S X->ok X
 write:∀ w S X (s:ByteArray),K w S X->X.length+s.size<=M->CP f #[q',s] w (bM D ok et ev S w X s.data.toList (fun w' S'=>K w' S' (X++s.data.toList)))
theorem bM.nil {D:World->Bl->List UInt8->Prop} {ok:List UInt8->Prop} {et:TypeId} {ev:Value} {S S':Bl} {w w':World} {X:List UInt8} {G:World->Bl->Prop} (hk:ok X) (hG:G w' S') (hm:Mv S w S' w'):bM D ok et ev S w X [] G (.returned .nilIface) w':=
 .inl ⟨by rw [Zm];exact hk,rfl,S',hG,hm⟩
theorem bM.imp {D:World->Bl->List UInt8->Prop} {ok:List UInt8->Prop} {et:TypeId} {ev:Value} {S:Bl} {w w':World} {X out:List UInt8} {G G':World->Bl->Prop} {e:Ending} (h:bM D ok et ev S w X out G e w') (hG:∀ S',G w' S'->G' w' S'):bM D ok et ev S w X out G' e w':=by
 rcases h with ⟨a,b,S',c,d⟩ | h
 ·exact .inl ⟨a,b,S',hG _ c,d⟩
 ·exact .inr h
theorem bM.fail {D:World->Bl->List UInt8->Prop} {ok:List UInt8->Prop} (okp:∀ X Y,ok (X++Y)->ok X) {et:TypeId} {ev:Value} {S S1 S':Bl} {w w1 w':World} {X X1 o1 out Y:List UInt8} {G:World->Bl->Prop}
  (hm:Mv S w S1 w1) (hx:X <+:X1) (ho:X1++o1 <+:X++out) (hn:¬ ok (X1++o1)) (hD:D w' S' Y) (h1:X1 <+:Y) (h2:Y <+:X1++o1) (hm':Mv S1 w1 S' w'):bM D ok et ev S w X out G (.returned (.iface et ev)) w':=by
 refine .inr ⟨fun h=>hn ?_,rfl,S',Y,hD,hx.trans h1,h2.trans ho,hm.trans hm'⟩;obtain ⟨t,ht⟩:=ho;rw [<-ht] at h;exact okp _ _ h
abbrev As:=World->Bl->Prop
def ah (P Q:As):As:=fun w S=>∃ S1 S2,P w S1/\Q w S2/\oo S1 S2/\S=cT S1 S2
theorem ah.thing {B:Nat} {P Q:As} (hP:aJ B P) (hQ:aJ B Q):aJ B (ah P Q) where
 keep:=by
  rintro w w' S ⟨S1,S2,h1,h2,ho,rfl⟩ hk hz;exact ⟨S1,S2,hP.keep h1 (fun k e=>hk k (.inl e)) hz,hQ.keep h2 (fun k e=>hk k (.inr e)) hz,ho,rfl⟩
 lt:=by
  rintro w S k ⟨S1,S2,h1,h2,ho,rfl⟩ (e | e)
  ·exact hP.lt h1 e
  ·exact hQ.lt h2 e
 ge:=by
  rintro w S k ⟨S1,S2,h1,h2,ho,rfl⟩ (e | e)
  ·exact hP.ge h1 e
  ·exact hQ.ge h2 e
theorem ah.swap {P Q:As} {w:World} {S:Bl} (h:ah P Q w S):ah Q P w S:=by
 obtain ⟨S1,S2,h1,h2,ho,rfl⟩:=h;refine ⟨S2,S1,h2,h1,ho.symm,?_⟩;funext k
 exact propext Or.comm
theorem ah.assoc {P Q R:As} {w:World} {S:Bl} (h:ah (ah P Q) R w S):ah P (ah Q R) w S:=by
 obtain ⟨_,S3,⟨S1,S2,h1,h2,ho,rfl⟩,h3,ho2,rfl⟩:=h;refine ⟨S1,cT S2 S3,h1,⟨S2,S3,h2,h3,fun k e=>ho2 k (.inr e),rfl⟩,?_,?_⟩
 ·rintro k e (e2 | e2)
  ·exact ho k e e2
  ·exact ho2 k (.inl e) e2
 ·funext k
  exact propext or_assoc
theorem ah.assocR {P Q R:As} {w:World} {S:Bl} (h:ah P (ah Q R) w S):ah (ah P Q) R w S:=by
 obtain ⟨S1,_,h1,⟨S2,S3,h2,h3,ho,rfl⟩,ho2,rfl⟩:=h;refine ⟨cT S1 S2,S3,⟨S1,S2,h1,h2,fun k e e2=>ho2 k e (.inl e2),rfl⟩,h3,?_,?_⟩
 ·rintro k (e | e) e2
  ·exact ho2 k e (.inr e2)
  ·exact ho k e e2
 ·funext k
  exact propext or_assoc.symm
theorem ah.left {B:Nat} {P' Q:As} (hQ:aJ B Q) {w w':World} {S1 S1' S2:Bl} (h2:Q w S2) (ho:oo S1 S2) (h':P' w' S1') (m:Mv S1 w S1' w'):ah P' Q w' (cT S1' S2)/\Mv (cT S1 S2) w (cT S1' S2) w':=by
 obtain ⟨a,b⟩:=hQ.on h2 m ho.symm;exact ⟨⟨S1',S2,h',a,b.symm,rfl⟩,m.mono (fun k e=>.inl e) (fun k e=>e.elim .inl (fun e=>.inr (.inr e)))⟩
theorem ah.new {B:Nat} {P Q:As} (hQ:aJ B Q) {w w':World} {S1 S2:Bl} (h2:Q w S2) (h1:P w' S1) (hg:Below w w w') (hn:∀ k,S1 k->w.heap.size<=k):ah P Q w' (cT S1 S2)/\Mv S2 w (cT S1 S2) w':=by
 refine ⟨⟨S1,S2,h1,hQ.grow h2 hg,fun k e e2=>?_,rfl⟩,⟨(Mv.grow hg S2).fr,?_⟩⟩
 ·have:=hn k e;have:=hQ.lt h2 e2;omega
 ·rintro k (e | e)
  ·exact .inr (hn k e)
  ·exact .inl e
theorem ah.drop {P Q:As} {w:World} {S:Bl} (h:ah P Q w S):∃ S1,P w S1/\Mv S w S1 w:=by
 obtain ⟨S1,S2,h1,_,_,rfl⟩:=h;exact ⟨S1,h1,⟨Fr.refl _ _,fun k e=>.inl (.inl e)⟩⟩
def aS (B b:Nat) (vs:List Value):As:=fun w S=>S=cC b/\B<=b/\b < w.heap.size/\(∀ i v,vs[i]? =some v->w.cell? (zq b i)=some v)/\∀ o,w.frozen? (zq b o)=false
theorem aS.thing (B b:Nat) (vs:List Value):aJ B (aS B b vs) where
 keep:=by
  rintro w w' S ⟨rfl,hB,hb,hc,hf⟩ hk hz;have hblk:=hk b rfl;exact ⟨rfl,hB,ZR hb hz,fun i v hv=>(ZS (a:=zq b i) hblk).trans (hc i v hv),fun o=>(ZJ (a:=zq b o) hblk).trans (hf o)⟩
 lt:=by
  rintro w S k ⟨rfl,hB,hb,_⟩ rfl;exact hb
 ge:=by
  rintro w S k ⟨rfl,hB,hb,_⟩ rfl;exact hB
theorem aS.at {B b:Nat} {vs:List Value} {w:World} {S:Bl} (h:aS B b vs w S) (i:Nat) (v:Value) (hv:vs[i]? =some v):w.cell? (zq b i)=some v:=h.2.2.2.1 i v hv
theorem aS.fz {B b:Nat} {vs:List Value} {w:World} {S:Bl} (h:aS B b vs w S) (o:Nat):w.frozen? (zq b o)=false:=h.2.2.2.2 o
theorem aS.set {B b:Nat} {vs:List Value} {w:World} {S:Bl} (h:aS B b vs w S) (i:Nat) (v:Value) (hi:i < vs.length):aS B b (vs.set i v) (w.setCell (zq b i) v) S/\Mv S w S (w.setCell (zq b i) v):=by
 obtain ⟨rfl,hB,hb,hc,hf⟩:=h;refine ⟨⟨rfl,hB,by simpa [World.setCell] using hb,?_,fun o=>by rw [ZG];exact hf o⟩,⟨⟨rfl,rfl,rfl,by simp [World.setCell],fun k _ hk=>YP _ _ _ _ hk⟩,fun k e=>.inl e⟩⟩;intro j u hu;by_cases hj:i=j
 ·subst hj;have:(vs.set i v)[i]? =some v:=by simp [hi]
  rw [this] at hu;cases hu;exact ZA (u:=vs[i]) _ _ _ (hc i _ (by simp [hi]))
 ·rw [List.getElem?_set_ne hj] at hu;rw [ZT _ _ _ _ (by intro e;cases e;exact hj rfl)];exact hc j u hu
theorem aS.alloc {B:Nat} {vs:List Value} {w:World} {t:TypeId} (hB:B<=w.heap.size):aS B w.heap.size vs (w.alloc (.cells vs.toArray t)) (cC w.heap.size):=by
 refine ⟨rfl,hB,by simp,?_,fun o=>by simp⟩;intro i v hv;have:=(Zv.1 hv);obtain ⟨hi,rfl⟩:=this;simp [hi]
def aW (B:Nat) (e:TypeId) (z:Nat) (v:Value) (n:Nat) (xs:List Value):As:=fun w S=>S=ob v/\w.ownsRow B e z v n xs
theorem eZ {w w':World} {base:Nat} {e:TypeId} {z:Nat} {v:Value} {n:Nat} {xs:List Value} (h:w.ownsRow base e z v n xs) (hk:∀ g,v.ownBlock=some g->w'.heap[g]? =w.heap[g]?):w'.ownsRow base e z v n xs:=by
 refine ⟨h.1,?_⟩;rcases h.2 with h2 | ⟨g,cap,cur,rfl,a,b,c⟩
 ·exact .inl h2
 ·exact .inr ⟨g,cap,cur,rfl,a,(hk g rfl).trans b,c⟩
theorem aW.thing (B:Nat) (e:TypeId) (z:Nat) (v:Value) (n:Nat) (xs:List Value):aJ B (aW B e z v n xs) where
 keep:=by
  rintro w w' S ⟨rfl,h⟩ hk hz;exact ⟨rfl,eZ h (fun g hg=>hk g hg)⟩
 lt:=by
  rintro w S k ⟨rfl,h⟩ hk;exact (h.lt k hk).2
 ge:=by
  rintro w S k ⟨rfl,h⟩ hk;exact (h.lt k hk).1
theorem aW.nil (B:Nat) (e:TypeId) (z:Nat) (w:World):aW B e z (.slice none 0 0) 0 [] w (ob (.slice none 0 0)):=⟨rfl,Yq _ _ _ _⟩
theorem ah.fst {B:Nat} {P Q:As} (hQ:aJ B Q) {w:World} {S:Bl} (h:ah P Q w S):∃ S1,P w S1/\(∀ k,S1 k->S k)/\∀ (P':As) w' S1',P' w' S1'->Mv S1 w S1' w'->∃ S',ah P' Q w' S'/\Mv S w S' w':=by
 obtain ⟨S1,S2,h1,h2,ho,rfl⟩:=h;exact ⟨S1,h1,fun k e=>.inl e,fun P' w' S1' h' m=>⟨_,ah.left hQ h2 ho h' m⟩⟩
theorem ah.snd {B:Nat} {P Q:As} (hP:aJ B P) {w:World} {S:Bl} (h:ah P Q w S):∃ S1,Q w S1/\(∀ k,S1 k->S k)/\∀ (Q':As) w' S1',Q' w' S1'->Mv S1 w S1' w'->∃ S',ah P Q' w' S'/\Mv S w S' w':=by
 obtain ⟨S1,h1,hs,k⟩:=h.swap.fst hP;refine ⟨S1,h1,hs,fun Q' w' S1' h' m=>?_⟩;obtain ⟨S',a,b⟩:=k Q' w' S1' h' m;exact ⟨S',a.swap,b⟩
theorem ah.mid {B:Nat} {P Q R:As} (hP:aJ B P) (hR:aJ B R) {w:World} {S:Bl} (h:ah P (ah Q R) w S):∃ S1,Q w S1/\(∀ k,S1 k->S k)/\∀ (Q':As) w' S1',Q' w' S1'->Mv S1 w S1' w'->∃ S',ah P (ah Q' R) w' S'/\Mv S w S' w':=by
 obtain ⟨S2,h2,hs,k⟩:=h.snd hP;obtain ⟨S1,h1,hs1,k1⟩:=h2.fst hR;refine ⟨S1,h1,fun k e=>hs k (hs1 k e),fun Q' w' S1' h' m=>?_⟩;obtain ⟨S2',a,b⟩:=k1 Q' w' S1' h' m;exact k _ w' S2' a b
theorem ah.third {B:Nat} {P Q R:As} (hP:aJ B P) (hQ:aJ B Q) {w:World} {S:Bl} (h:ah P (ah Q R) w S):∃ S1,R w S1/\(∀ k,S1 k->S k)/\∀ (R':As) w' S1',R' w' S1'->Mv S1 w S1' w'->∃ S',ah P (ah Q R') w' S'/\Mv S w S' w':=by
 obtain ⟨S2,h2,hs,k⟩:=h.snd hP;obtain ⟨S1,h1,hs1,k1⟩:=h2.snd hQ;refine ⟨S1,h1,fun k e=>hs k (hs1 k e),fun R' w' S1' h' m=>?_⟩;obtain ⟨S2',a,b⟩:=k1 R' w' S1' h' m;exact k _ w' S2' a b
theorem bM.lift {D:World->Bl->List UInt8->Prop} {ok:List UInt8->Prop} {et:TypeId} {ev:Value} {S S':Bl} {w w':World} {X out:List UInt8} {G G':As} {e:Ending} (hs:∀ k,S k->S' k) (hu:∀ S9,G w' S9->Mv S w S9 w'->∃ T,G' w' T/\Mv S' w T w') (h:bM D ok et ev S w X out G e w'):bM D ok et ev S' w X out G' e w':=by
 rcases h with ⟨a,b,S9,c,m⟩ | ⟨a,b,S9,Y,c,d1,d2,m⟩
 ·obtain ⟨T,x,y⟩:=hu S9 c m;exact .inl ⟨a,b,T,x,y⟩
 ·exact .inr ⟨a,b,S9,Y,c,d1,d2,m.mono hs (fun k e=>.inl e)⟩
theorem bM.pre {D:World->Bl->List UInt8->Prop} {ok:List UInt8->Prop} {et:TypeId} {ev:Value} {S S1:Bl} {w w1 w':World} {X out:List UInt8} {G:World->Bl->Prop} {e:Ending} (hm:Mv S w S1 w1) (h:bM D ok et ev S1 w1 X out G e w'):bM D ok et ev S w X out G e w':=by
 rcases h with ⟨a,b,S',c,d⟩ | ⟨a,b,S',Y,c,d1,d2,d3⟩
 ·exact .inl ⟨a,b,S',c,hm.trans d⟩
 ·exact .inr ⟨a,b,S',Y,c,d1,d2,hm.trans d3⟩
theorem aW.moved {B:Nat} {e:TypeId} {z:Nat} {v v':Value} {n':Nat} {xs':List Value} {w w':World} (hg:w.grownBy w' v.ownBlock) (ho:w'.ownsRow B e z v' n' xs') (hat:v'.ownBlock=v.ownBlock\/v'.ownBlock=some w.heap.size):aW B e z v' n' xs' w' (ob v')/\Mv (ob v) w (ob v') w':=by
 refine ⟨⟨rfl,ho⟩,⟨⟨hg.os,hg.tape,hg.output,hg.size,fun k hk hb=>hg.block k hk (fun e=>hb e.symm)⟩,?_⟩⟩;intro k hk;rcases hat with e | e
 ·exact .inl (by unfold ob at hk ⊢;rw [<-e];exact hk)
 ·unfold ob at hk;rw [e] at hk;cases hk;exact .inr (ZX _)
theorem aW.form {B:Nat} {e:TypeId} {z:Nat} {v:Value} {n:Nat} {xs:List Value} {w:World} {S:Bl} (h:aW B e z v n xs w S):∃ ad cap,v=.slice ad n cap:=by
 rcases h.2.2 with ⟨hu,hz⟩ | ⟨gg,cap,cur,hu,_⟩
 ·exact ⟨none,0,by rw [hu,hz]⟩
 ·exact ⟨_,_,hu⟩
theorem bQ {ops:Array Oper} {rest:List Oper} {o:Oper} {a:Act} {w:World} {Q:Exit->Act->World->Prop} (hgd:o.guard=none) (sl x:Operand) (t:TypeId)
  (ho:o.op=.call {callee:=.builtin .append,args:=#[sl,x],argTypes:=#[t,t]}) (e:TypeId) (zero:Value) (z bytes:Nat) (hi:(Tryz.prog.info? e).map (fun i=>(i.zero,i.size,i.bytes))=some (some zero,z,bytes)) (hzs:zero.cells.size=z) (hz:0 < z) (ht:Tryz.prog.underlying t=some (.slice e))
  (base:Nat) (v:Value) (n:Nat) (xs:List Value) (hs:a.eval sl=v) (h:w.ownsRow base e z v n xs) (hb:base<=w.heap.size) (ad:Addr) (m:Nat) (hx:a.eval x=.slice (some ad) 1 m) (news:List Value) (hl:news.length=z) (hnews:∀ j u,news[j]? =some u->w.cell? (ad.add j)=some u) (h1:∀ u∈news,u.oneCell'=true)
  (hn:n<=1000000000) (hby:bytes<=1000)
  (hk:∀ v' w',w'.ownsRow base e z v' (n+1) (xs++news)->w.grownBy w' v.ownBlock->(v'.ownBlock=v.ownBlock\/v'.ownBlock=some w.heap.size)->wpList prog ops Q rest (a.put o.dst v') w'):wpList prog ops Q (o::rest) a w:=by
 refine wpList_plain hgd fun K hK=>?_
 obtain ⟨i0,hi0,hz0,hz1,hz2⟩:=Xn hi;have hb2:(n+1)*bytes<=140737488355328:=ZN (Xx (n+1) hby) (by omega);obtain ⟨v',w',hr,h2,h3,_,h4⟩:=run_append_own_at (P:=prog) w base t o.type e i0 zero z bytes ht hi0 hz0 hz1 hz2 hzs hz v n xs h ad 1 m news (by rw [hl];omega) hnews h1 (by unfold maxLen;omega) hb2 hb;unfold Oper.wp execOp;simp only [ho,resolve,invoke,builtin,Xt,Xu,Yc,XU,YC,XT,hs,hx,hr];exact hK _ _ (hk v' w' h2 h3 h4)
theorem r6 {ops:Array Oper} {o:Oper} {a:Act} {w:World} {K:Act->World->Prop} {Q:Exit->Act->World->Prop} {E:Prop} (hgd:o.guard=none) (sl x:Operand) (t:TypeId)
  (ho:o.op=.call {callee:=.builtin .append,args:=#[sl,x],argTypes:=#[t,t]}) (e:TypeId) (zero:Value) (z bytes:Nat) (hi:(Tryz.prog.info? e).map (fun i=>(i.zero,i.size,i.bytes))=some (some zero,z,bytes)) (hzs:zero.cells.size=z) (hz:0 < z) (ht:Tryz.prog.underlying t=some (.slice e))
  (base:Nat) (v:Value) (n:Nat) (xs:List Value) (hs:a.eval sl=v) (h:w.ownsRow base e z v n xs) (hb:base<=w.heap.size) (ad:Addr) (m:Nat) (hx:a.eval x=.slice (some ad) 1 m) (news:List Value) (hl:news.length=z) (hnews:∀ j u,news[j]? =some u->w.cell? (ad.add j)=some u) (h1:∀ u∈news,u.oneCell'=true)
  (hn:n<=1000000000) (hby:bytes<=1000)
  (hk:∀ v' w',w'.ownsRow base e z v' (n+1) (xs++news)->w.grownBy w' v.ownBlock->(v'.ownBlock=v.ownBlock\/v'.ownBlock=some w.heap.size)->K (a.put o.dst v') w'):
  if Region.wanted o (yielded ops a.tmps)=true then Oper.wp prog o a w K Q else E:=by
 have hw:Region.wanted o (yielded ops a.tmps)=true:=by simp [Region.wanted,hgd]
 rw [ZO hw];obtain ⟨i0,hi0,hz0,hz1,hz2⟩:=Xn hi;have hb2:(n+1)*bytes<=140737488355328:=ZN (Xx (n+1) hby) (by omega);obtain ⟨v',w',hr,h2,h3,_,h4⟩:=run_append_own_at (P:=prog) w base t o.type e i0 zero z bytes ht hi0 hz0 hz1 hz2 hzs hz v n xs h ad 1 m news (by rw [hl];omega) hnews h1 (by unfold maxLen;omega) hb2 hb;unfold Oper.wp execOp;simp only [ho,resolve,invoke,builtin,Xt,Xu,Yc,XU,YC,XT,hs,hx,hr];exact hk v' w' h2 h3 h4
theorem qk (w:World) (x:Value) (t:TypeId):∀ j u,[x][j]? =some u->(w.alloc (.cells #[x] t)).cell? ((⟨w,0,none⟩:Addr).add j)=some u:=by
 intro j u hj
 match j,hj with
 | 0,hj=>simp at hj;subst hj;simp [Addr.add]
 | (j+1),hj=>simp at hj
def pO (row:Option Nat) (news:List Value) (v:Value) (w:World):Prop:=∃ b,v=.slice (zp b) 1 1/\b < w.heap.size/\some b≠row/\∀ j u,news[j]? =some u->w.cell? (zq b j)=some u
def gq (w0:World) (row:Option Nat) (B:Nat) (e:TypeId) (z n:Nat) (xs:List Value) (v:Value) (w:World):Prop:=w.ownsRow B e z v n xs/\(v.ownBlock=row\/∃ k,v.ownBlock=some k/\w0.heap.size<=k)
def pK (w0:World) (l:List Value) (kb ka:Nat) (news:List Value) (row:Option Nat) (B:Nat) (e:TypeId) (z n:Nat) (xs:List Value) (k:Nat) (v:Value) (w:World):Prop:=
 if k=kb then pO row news v w else if k=ka then gq w0 row B e z n xs v w else v=l.getD k undef
theorem lT (row:Option Nat) (w:World):w.grownBy w row:=⟨rfl,rfl,rfl,ZX _,fun _ _ _=>rfl⟩
theorem lV {row:Option Nat} {w w' w'':World} (h:w.grownBy w' row) (g:af w' w''):w.grownBy w'' row:=
 ⟨g.os.trans h.os,g.tape.trans h.tape,g.output.trans h.output,ZN h.size g.size,fun k hk hr=>(g.block k (ZR hk h.size)).trans (h.block k hk hr)⟩
theorem fE {row:Option Nat} {w w' w'':World} (g:af w w') (h:w'.grownBy w'' row):w.grownBy w'' row:=
 ⟨h.os.trans g.os,h.tape.trans g.tape,h.output.trans g.output,ZN g.size h.size,fun k hk hr=>(h.block k (ZR hk g.size) hr).trans (g.block k hk)⟩
theorem pO.on {row:Option Nat} {news:List Value} {v:Value} {w w':World} (h:pO row news v w) (g:w.grownBy w' row):pO row news v w':=by
 obtain ⟨b,rfl,hb,hr,hc⟩:=h;exact ⟨b,rfl,ZR hb g.size,hr,fun j u hj=>(ZS (a:=zq b j) (g.block b hb hr)).trans (hc j u hj)⟩
theorem BI {row:Option Nat} {w w':World} (g:af w w'):w.grownBy w' row:=lV (lT row w) g
theorem oY {w w':World} {base:Nat} {e:TypeId} {z:Nat} {v:Value} {n:Nat} {xs:List Value} (h:w.ownsRow base e z v n xs) (g:af w w'):w'.ownsRow base e z v n xs:=
 eZ h fun k hk=>g.block k (h.lt k hk).2
theorem pZ {w0:World} {l:List Value} {kb ka:Nat} {news:List Value} {row:Option Nat} {B:Nat} {e:TypeId} {z n:Nat} {xs:List Value} {N:Nat}:∀ k v w w',k < N->pK w0 l kb ka news row B e z n xs k v w->af w w'->pK w0 l kb ka news row B e z n xs k v w':=by
 intro k v w w' _ h g;unfold pK at h ⊢;split at h
 ·rename_i hk;rw [ZO hk];exact h.on (BI g)
 ·rename_i hk
  rw [ZU hk];split at h
  ·rename_i hk2;rw [ZO hk2];exact ⟨oY h.1 g,h.2⟩
  ·rename_i hk2;rw [ZU hk2];exact h
theorem mZ {w0:World} {l:List Value} {kb ka:Nat} {news:List Value} {row:Option Nat} {B:Nat} {e:TypeId} {z n:Nat} {xs:List Value} {N:Nat}:∀ k v w w',k < N->k≠ka->pK w0 l kb ka news row B e z n xs k v w->w.grownBy w' row->pK w0 l kb ka news row B e z n xs k v w':=by
 intro k v w w' _ hka h g;unfold pK at h ⊢;split at h
 ·rename_i hk;rw [ZO hk];exact h.on g
 ·rename_i hk
  rw [ZU hk];rw [ZU hka]
  first
   | exact h
   | (rw [ZU hka] at h;exact h)
theorem jI {row:Option Nat} {w:World} (cs:Array Value) (t:TypeId) (hrow:∀ k,row=some k->k < w.heap.size):pO row cs.toList (.slice w 1 1) (w.alloc (.cells cs t)):=by
 refine ⟨w.heap.size,rfl,by simp,fun e=>by have:=hrow _ e.symm;omega,fun j u hj=>?_⟩;obtain ⟨hi,rfl⟩:=Zv.1 hj;have hi2:j < cs.size:=by simpa using hi
 simp [hi2]
theorem gq.form {w w':World} {row:Option Nat} {B:Nat} {e:TypeId} {z n:Nat} {xs:List Value} {v':Value} (h:gq w row B e z n xs v' w'):∃ ad cap,v'=.slice ad n cap:=by
 rcases h.1.2 with ⟨hu,hz⟩ | ⟨gg,cap,cur,hu,_⟩
 ·exact ⟨none,0,by rw [hu,hz]⟩
 ·exact ⟨_,_,hu⟩
theorem gq.moved {w w':World} {B:Nat} {e:TypeId} {z n:Nat} {xs:List Value} {v v':Value} (h:gq w v.ownBlock B e z n xs v' w') (g:w.grownBy w' v.ownBlock):aW B e z v' n xs w' (ob v')/\Mv (ob v) w (ob v') w':=by
 refine ⟨⟨rfl,h.1⟩,⟨⟨g.os,g.tape,g.output,g.size,fun k hk hb=>g.block k hk (fun e=>hb e.symm)⟩,?_⟩⟩;intro k hk;rcases h.2 with e | ⟨j,e,hj⟩
 ·exact .inl (by unfold ob at hk ⊢;rw [<-e];exact hk)
 ·unfold ob at hk;rw [e] at hk;cases hk;exact .inr hj
theorem nJ {ops:Array Oper} {o:Oper} {a:Act} {w0 w:World} (hgd:o.guard=none) (sl x:Operand) (t:TypeId)
  (ho:o.op=.call {callee:=.builtin .append,args:=#[sl,x],argTypes:=#[t,t]}) (e:TypeId) (zero:Value) (z bytes:Nat) (hi:(Tryz.prog.info? e).map (fun i=>(i.zero,i.size,i.bytes))=some (some zero,z,bytes)) (hzs:zero.cells.size=z) (hz:0 < z) (ht:Tryz.prog.underlying t=some (.slice e))
  (B:Nat) (v:Value) (n:Nat) (xs:List Value) (hs:a.eval sl=v) (h:w0.ownsRow B e z v n xs) (hB:B<=w0.heap.size) (hG:af w0 w) (vb:Value) (hx:a.eval x=vb) (news:List Value) (hN:pO v.ownBlock news vb w) (hl:news.length=z) (h1:∀ u∈news,u.oneCell'=true)
  (hn:n<=1000000000) (hby:bytes<=1000) (hd:∃ d,o.dst=some d/\d < a.tmps.size):
  wpList prog ops (fun e' b w''=>e'=.normal/\b.defers=a.defers/\(gq w0 v.ownBlock B e z (n+1) (xs++news) (dS o b) w''/\w.grownBy w'' v.ownBlock)) [o] a w:=by
 obtain ⟨b,rfl,hb,hr,hc⟩:=hN;refine bQ hgd sl x t ho e zero z bytes hi hzs hz ht B v n xs hs (oY h hG) (ZN hB hG.size) ⟨b,0,none⟩ 1 hx news hl (fun j u hj=>by cases j with
  | zero=>simpa [Addr.add] using hc 0 u hj
  | succ j=>simpa [Addr.add] using hc (j+1) u hj) h1 hn hby ?_
 intro v' w' ho' hg' hat;refine Zq ⟨rfl,fq _ _ _,?_,hg'⟩;obtain ⟨d,hd1,hd2⟩:=hd;have e1:dS o (a.put o.dst v')=v':=by
  have:=rL o a v' (fun d' h'=>by rw [hd1] at h';cases h';exact hd2);rw [this,hd1]
 rw [e1];refine ⟨ho',?_⟩;rcases hat with e | e
 ·exact .inl e
 ·exact .inr ⟨_,e,hG.size⟩
theorem Tryz.infoMk:(Tryz.prog.info? 98).map (fun i=>(i.zero,i.size,i.bytes))=some (some (.agg #[.string ⟨#[]⟩,oz]),2,24):=by kernel_rfl
theorem uT (w:World) (B y:Nat) (s:ByteArray) (n cap N capp:Nat) (ad adp:Option Addr) (ms:List Value) (hn:n < 20) (hN:0 < N) (hN2:N<=1000) (hs0:s.toList.isEmpty=false) (hs:s.size<=100) (c3:w.cell? (zq y 3)=true) (c1:w.cell? (zq y 1)=some (.slice adp N capp)) (c2:w.cell? (zq y 2)=some (.slice ad n cap)) (fz:∀ o,w.frozen? (zq y o)=false) (hy:y < w.heap.size) (hB:B<=w.heap.size) (ow:w.ownsRow B 98 2 (.slice ad n cap) n ms) (ne:(Value.slice ad n cap).ownBlock≠some y) (Z:Ending->World->Prop)
  (HZ:Hid (∀ v w7,w.grownBy w7 (Value.slice ad n cap).ownBlock->gq w (Value.slice ad n cap).ownBlock B 98 2 (n+1) (ms++[.string s,.int .i64 ((N:Int) - 1)]) v w7->Z (.returned (0:Int)) (w7.setCell (zq y 2) v))):
  CP 62 #[zp y,s] w Z:=by
 have d1:decide (100 < (s.size:Int))=false:=by simp;omega
 have d2:decide (20<=(n:Int))=false:=by simp;omega
 have f2:=fz 2;go_enter func62,ntmps62
 go_wp2_with fail
 refine cW 17 _ 16 (fun w w'=>w.grownBy w' (Value.slice ad n cap).ownBlock) (pK w [.pointer (some ⟨y,0,none⟩),.pointer (some ⟨y,0,none⟩),.pointer (some ⟨y,0,none⟩),.pointer (some ⟨y,0,none⟩),.pointer (some ⟨y,2,none⟩),.slice ad n cap,.string s,.pointer (some ⟨y,0,none⟩),.pointer (some ⟨y,0,none⟩),.pointer (some ⟨y,0,none⟩),.pointer (some ⟨y,1,none⟩),.slice adp N capp,.int .i64 (N:Int),.int .i64 ((N:Int) - 1),.agg #[s,((N:Int) - 1:Int)],undef,undef] 15 16 [.string s,.int .i64 ((N:Int) - 1)] (Value.slice ad n cap).ownBlock B 98 2 (n+1) (ms++[.string s,.int .i64 ((N:Int) - 1)])) (by kernel_rfl) rfl (by kernel_rfl) (lT _) (fun _ _ _=>lV) (fun _ _ _=>fE) pZ mZ ?_;simp only [TD];refine ⟨aB (by decide) fun w1 hG hd=>?_,fun v0=>?_⟩
 ·clear hd;go_wp2;exact RG
 simp only [TN];refine ⟨aB (by decide) fun w1 hG hd=>?_,fun v1=>?_⟩
 ·clear hd;go_wp2;exact RG
 simp only [TN];refine ⟨aB (by decide) fun w1 hG hd=>?_,fun v2=>?_⟩
 ·have d1:v1=.pointer (some ⟨y,0,none⟩):=hd ⟨1,.data⟩ (by simp) rfl;clear hd;subst d1;go_wp2;exact RG
 simp only [TN];refine ⟨aB (by decide) fun w1 hG hd=>?_,fun v3=>?_⟩
 ·have d2:v2=.pointer (some ⟨y,0,none⟩):=hd ⟨2,.data⟩ (by simp) rfl;clear hd;subst d2;go_wp2;exact RG
 simp only [TN];refine ⟨aB (by decide) fun w1 hG hd=>?_,fun v4=>?_⟩
 ·have d3:v3=.pointer (some ⟨y,0,none⟩):=hd ⟨3,.data⟩ (by simp) rfl;clear hd;subst d3;go_wp2;exact RG
 simp only [TN];refine ⟨aB (by decide) fun w1 hG hd=>?_,fun v5=>?_⟩
 ·have d4:v4=.pointer (some ⟨y,2,none⟩):=hd ⟨4,.data⟩ (by simp) rfl;clear hd;subst d4;have c:=(ZS (a:=zq y 2) (hG.block y hy (fun e=>ne e.symm))).trans c2;go_wp2;exact RG
 simp only [TN];refine ⟨aB (by decide) fun w1 hG hd=>?_,fun v6=>?_⟩
 ·clear hd;go_wp2;exact RG
 simp only [TN];refine ⟨aB (by decide) fun w1 hG hd=>?_,fun v7=>?_⟩
 ·clear hd;go_wp2;exact RG
 simp only [TN];refine ⟨aB (by decide) fun w1 hG hd=>?_,fun v8=>?_⟩
 ·have d7:v7=.pointer (some ⟨y,0,none⟩):=hd ⟨7,.data⟩ (by simp) rfl;clear hd;subst d7;go_wp2;exact RG
 simp only [TN];refine ⟨aB (by decide) fun w1 hG hd=>?_,fun v9=>?_⟩
 ·have d8:v8=.pointer (some ⟨y,0,none⟩):=hd ⟨8,.data⟩ (by simp) rfl;clear hd;subst d8;go_wp2;exact RG
 simp only [TN];refine ⟨aB (by decide) fun w1 hG hd=>?_,fun v10=>?_⟩
 ·have d9:v9=.pointer (some ⟨y,0,none⟩):=hd ⟨9,.data⟩ (by simp) rfl;clear hd;subst d9;go_wp2;exact RG
 simp only [TN];refine ⟨aB (by decide) fun w1 hG hd=>?_,fun v11=>?_⟩
 ·have d10:v10=.pointer (some ⟨y,1,none⟩):=hd ⟨10,.data⟩ (by simp) rfl;clear hd;subst d10;have c:=(ZS (a:=zq y 1) (hG.block y hy (fun e=>ne e.symm))).trans c1;go_wp2;exact RG
 simp only [TN];refine ⟨aB (by decide) fun w1 hG hd=>?_,fun v12=>?_⟩
 ·have d11:v11=.slice adp N capp:=hd ⟨11,.data⟩ (by simp) rfl;clear hd;subst d11;go_wp2;exact RG
 simp only [TN];refine ⟨aB (by decide) fun w1 hG hd=>?_,fun v13=>?_⟩
 ·have d12:v12=.int .i64 (N:Int):=hd ⟨12,.data⟩ (by simp) rfl;clear hd;subst d12;go_wp2;exact RG
 simp only [TN];refine ⟨aB (by decide) fun w1 hG hd=>?_,fun v14=>?_⟩
 ·have d6:v6=.string s:=hd ⟨6,.data⟩ (by simp) rfl;have d13:v13=.int .i64 ((N:Int) - 1):=hd ⟨13,.data⟩ (by simp) rfl;clear hd;subst d6 d13;go_wp2;exact RG
 simp only [TN];refine ⟨aB (by decide) fun w1 hG hd=>?_,fun v15=>?_⟩
 ·have d14:v14=.agg #[s,((N:Int) - 1:Int)]:=hd ⟨14,.data⟩ (by simp) rfl;clear hd;subst d14;go_wp2;exact ⟨jI _ _ (fun k hk=>ZR (ow.lt k hk).2 (World.grownBy.size hG)),(ZV _ _).alloc (ZX _) _⟩
 simp only [TN];refine ⟨dO rfl fun w1 hG hd=>?_,fun v16=>?_⟩
 ·have d5:v5=.slice ad n cap:=hd ⟨5,.data⟩ (by simp) rfl;have d15:pO _ _ v15 w1:=hd ⟨15,.data⟩ (by simp) rfl;clear hd;subst d5;exact nJ rfl (.tmp 32) (.tmp 42) 27 rfl 98 (.agg #[.string ⟨#[]⟩,oz]) 2 24 Tryz.infoMk rfl (by omega) underlying27 B (Value.slice ad n cap) n (ms) rfl ow hB hG v15 rfl [.string s,.int .i64 ((N:Int) - 1)] d15 rfl (by intro u hu;simp at hu;rcases hu with rfl | rfl <;> rfl) (by omega) (by omega) ⟨_,rfl,by simp [Act.put]⟩
 simp only [TN];intro w7 hG hd;have d0:v0=.pointer (some ⟨y,0,none⟩):=hd 0 (by omega);have d16:gq _ _ _ _ _ _ _ v16 w7:=hd 16 (by omega);subst d0;obtain ⟨ad7,cap7,hv7⟩:=d16.form;subst hv7;have HX:=aa (HZ.out _ w7 hG d16);have hb:=hG.block y hy (fun e=>ne e.symm);have k2:=(ZS (a:=zq y 2) hb).trans c2;have kf:=(ZJ (a:=zq y 2) hb).trans f2;clear hd HZ d16 hG hb c1 c2 c3 ow fz f2;go_wp2_with fail
 exact HX.out
theorem Tryz.infoPg2:(Tryz.prog.info? 100).map (fun i=>(i.zero,i.size,i.bytes))=some (some (.agg #[oz,oz,.slice none 0 0]),3,40):=by kernel_rfl
theorem kK (w:World) (cs:Array Value) (t:TypeId):∀ j u,cs.toList[j]? =some u->(w.alloc (.cells cs t)).cell? ((⟨w,0,none⟩:Addr).add j)=some u:=by
 intro j u hj;obtain ⟨hi,rfl⟩:=Zv.1 hj;have hi2:j < cs.size:=by simpa using hi
 cases j with
 | zero=>simp [Addr.add,hi2]
 | succ j=>simp [Addr.add,hi2]
theorem vB (w:World) (B y:Nat) (W H:Int) (N cap:Nat) (ad:Option Addr) (ps:List Value) (hN:N < 80) (hW:Hid (∀ wx,QE 109 #[W,(1:Int),(14400000:Int)] wx true)) (hH:Hid (∀ wx,QE 109 #[H,(1:Int),(14400000:Int)] wx true)) (c3:w.cell? (zq y 3)=false) (c15:w.cell? (zq y 15)=false) (c1:w.cell? (zq y 1)=some (.slice ad N cap)) (z:Value) (c14:w.cell? (zq y 14)=some z) (fz:∀ o,w.frozen? (zq y o)=false) (hy:y < w.heap.size) (hB:B<=w.heap.size) (ow:w.ownsRow B 100 3 (.slice ad N cap) N ps) (ne:(Value.slice ad N cap).ownBlock≠some y) (Z:Ending->World->Prop)
  (HZ:Hid (∀ v w7,w.grownBy w7 (Value.slice ad N cap).ownBlock->gq w (Value.slice ad N cap).ownBlock B 100 3 (N+1) (ps++[.int .i64 W,.int .i64 H,.slice none 0 0]) v w7->Z (.returned (0:Int)) (((w7.setCell (zq y 1) v).setCell (zq y 3) true).setCell (zq y 14) (0:Int)))):
  CP 58 #[zp y,W,H] w Z:=by
 have d2:decide (80<=(N:Int))=false:=by simp;omega
 have f1:=fz 1;have f3:=fz 3;have f14:=fz 14;go_enter func58,ntmps58
 go_wp2_with fail
 refine (hW.out _).mono ?_;rintro e w1 ⟨rfl,rfl⟩;go_wp2_with fail
 refine (hH.out _).mono ?_;rintro e w1 ⟨rfl,rfl⟩;go_wp2_with (at_builtin;refine bQ rfl (.tmp 44) (.tmp 48) 26 rfl 100 (.agg #[oz,oz,.slice none 0 0]) 3 40 Tryz.infoPg2 rfl (by omega) underlying26 B _ N ps rfl (ow.alloc _) (by simp;omega) ⟨w1,0,none⟩ 1 rfl [.int .i64 W,.int .i64 H,.slice none 0 0] rfl (kK w1 #[W,H,.slice none 0 0] _) (by intro u hu;simp at hu;rcases hu with rfl | rfl | rfl <;> rfl) (by omega) (by omega) ?_)
 intro v7 w7 hO7 hg7 hat7;have hG:w1.grownBy w7 (Value.slice ad N cap).ownBlock:=fE ((ZV _ w1).alloc (ZX _) _) hg7;have hA:gq w1 (Value.slice ad N cap).ownBlock B 100 3 (N+1) (ps++[.int .i64 W,.int .i64 H,.slice none 0 0]) v7 w7:=⟨hO7,hat7.elim .inl (fun e=>.inr ⟨_,e,by simp⟩)⟩;obtain ⟨ad7,cap7,hv7⟩:=hA.form;subst hv7;have HX:=aa (HZ.out _ w7 hG hA);have hb:=hG.block y hy (fun e=>ne e.symm);have k1:=(ZS (a:=zq y 1) hb).trans c1;have k3:=(ZS (a:=zq y 3) hb).trans c3;have k14:=(ZS (a:=zq y 14) hb).trans c14;have kf1:=(ZJ (a:=zq y 1) hb).trans f1;have kf3:=(ZJ (a:=zq y 3) hb).trans f3;have kf14:=(ZJ (a:=zq y 14) hb).trans f14;clear HZ hA hG hg7 hO7 hat7 hb c1 c3 c14 c15 ow fz f1 f3 f14 hW hH;go_wp2_with fail
 first
  | exact HX.out
  | (go_ret;exact HX.out)
theorem vK (w:World) (y:Nat) (W H:Int) (bw bh op cl:Bool) (N cap:Nat) (ad:Option Addr) (hN:N<=80) (hW:Hid (∀ wx,QE 109 #[W,(1:Int),(14400000:Int)] wx bw)) (hH:Hid (∀ wx,QE 109 #[H,(1:Int),(14400000:Int)] wx bh)) (c3:w.cell? (zq y 3)=op) (c15:w.cell? (zq y 15)=cl) (c1:w.cell? (zq y 1)=some (.slice ad N cap)) (h:op=true\/cl=true\/bw=false\/bh=false\/N=80):
  QD 58 #[zp y,W,H] w (.int .i64 (if op=true\/cl=true then 2 else if bw=false\/bh=false then 1 else 3)):=by
 cases op with
 | true=>
  clear h
  cases bw <;> cases bh <;> cases cl
  all_goals
   go_enter func58,ntmps58
   go_wp2_with fail
   refine (hW.out _).mono ?_;rintro e w1 ⟨rfl,rfl⟩;go_wp2_with fail
   refine (hH.out _).mono ?_;rintro e w1 ⟨rfl,rfl⟩;go_wp2;go_ret;exact ⟨by simp,0,rfl⟩
 | false=>
  cases cl with
  | true=>
   clear h;go_enter func58,ntmps58
   go_wp2_with fail
   refine (hW.out _).mono ?_;rintro e w1 ⟨rfl,rfl⟩;go_wp2_with fail
   refine (hH.out _).mono ?_;rintro e w1 ⟨rfl,rfl⟩;go_wp2;go_ret;exact ⟨by simp,0,rfl⟩
  | false=>
   cases bw with
   | false=>
    clear h;go_enter func58,ntmps58
    go_wp2_with fail
    refine (hW.out _).mono ?_;rintro e w1 ⟨rfl,rfl⟩;go_wp2_with fail
    refine (hH.out _).mono ?_;rintro e w1 ⟨rfl,rfl⟩;go_wp2;go_ret;exact ⟨by simp,0,rfl⟩
   | true=>
    cases bh with
    | false=>
     clear h;go_enter func58,ntmps58
     go_wp2_with fail
     refine (hW.out _).mono ?_;rintro e w1 ⟨rfl,rfl⟩;go_wp2_with fail
     refine (hH.out _).mono ?_;rintro e w1 ⟨rfl,rfl⟩;go_wp2;go_ret;exact ⟨by simp,0,rfl⟩
    | true=>
     have h2:N=80:=by simpa using h
     have d2:decide (80<=(N:Int))=true:=by simp;omega
     have d3:80<=N:=by omega
     clear h h2;go_enter func58,ntmps58
     go_wp2_with fail
     refine (hW.out _).mono ?_;rintro e w1 ⟨rfl,rfl⟩;go_wp2_with fail
     refine (hH.out _).mono ?_;rintro e w1 ⟨rfl,rfl⟩;go_wp2;go_ret;exact ⟨by simp,0,rfl⟩
theorem Tryz.infoOp2:(Tryz.prog.info? 31).map (fun i=>(i.zero,i.size,i.bytes))=some (some (.agg #[oz,oz,oz,oz,oz,oz,oz,oz,.string ⟨#[]⟩]),9,80):=by kernel_rfl
theorem uu (w:World) (B y g:Nat) (N cap n cp I:Nat) (ad:Option Addr) (K A X C D E Co Ro:Int) (t:ByteArray) (os:List Value) (hI:I+1=N) (hN2:N<=1000) (hcap:N<=cap) (hcap2:cap<=9223372036854775807) (hn:n<=1000000000) (c1:w.cell? (zq y 1)=some (.slice g N cap)) (cg2:w.cell? (zq g (I*3+2))=some (.slice ad n cp)) (fg:w.frozen? (zq g (I*3+2))=false) (hy:y < w.heap.size) (hgl:g < w.heap.size) (hB:B<=w.heap.size) (ow:w.ownsRow B 31 9 (.slice ad n cp) n os) (ne:(Value.slice ad n cp).ownBlock≠some y) (neg:(Value.slice ad n cp).ownBlock≠some g) (Z:Ending->World->Prop)
  (HZ:Hid (∀ v w7,(w.alloc (.cells #[K,A,X,C,D,E,Co,Ro,t] 31)).grownBy w7 (Value.slice ad n cp).ownBlock->gq (w.alloc (.cells #[K,A,X,C,D,E,Co,Ro,t] 31)) (Value.slice ad n cp).ownBlock B 31 9 (n+1) (os++[.int .i64 K,.int .i64 A,.int .i64 X,.int .i64 C,.int .i64 D,.int .i64 E,.int .i64 Co,.int .i64 Ro,.string t]) v w7->Z (.returned (.tuple #[])) (w7.setCell (zq g (I*3+2)) v))):
  CP 113 #[zp y,.agg #[K,A,X,C,D,E,Co,Ro,t]] w Z:=by
 have hIN:(N:Int) - 1=(I:Int):=by omega
 have hlt:I < N:=by omega
 have c1a:(w.alloc (.cells #[K,A,X,C,D,E,Co,Ro,t] 31)).cell? (zq y 1)=some (.slice g N cap):=(ZS (a:=zq y 1) (ZC w _ y hy)).trans c1;go_enter func113,ntmps113
 go_wp2_with fail
 have HOB:Hid (∀ (w1:World),(w.alloc (.cells #[K,A,X,C,D,E,Co,Ro,t] 31)).grownBy w1 (Value.slice ad n cp).ownBlock->w1.heap[w.heap.size]? =some (.cells #[K,A,X,C,D,E,Co,Ro,t] 31 (0,0))):=fun w1 hG=>(hG.block w.heap.size (by simp) (fun e=>by have:=(ow.lt _ e.symm).2;omega)).trans (ZE w _)
 have owa:(w.alloc (.cells #[K,A,X,C,D,E,Co,Ro,t] 31)).ownsRow B 31 9 (.slice ad n cp) n os:=ow.alloc _;have hBa:B<=(w.alloc (.cells #[K,A,X,C,D,E,Co,Ro,t] 31)).heap.size:=by simp;omega
 have cga:(w.alloc (.cells #[K,A,X,C,D,E,Co,Ro,t] 31)).cell? (zq g (I*3+2))=some (.slice ad n cp):=(ZS (a:=zq g (I*3+2)) (ZC w _ g hgl)).trans cg2;have fga:(w.alloc (.cells #[K,A,X,C,D,E,Co,Ro,t] 31)).frozen? (zq g (I*3+2))=false:=(ZJ (a:=zq g (I*3+2)) (ZC w _ g hgl)).trans fg;have hya:y < (w.alloc (.cells #[K,A,X,C,D,E,Co,Ro,t] 31)).heap.size:=by simp;omega
 have hga:g < (w.alloc (.cells #[K,A,X,C,D,E,Co,Ro,t] 31)).heap.size:=by simp;omega
 clear c1 cg2 fg hy hgl hB ow;generalize w.heap.size=b0 at HOB ⊢;generalize w.alloc (.cells #[K,A,X,C,D,E,Co,Ro,t] 31)=wa at HOB owa hBa cga fga hya hga c1a HZ ⊢;refine cW 18 _ 17 (fun w w'=>w.grownBy w' (Value.slice ad n cp).ownBlock) (pK wa [.pointer (some ⟨y,0,none⟩),.pointer (some ⟨y,0,none⟩),.pointer (some ⟨y,0,none⟩),.pointer (some ⟨y,1,none⟩),.slice g N cap,.int .i64 (I:Int),.pointer (some ⟨y,0,none⟩),.pointer (some ⟨y,0,none⟩),.pointer (some ⟨y,0,none⟩),.pointer (some ⟨y,1,none⟩),.slice g N cap,.int .i64 (I:Int),.pointer (some ⟨g,I*3,none⟩),.pointer (some ⟨g,I*3+2,none⟩),.slice ad n cp,.agg #[K,A,X,C,D,E,Co,Ro,t],undef,undef] 16 17 [.int .i64 K,.int .i64 A,.int .i64 X,.int .i64 C,.int .i64 D,.int .i64 E,.int .i64 Co,.int .i64 Ro,.string t] (Value.slice ad n cp).ownBlock B 31 9 (n+1) (os++[.int .i64 K,.int .i64 A,.int .i64 X,.int .i64 C,.int .i64 D,.int .i64 E,.int .i64 Co,.int .i64 Ro,.string t])) (by kernel_rfl) rfl (by kernel_rfl) (lT _) (fun _ _ _=>lV) (fun _ _ _=>fE) pZ mZ ?_;simp only [TD];refine ⟨aB (by decide) fun w1 hG hd=>?_,fun v0=>?_⟩
 ·clear hd;go_wp2;exact RG
 simp only [TN];refine ⟨aB (by decide) fun w1 hG hd=>?_,fun v1=>?_⟩
 ·have d0:v0=.pointer (some ⟨y,0,none⟩):=hd ⟨0,.data⟩ (by simp) rfl;clear hd;subst d0;go_wp2;exact RG
 simp only [TN];refine ⟨aB (by decide) fun w1 hG hd=>?_,fun v2=>?_⟩
 ·have d1:v1=.pointer (some ⟨y,0,none⟩):=hd ⟨1,.data⟩ (by simp) rfl;clear hd;subst d1;go_wp2;exact RG
 simp only [TN];refine ⟨aB (by decide) fun w1 hG hd=>?_,fun v3=>?_⟩
 ·have d2:v2=.pointer (some ⟨y,0,none⟩):=hd ⟨2,.data⟩ (by simp) rfl;clear hd;subst d2;go_wp2;exact RG
 simp only [TN];refine ⟨aB (by decide) fun w1 hG hd=>?_,fun v4=>?_⟩
 ·have d3:v3=.pointer (some ⟨y,1,none⟩):=hd ⟨3,.data⟩ (by simp) rfl;clear hd;subst d3;have c:=(ZS (a:=zq y 1) (hG.block y hya (fun e=>ne e.symm))).trans c1a;go_wp2;exact RG
 simp only [TN];refine ⟨aB (by decide) fun w1 hG hd=>?_,fun v5=>?_⟩
 ·clear hd;go_wp2;exact RG
 simp only [TN];refine ⟨aB (by decide) fun w1 hG hd=>?_,fun v6=>?_⟩
 ·clear hd;go_wp2;exact RG
 simp only [TN];refine ⟨aB (by decide) fun w1 hG hd=>?_,fun v7=>?_⟩
 ·have d6:v6=.pointer (some ⟨y,0,none⟩):=hd ⟨6,.data⟩ (by simp) rfl;clear hd;subst d6;go_wp2;exact RG
 simp only [TN];refine ⟨aB (by decide) fun w1 hG hd=>?_,fun v8=>?_⟩
 ·have d7:v7=.pointer (some ⟨y,0,none⟩):=hd ⟨7,.data⟩ (by simp) rfl;clear hd;subst d7;go_wp2;exact RG
 simp only [TN];refine ⟨aB (by decide) fun w1 hG hd=>?_,fun v9=>?_⟩
 ·have d8:v8=.pointer (some ⟨y,0,none⟩):=hd ⟨8,.data⟩ (by simp) rfl;clear hd;subst d8;go_wp2;exact RG
 simp only [TN];refine ⟨aB (by decide) fun w1 hG hd=>?_,fun v10=>?_⟩
 ·have d9:v9=.pointer (some ⟨y,1,none⟩):=hd ⟨9,.data⟩ (by simp) rfl;clear hd;subst d9;have c:=(ZS (a:=zq y 1) (hG.block y hya (fun e=>ne e.symm))).trans c1a;go_wp2;exact RG
 simp only [TN];refine ⟨aB (by decide) fun w1 hG hd=>?_,fun v11=>?_⟩
 ·clear hd;go_wp2;exact RG
 simp only [TN];refine ⟨aB (by decide) fun w1 hG hd=>?_,fun v12=>?_⟩
 ·have d10:v10=.slice g N cap:=hd ⟨10,.data⟩ (by simp) rfl;have d11:v11=.int .i64 (I:Int):=hd ⟨11,.data⟩ (by simp) rfl;clear hd;subst d10 d11;go_wp2;exact RG
 simp only [TN];refine ⟨aB (by decide) fun w1 hG hd=>?_,fun v13=>?_⟩
 ·have d12:v12=.pointer (some ⟨g,I*3,none⟩):=hd ⟨12,.data⟩ (by simp) rfl;clear hd;subst d12;go_wp2;exact RG
 simp only [TN];refine ⟨aB (by decide) fun w1 hG hd=>?_,fun v14=>?_⟩
 ·have d13:v13=.pointer (some ⟨g,I*3+2,none⟩):=hd ⟨13,.data⟩ (by simp) rfl;clear hd;subst d13;have c:=(ZS (a:=zq g (I*3+2)) (hG.block g hga (fun e=>neg e.symm))).trans cga;go_wp2;exact RG
 simp only [TN];refine ⟨aB (by decide) fun w1 hG hd=>?_,fun v15=>?_⟩
 ·clear hd;refine Zu rfl 31 (.tmp 3) rfl b0 rfl 31 _ (0,0) _ (HOB.out _ hG) underlying31 rfl (by kernel_rfl) ?_;refine Zq ?_;exact ⟨rfl,rfl,rfl,af.refl _⟩
 simp only [TN];refine ⟨aB (by decide) fun w1 hG hd=>?_,fun v16=>?_⟩
 ·have d15:v15=.agg #[K,A,X,C,D,E,Co,Ro,t]:=hd ⟨15,.data⟩ (by simp) rfl;clear hd;subst d15;go_wp2;exact ⟨jI _ _ (fun k hk=>ZR (owa.lt k hk).2 (World.grownBy.size hG)),(ZV _ _).alloc (ZX _) _⟩
 simp only [TN];refine ⟨dO rfl fun w1 hG hd=>?_,fun v17=>?_⟩
 ·have d14:v14=.slice ad n cp:=hd ⟨14,.data⟩ (by simp) rfl;have d16:pO _ _ v16 w1:=hd ⟨16,.data⟩ (by simp) rfl;clear hd;subst d14;exact nJ rfl (.tmp 26) (.tmp 28) 86 rfl 31 (.agg #[oz,oz,oz,oz,oz,oz,oz,oz,.string ⟨#[]⟩]) 9 80 Tryz.infoOp2 rfl (by omega) underlying86 B (Value.slice ad n cp) n (os) rfl owa hBa hG v16 rfl [.int .i64 K,.int .i64 A,.int .i64 X,.int .i64 C,.int .i64 D,.int .i64 E,.int .i64 Co,.int .i64 Ro,.string t] d16 rfl (by intro u hu;simp at hu;rcases hu with rfl | rfl | rfl | rfl | rfl | rfl | rfl | rfl | rfl <;> rfl) (by omega) (by omega) ⟨_,rfl,by simp [Act.put]⟩
 simp only [TN];intro w7 hG hd;have d4:v4=.slice g N cap:=hd 4 (by omega);have d5:v5=.int .i64 (I:Int):=hd 5 (by omega);have d17:gq _ _ _ _ _ _ _ v17 w7:=hd 17 (by omega);subst d4 d5;obtain ⟨ad7,cap7,hv7⟩:=d17.form;subst hv7;have HX:=aa (HZ.out _ w7 hG d17);have hb:=hG.block g hga (fun e=>neg e.symm);have k2:=(ZS (a:=zq g (I*3+2)) hb).trans cga;have kf:=(ZJ (a:=zq g (I*3+2)) hb).trans fga;clear hd HZ d17 hG hb c1a cga fga owa HOB;go_wp2_with fail
 first
  | exact HX.out
  | (go_end0;exact HX.out)
def uU (lim:Int) (n:Nat):Prop:=lim < 0\/(n:Int)<=lim
structure SL (w:World) (T base:Nat) (lim:Int) (vt:Value) (X:List UInt8):Prop where
 c0:w.cell? T=lim
 c1:w.cell? (zq T 1)=some vt
 c2:w.cell? (zq T 2)=false
 fz:∀ o,w.frozen? (zq T o)=false
 own:w.ownsRow base 5 1 vt X.length (bo X)
 ne:vt.ownBlock≠some T
 hT:T < w.heap.size
 hb:base<=w.heap.size
 fit:uU lim X.length
 lo:-9223372036854775808<=lim
 hi:lim<=9223372036854775807
theorem mx (w:World) (T base:Nat) (lim:Int) (vt:Value) (X:List UInt8) (h:SL w T base lim vt X) (n:Nat) (hn:n<=4000000000) (hl:lim < 0):
  QD 352 #[zp T,n] w n:=by
 have c0:=h.c0;have c2:=h.c2;go_enter func352,ntmps352
 go_wp2;go_ret;exact ⟨rfl,0,rfl⟩
theorem wY (w:World) (T base:Nat) (lim:Int) (vt:Value) (X:List UInt8) (h:SL w T base lim vt X) (n r:Nat) (hn:n<=4000000000) (hl:0<=lim) (hr:min (n:Int) (lim - (X.length:Int))=(r:Int)) (hX:X.length<=4000000000):
  QD 352 #[zp T,n] w r:=by
 have c0:=h.c0;have c1:=h.c1;have c2:=h.c2;have hi:=h.hi;have hnl:¬ lim < 0:=by omega
 obtain ⟨adu,capu,hform⟩:∃ ad cap,vt=.slice ad X.length cap:=by
  rcases h.own.2 with ⟨hu,hz⟩ | ⟨gg,cap,cur,hu,_⟩
  ·exact ⟨none,0,by rw [hu,hz]⟩
  ·exact ⟨_,_,hu⟩
 rw [hform] at c1;by_cases hc:(n:Int)<=lim - (X.length:Int)
 ·have e:(n:Int)=(r:Int):=by omega
  have hrn:r=n:=by omega
  subst hrn;clear hr e;go_enter func352,ntmps352
  go_wp2;go_region
  go_wp2;go_ret
  first | exact ⟨rfl,_,rfl⟩ | exact ⟨congrArg (fun z=>Ending.returned (.int .i64 z)) (by omega),_,rfl⟩
 ·have e:lim - (X.length:Int)=(r:Int):=by omega
  have hc':lim - (X.length:Int) < (n:Int):=by omega
  clear hr hc;go_enter func352,ntmps352
  go_wp2;go_region
  go_wp2;go_ret
  first | exact ⟨rfl,_,rfl⟩ | exact ⟨congrArg (fun z=>Ending.returned (.int .i64 z)) (by omega),_,rfl⟩
end Go.Proofs.YtbklfkpjoinofaaGreatDoor
