import Derived.Test.YtbklfkpjoinofaaGreatDoorA04
import Derived.Test.YtbklfkpjoinofaaGreatDoorA05
import Derived.Laws.CopyOwn
set_option linter.all false
set_option maxRecDepth 100000
set_option maxHeartbeats 8000000
namespace Go.Proofs.YtbklfkpjoinofaaGreatDoor
open Go.RowKit Go.Proofs.Tryz
theorem ints_at {w:World} {base:Nat} {v:Value} {n:Nat} {Sn:List Int} (h:w.ownsRow base 3 1 v n (Sn.map (Value.int .i64))) (hn:0 < n):
  ∃ g cap,v=.slice (zp g) n cap/\base<=g/\(∀ i,i < n->w.cell? (zq g i)=some (.int .i64 (Sn.getD i 0))):=by
 have hl:Sn.length=n:=by have:=h.1;simpa using this
 rcases h.2 with ⟨_,h0⟩ | ⟨g,cap,cur,rfl,hb,_⟩
 ·omega
 ·refine ⟨g,cap,rfl,hb,fun i hi=>?_⟩;have hx:(Sn.map (Value.int .i64))[i]? =some (.int .i64 (Sn.getD i 0)):=by
   simp [ZM (show i < Sn.length by omega)]
  have:=h.cells (g:=g) rfl i _ hx;have hadd:(⟨g,0,none⟩:Addr).add i=⟨g,i,none⟩:=by unfold Addr.add;split <;> simp_all
  rwa [hadd] at this
theorem oS {P:Program} {f:FuncId} {args:Array Value} {w:World} {x:Nat} {v:Value} (h:Calls P f args (w.drewN (1+x)) fun e w'=>e=.returned v/\∃ q,w'=(w.drewN (1+x)).drewN q):
  Calls P f args (w.drewN (1+x)) fun e w''=>e=.returned v/\∃ n,w''=w.drewN (1+n):=
 h.mono fun _ _ ⟨he,m,hm⟩=>⟨he,x+m,by rw [hm,World.drewN_drewN,YS]⟩
def Found (W:List UInt8) (at_ L D:Nat):Prop:=
 (L=0/\D=0)\/(4<=L/\L<=258/\at_+L<=W.length/\1<=D/\D<=32768/\D<=at_/\∀ j,j < L->W.getD (at_+j - D) 0=W.getD (at_+j) 0)
def tg (W:List UInt8) (i d:Nat):Nat->Nat
 | 0=>0
 | M+1=>if W.getD (i - d) 0=W.getD i 0 then tg W (i+1) d M+1 else 0
theorem Ap (W:List UInt8) (d k:Nat):∀ (i M:Nat),k<=M->(∀ j,j < k->W.getD (i+j - d) 0=W.getD (i+j) 0)->(k=M\/¬ W.getD (i+k - d) 0=W.getD (i+k) 0)->tg W i d M=k:=by
 induction k with
 | zero=>
  intro i M _ _ h
  cases M with
  | zero=>rfl
  | succ M=>
   rcases h with h | h
   ·cases h
   ·rw [tg,ZO (by simpa using h)]
 | succ k ih=>
  intro i M hM hall h;obtain ⟨M,rfl⟩:∃ m,M=m+1:=⟨M - 1,by omega⟩;rw [tg,ZN (by simpa using hall 0 (by omega)),ih (i+1) M (by omega)]
  ·intro j hj;have:=hall (j+1) (by omega);rw [show i+1+j=i+(j+1) by omega];exact this
  ·rcases h with h | h
   ·left;omega
   ·right;rw [show i+1+k=i+(k+1) by omega];exact h
def uA (W:List UInt8) (at_ gone M:Nat) (Z:Int):Nat×Nat:=
 if Z - 1 < 0 then (0,0) else if 32768 < (gone:Int)+(at_:Int) - (Z - 1) then (0,0)
 else if tg W at_ ((gone:Int)+(at_:Int) - (Z - 1)).toNat M < 4 then (0,0) else (tg W at_ ((gone:Int)+(at_:Int) - (Z - 1)).toNat M,((gone:Int)+(at_:Int) - (Z - 1)).toNat)
def fN (W:List UInt8) (Sn:List Int) (at_ gone:Nat):Nat×Nat:=if min 258 (W.length - at_) < 4 then (0,0) else uA W at_ gone (min 258 (W.length - at_)) (Sn.getD (iG W at_) 0)
theorem yr {W:List UInt8} {at_ gone M:Nat} {Z:Int} {D k:Nat} (h1:0<=Z - 1) (h2:(gone:Int)+(at_:Int) - (Z - 1)=(D:Int)) (h3:D<=32768) (hm:tg W at_ D M=k):uA W at_ gone M Z=if k < 4 then (0,0) else (k,D):=by
 unfold uA;rw [ZO (by omega),ZO (by omega),h2,Int.toNat_natCast,hm]
def yq (W:List UInt8) (at_ gone M L:Nat) (Z:Int):Prop:=
 ∀ d:Nat,(gone:Int)+(at_:Int) - (Z - 1)=(d:Int)->1<=Z->d<=32768->(∀ j,j < M->W.getD (at_+j - d) 0=W.getD (at_+j) 0)->L=M
theorem vj (w:World) (P g cap gs caps:Nat) (W:List UInt8) (at_ gone M K N4:Nat) (Z:Int) (ha:at_ < W.length) (hW:W.length<=10000000) (hg:gone<=10000000) (hgo:gone=0\/32768<=at_)
  (c6:w.cell? (zq P 6)=some (.slice g W.length cap))
  (c7:w.cell? (zq P 7)=at_)
  (c8:w.cell? (zq P 8)=gone)
  (c9:w.cell? (zq P 9)=some (.slice gs N4 caps))
  (hcell:∀ i,i < W.length->w.cell? (zq g i)=some (.int .u8 ((W.getD i 0).toNat:Nat)))
  (ks:w.cell? (zq gs K)=Z) (hK:K < N4) (hN1:N4<=10000) (hZ1:0<=Z) (hZ2:Z<=(gone:Int)+(at_:Int))
  (hM1:M<=258) (hM2:at_+M<=W.length) (hM4:4<=M)
  (hcase:(258<=W.length - at_/\258<=M)\/(W.length - at_ < 258/\W.length<=at_+M))
  (hz:Z - 1 < 0\/(0<=Z - 1/\32768 < (gone:Int)+(at_:Int) - (Z - 1))\/(0<=Z - 1/\(gone:Int)+(at_:Int) - (Z - 1)<=32768/\(gone:Int)+(at_:Int) - (Z - 1)<=(at_:Int)))
  (HKey:Hid (∀ q:Nat,CP 265 #[zp P,at_] (w.drewN q) fun e w'=>e=.returned K/\∃ z,w'=(w.drewN q).drewN z)):
  CP 230 #[zp P] w fun e w'=>∃ L D:Nat,e=.returned (.tuple #[L,D])/\Found W at_ L D/\yq W at_ gone M L Z/\(L,D)=uA W at_ gone M Z/\∃ q,w'=w.drewN q:=by
 rcases hcase with ⟨hA,hA2⟩ | ⟨hA,hA2⟩
 all_goals
  go_enter func230,ntmps230
  go_wp2;go_region
  go_wp2;go_quiet ((go_at_call 265;first | exact oS (HKey.out _) | exact Calls.quiet_of (HKey.out _)))
  go_wp2;go_quiet (fail)
  rcases hz with hz | hz | ⟨hz1,hz2,hz3⟩
  ·go_wp2;go_ret2;exact ⟨0,0,rfl,YJ ⟨rfl,rfl⟩,fun d _ _ _ _=>by omega,by unfold uA;rw [ZN hz],_,rfl⟩
  ·go_wp2;go_ret2;exact ⟨0,0,rfl,YJ ⟨rfl,rfl⟩,fun d _ _ _ _=>by omega,by unfold uA;rw [ZO (by omega),ZN hz.2],_,rfl⟩
  ·obtain ⟨D,hD⟩:∃ D:Nat,(gone:Int)+(at_:Int) - (Z - 1)=(D:Int):=⟨((gone:Int)+(at_:Int) - (Z - 1)).toNat,by omega⟩;have hD1:1<=D/\D<=32768/\D<=at_:=by omega
   have HDe:=ai hD;go_wp2;clear hD hz2 hz3;go_loopg [7] 259 (fun g i wr=>∃ k:Nat,k<=M/\M - k < g/\i=.int .i64 k/\(∃ q,wr=w.drewN q)/\Hid (∀ j,j < k->W.getD (at_+j - D) 0=W.getD (at_+j) 0))
   case atStart=>exact ⟨0,by omega,by omega,rfl,⟨_,rfl⟩,fun j hj=>absurd hj (Nat.not_lt_zero j)⟩
   case round=>
    obtain ⟨k,hk1,hk2,rfl,⟨q,rfl⟩,HJ⟩:=hrel;have HStep:=ai (fun (hx:W.getD (at_+k - D) 0=W.getD (at_+k) 0) (j:Nat) (hj:j < k+1)=>if hjk:j < k then HJ.out j hjk else (show j=k by omega) ▸ hx);have HEnd:Hid (4<=k->Found W at_ k D):=fun h4=>YB ⟨h4,by omega,by omega,hD1.1,hD1.2.1,hD1.2.2,HJ.out⟩
    have HMl:=ai (fun (hm:k=M\/¬ W.getD (at_+k - D) 0=W.getD (at_+k) 0)=>yr (W:=W) (M:=M) hz1 HDe.out hD1.2.1 (Ap W D k at_ M hk1 HJ.out hm));clear HJ;by_cases hkM:k < M
    ·obtain ⟨I,hI⟩:∃ I,I=at_+k - D:=⟨_,rfl⟩;have eI:(at_:Int)+(k:Int) - (D:Int)=(I:Int):=by omega
     have kI:=hcell I (by omega);have kJ:=hcell (at_+k) (by omega);have hIl:I < W.length:=by omega
     have hi1:(k:Int) < 258:=by omega
     have hi2:(k:Int) < (W.length:Int) - (at_:Int):=by omega
     have hd1:decide ((k:Int) < 258)=true:=Zt hi1;have hd2:decide ((k:Int) < (W.length:Int) - (at_:Int))=true:=Zt hi2;rw [<-hI] at HStep;have HI:=ai hI;clear hI hcell;by_cases hq:(W.getD I 0).toNat=(W.getD (at_+k) 0).toNat
     ·clear HMl;have HS2:=ai (HStep.out (UInt8.toNat_inj.mp hq));clear HStep HEnd;rw [hq] at kI;generalize (W.getD (at_+k) 0).toNat=x at*;clear hq;go_wp2;go_quiet (fail)
      go_wp2;go_roundg (gk - 1)
      case measure=>omega
      case rel=>exact ⟨k+1,by omega,by omega,by go_num,⟨_,rfl⟩,HS2⟩
     ·have HMk:=ai (HMl.out (YB (by rw [<-HI.out];exact fun h=>hq (congrArg UInt8.toNat h))));clear HMl;have HNo:Hid (∀ L,yq W at_ gone M L Z):=by
       intro L d hd1 _ _ hall;have e1:d=D:=by have:=HDe.out;omega
       have h1:=hall k hkM;rw [e1, <-HI.out] at h1;exact absurd (congrArg UInt8.toNat h1) hq
      clear HStep;generalize (W.getD I 0).toNat=y at*;generalize (W.getD (at_+k) 0).toNat=x at*;go_wp2;go_quiet (fail)
      by_cases h4:k < 4
      ·go_wp2;go_ret2;exact ⟨0,0,rfl,YJ ⟨rfl,rfl⟩,HNo.out 0,by rw [HMk.out,ZN h4],_,rfl⟩
      ·go_wp2;go_ret2;exact ⟨k,D,rfl,HEnd.out (by omega),HNo.out k,by rw [HMk.out,ZO h4],_,rfl⟩
    ·clear HStep hcell
     first
      | have hd:decide ((k:Int) < 258)=false:=Zo (by omega)
      | have hd:decide ((k:Int) < (W.length:Int) - (at_:Int))=false:=Zo (by omega)
     go_wp2;go_quiet (fail)
     go_wp2;go_ret2;exact ⟨k,D,rfl,HEnd.out (by omega),fun _ _ _ _ _=>by omega,by rw [HMl.out (YJ (by omega)),ZO (by omega)],_,rfl⟩
theorem yK (w:World) (P g cap:Nat) (W:List UInt8) (at_ M:Nat) (ha:at_ < W.length) (hW:W.length<=10000000)
  (c6:w.cell? (zq P 6)=some (.slice g W.length cap))
  (c7:w.cell? (zq P 7)=at_)
  (eM:min (258:Int) ((W.length:Int) - (at_:Int))=(M:Int)) (h4:M < 4):
  CP 230 #[zp P] w fun e w'=>∃ L D:Nat,e=.returned (.tuple #[L,D])/\Found W at_ L D/\(L=0/\D=0)/\∃ q,w'=w.drewN q:=by
 go_enter func230,ntmps230
 go_wp2;go_region
 go_wp2;go_ret2;exact ⟨0,0,rfl,YJ ⟨rfl,rfl⟩,⟨rfl,rfl⟩,1,rfl⟩
theorem xx (w:World) (P base:Nat) (vw vs:Value) (W:List UInt8) (Sn:List Int) (at_ gone:Nat) (h:PW w P base vw vs W Sn at_ gone) (ha:at_ < W.length) (hW:W.length<=10000000) (hg:gone<=10000000) (hgo:gone=0\/32768<=at_)
  (hS:∀ j,j < 4096->0<=Sn.getD j 0/\Sn.getD j 0<=(gone+at_:Nat)):
  CP 230 #[zp P] w fun e w'=>∃ L D:Nat,e=.returned (.tuple #[L,D])/\Found W at_ L D/\(4<=min 258 (W.length - at_)->yq W at_ gone (min 258 (W.length - at_)) L (Sn.getD (iG W at_) 0))/\(L,D)=fN W Sn at_ gone/\∃ q,w'=w.drewN q:=by
 obtain ⟨g,cap,hv,hle,hb,hcell⟩:=jJ h.ow (by omega);obtain ⟨gs,caps,hvs,hbs,hcs⟩:=ints_at h.os (by omega);by_cases h4:min 258 (W.length - at_) < 4
 ·refine (yK w P g cap W at_ (min 258 (W.length - at_)) ha hW (hv ▸ h.c6) h.c7 (by omega) h4).mono ?_;rintro e w' ⟨L,D,he,hf,⟨h0,h00⟩,hq⟩;exact ⟨L,D,he,hf,fun h=>by omega,by unfold fN;rw [ZN h4,h0,h00],hq⟩
 ·have hK:=uG W at_;have hsn:=hS (iG W at_) hK;refine (vj w P g cap gs caps W at_ gone (min 258 (W.length - at_)) (iG W at_) 4096 (Sn.getD (iG W at_) 0) ha hW hg hgo (hv ▸ h.c6) h.c7 h.c8 (hvs ▸ h.c9) hcell (hcs _ hK) hK (by omega) hsn.1 (by have:=hsn.2;omega) (by omega) (by omega) (by omega) (by omega) (by have:=hsn.2;omega)
   (fun q=>uQ (w.drewN q) P base vw vs W Sn at_ gone at_ (h.drewN q) (by omega) hW)).mono ?_
  rintro e w' ⟨L,D,he,hf,hfu,hx,hq⟩;exact ⟨L,D,he,hf,fun _=>hfu,by unfold fN;rw [ZO h4];exact hx,hq⟩
structure cF (P:Nat) (vs:Value) (w w':World):Prop where
 os:w'.os=w.os
 tape:w'.tape=w.tape
 output:w'.output=w.output
 size:w.heap.size<=w'.heap.size
 keep:∀ k,k < w.heap.size->k≠P->some k≠vs.ownBlock->w'.heap[k]? =w.heap[k]?
 cell:∀ o,o≠7->w'.cell? (zq P o)=w.cell? (zq P o)
 frz:∀ o,w'.frozen? (zq P o)=w.frozen? (zq P o)
theorem cF.refl (P:Nat) (vs:Value) (w:World):cF P vs w w:=⟨rfl,rfl,rfl,ZW _,fun _ _ _ _=>rfl,fun _ _=>rfl,fun _=>rfl⟩
theorem cF.drewN {P:Nat} {vs:Value} {w w':World} (h:cF P vs w w') (q:Nat):cF P vs w (w'.drewN q):=⟨h.os,h.tape,h.output,h.size,h.keep,h.cell,h.frz⟩
theorem cF.at {P:Nat} {vs:Value} {w w':World} (h:cF P vs w w') (x:Value):cF P vs w (w'.setCell (zq P 7) x):=by
 refine ⟨h.os,h.tape,h.output,by have:=h.size;simpa [World.setCell] using this,?_,?_,?_⟩
 ·intro k hk hP hv;rw [YX _ _ _ _ hP];exact h.keep k hk hP hv
 ·intro k a;rw [ZV _ _ _ _ (by intro e;cases e;omega)];exact h.cell k a
 ·intro k;rw [ZL];exact h.frz k
theorem cF.seen {P gs n cap:Nat} {w w':World} (h:cF P (.slice gs n cap) w w') (hne:gs≠P) (j:Nat) (x:Value):cF P (.slice gs n cap) w (w'.setCell (zq gs j) x):=by
 refine ⟨h.os,h.tape,h.output,by have:=h.size;simpa [World.setCell] using this,?_,?_,?_⟩
 ·intro k hk hP hv;rw [YX _ _ _ _ (by intro e;exact hv (by simp [Value.ownBlock,e]))];exact h.keep k hk hP hv
 ·intro k a;rw [ZV _ _ _ _ (by intro e;cases e;exact hne rfl)];exact h.cell k a
 ·intro k;rw [ZL];exact h.frz k
theorem PW.go {w:World} {P base:Nat} {vw vs:Value} {W:List UInt8} {Sn:List Int} {at_ gone:Nat} (h:PW w P base vw vs W Sn at_ gone) (at':Nat) {x:Value} (hx:x=.int .i64 at'):PW (w.setCell (zq P 7) x) P base vw vs W Sn at' gone:=by
 subst hx;refine ⟨?_,ZC _ _ _ h.c7,?_,?_,?_,cr h.ow h.nw _ _,cr h.os h.ns _ _,h.nw,h.ns,by have:=h.hP;simpa [World.setCell] using this⟩
 ·rw [ZV _ _ _ _ (by simp)];exact h.c6
 ·rw [ZV _ _ _ _ (by simp)];exact h.c8
 ·rw [ZV _ _ _ _ (by simp)];exact h.c9
 ·rw [ZL];exact h.f7
theorem PW.seen {w:World} {P base gs cap:Nat} {vw:Value} {W:List UInt8} {Sn:List Int} {at_ gone:Nat} (h:PW w P base vw (.slice gs 4096 cap) W Sn at_ gone) (hne:vw.ownBlock≠some gs) (j:Nat) (z:Int) {x:Value} (hx:x=.int .i64 z):PW (w.setCell (zq gs j) x) P base vw (.slice gs 4096 cap) W (Sn.set j z) at_ gone:=by
 subst hx;have hgP:gs≠P:=fun e=>h.ns (by simp [Value.ownBlock,e])
 have hst:=(h.os.stored j z).1;refine ⟨?_,?_,?_,?_,?_,cr h.ow hne _ _,?_,h.nw,h.ns,by have:=h.hP;simpa [World.setCell] using this⟩
 ·rw [ZV _ _ _ _ (by intro e;cases e;exact hgP rfl)];exact h.c6
 ·rw [ZV _ _ _ _ (by intro e;cases e;exact hgP rfl)];exact h.c7
 ·rw [ZV _ _ _ _ (by intro e;cases e;exact hgP rfl)];exact h.c8
 ·rw [ZV _ _ _ _ (by intro e;cases e;exact hgP rfl)];exact h.c9
 ·rw [ZL];exact h.f7
 ·rw [List.map_set];exact hst
def iY (Sn:List Int) (m:Nat):Prop:=∀ j,j < 4096->0<=Sn.getD j 0/\Sn.getD j 0<=(m:Nat)
theorem iY.le {Sn:List Int} {m m':Nat} (h:iY Sn m) (hm:m<=m'):iY Sn m':=fun j hj=>⟨(h j hj).1,by have:=(h j hj).2;omega⟩
theorem iY.set {Sn:List Int} {m:Nat} (h:iY Sn m) (k:Nat):iY (Sn.set k ((m+1:Nat):Int)) (m+1):=by
 intro j hj;have:=h j hj;simp only [ZJ] at this ⊢;by_cases e:k=j
 ·subst e;by_cases hl:k < Sn.length
  ·simp [List.getElem?_set,hl];omega
  ·simp [List.getElem?_set,hl];omega
 ·rw [List.getElem?_set_ne e];omega
theorem xh {Pr:Program} {f:FuncId} {args:Array Value} {w:World} {v:Value} (h:∀ q:Nat,Calls Pr f args (w.drewN q) fun e w'=>e=.returned v/\∃ z,w'=(w.drewN q).drewN z) (n x:Nat):
  Calls Pr f args (w.drewN (n+x)) fun e w''=>e=.returned v/\∃ q,w''=w.drewN (n+q):=
 (h (n+x)).mono fun _ _ ⟨he,m,hm⟩=>⟨he,x+m,by rw [hm,World.drewN_drewN,YS]⟩
theorem PW.seenAt {w:World} {P base gs cap:Nat} {vw:Value} {W:List UInt8} {Sn:List Int} {at_ gone:Nat} (h:PW w P base vw (.slice gs 4096 cap) W Sn at_ gone) (K:Nat) (hK:K < 4096):w.cell? (zq gs K)=(Sn.getD K 0:Int):=by
 obtain ⟨g,c,hv,_,hc⟩:=ints_at h.os (by omega)
 cases hv;exact hc K hK
def kw (κ:Nat->Nat) (W:List UInt8) (at_ gone:Nat) (Sn:List Int):Nat->List Int
 | 0=>Sn
 | n+1=>if at_+n+4<=W.length then (kw κ W at_ gone Sn n).set (κ (at_+n)) ((gone+(at_+n)+1:Nat):Int) else kw κ W at_ gone Sn n
def zF (κ:Nat->Nat) (W:List UInt8) (Sn:List Int) (at_ n gone:Nat):Prop:=1<=n->at_+n+3<=W.length->Sn.getD (κ (at_+n - 1)) 0=((gone+(at_+n):Nat):Int)
theorem wK (w:World) (P base g cap gs caps:Nat) (W:List UInt8) (Sn:List Int) (at_ gone n:Nat) (h:PW w P base (.slice g W.length cap) (.slice gs 4096 caps) W Sn at_ gone) (hne:g≠gs) (ha:at_+n<=W.length) (hW:W.length<=10000000) (hg:gone<=10000000) (hcap:W.length<=cap)
  (hS:iY Sn (gone+at_))
  (κ:Nat->Nat) (HKey:Hid (∀ (wx:World) (Sx:List Int) (i:Nat),PW wx P base (.slice g W.length cap) (.slice gs 4096 caps) W Sx i gone->i+4<=W.length->κ i < 4096/\Hid (∀ q:Nat,CP 265 #[zp P,i] (wx.drewN q) fun e w'=>e=.returned (κ i:Int)/\∃ z,w'=(wx.drewN q).drewN z))):
  CP 231 #[zp P,n] w fun e w'=>e=.returned (.tuple #[])/\∃ Sn',PW w' P base (.slice g W.length cap) (.slice gs 4096 caps) W Sn' (at_+n) gone/\iY Sn' (gone+(at_+n))/\cF P (.slice gs 4096 caps) w w'/\zF κ W Sn' at_ n gone/\Sn'=kw κ W at_ gone Sn n:=by
 have hgP:gs≠P:=fun e=>h.ns (by simp [Value.ownBlock,e])
 go_enter func231,ntmps231
 go_wp2;go_loopg [1] (n+1) (fun gk' c wr=>∃ k:Nat,∃ Sk,k<=n/\n - k < gk'/\c=.int .i64 ((n - k:Nat):Int)/\PW wr P base (.slice g W.length cap) (.slice gs 4096 caps) W Sk (at_+k) gone/\Hid (iY Sk (gone+(at_+k)))/\cF P (.slice gs 4096 caps) w wr/\Hid (zF κ W Sk at_ k gone)/\Hid (Sk=kw κ W at_ gone Sn k))
 case atStart=>exact ⟨0,Sn,by omega,by omega,rfl,h,hS,cF.refl _ _ _,fun h1 _=>absurd h1 (by omega),rfl⟩
 case round=>
  clear h hS;obtain ⟨k,Sk,hk1,hk2,rfl,hPk,HSk,hFk,HLk,HVk⟩:=hrel;obtain ⟨m,hm⟩:∃ m,m=n - k:=⟨_,rfl⟩;rw [<-hm];by_cases hz:m=0
  ·subst hz;go_wp2;go_end0;obtain rfl:k=n:=by omega
   exact ⟨rfl,Sk,hPk,HSk.out,hFk,HLk.out,HVk.out⟩
  ·obtain ⟨A,hA⟩:∃ A,A=at_+k:=⟨_,rfl⟩;rw [<-hA] at hPk HSk;have hAW:A < W.length:=by omega
   have HA:=ai hA;clear hA;have c6:=hPk.c6;have c7:=hPk.c7;have c8:=hPk.c8;have c9:=hPk.c9;have f7:=hPk.f7;have hm1:1<=m:=by omega
   have hm2:m<=10000000:=by omega
   by_cases h4:A+4<=W.length
   ·obtain ⟨K,HKe,hK,HK⟩:∃ K:Nat,Hid (K=κ A)/\K < 4096/\Hid (∀ q:Nat,CP 265 #[zp P,A] (wr.drewN q) fun e w'=>e=.returned K/\∃ z,w'=(wr.drewN q).drewN z):=⟨κ A,rfl,HKey.out wr Sk A hPk h4⟩;have ks:=hPk.seenAt K hK;have kf:=hPk.os.frozenAt K;go_wp2;go_quiet (fail)
    go_wp2;refine bO 21 (by kernel_rfl) (by kernel_rfl) ?_;simp only [TD]
    repeat (go_big_quiet_step ((go_at_call 265;exact xh HK.out _ _)))
    refine Ym ?_;intro _ hw';obtain ⟨nq2,hw''⟩:=hw';subst hw'';go_wp2;go_roundg (gk - 1)
    case measure=>omega
    case rel=>
     have hA:=HA.out;refine ⟨k+1,Sk.set K ((gone+A+1:Nat):Int),by omega,by omega,by go_num,?_,?_,?_,?_,?_⟩
     ·exact (((hPk.drewN _).seen (by simp [Value.ownBlock];exact hne) K ((gone+A+1:Nat):Int) (by go_num)).go _ (by go_num))
     ·have:=HSk.out.set K;rw [show gone+(at_+(k+1))=gone+A+1 by omega];exact this
     ·exact ((hFk.drewN _).seen hgP _ _).at _
     ·intro _ _;rw [show at_+(k+1) - 1=A by omega, <-HKe.out,show gone+(at_+(k+1))=gone+A+1 by omega];have hlen:K < Sk.length:=by have:=hPk.os.1;simp at this;omega
      simp [ZJ,List.getElem?_set,hlen]
     ·show _=_
      rw [kw,ZN (by omega), <-HVk.out, <-hA, <-HKe.out]
   ·go_wp2;go_quiet (fail)
    go_wp2;go_roundg (gk - 1)
    case measure=>omega
    case rel=>
     have hA:=HA.out;refine ⟨k+1,Sk,by omega,by omega,by go_num,?_,?_,?_,fun _ h2=>absurd h2 (by omega),by show _=_;rw [kw,ZO (by omega)];exact HVk.out⟩
     ·exact (hPk.drewN _).go _ (by go_num)
     ·exact HSk.out.le (by omega)
     ·exact (hFk.drewN _).at _
def iV (v u:Value):Prop:=∀ g,v.ownBlock=some g->u.ownBlock≠some g
theorem iV.symm {v u:Value} (h:iV v u):iV u v:=fun g a b=>h g b a
theorem cM {w w':World} {base:Nat} {e:TypeId} {v:Value} {n:Nat} {xs:List Value} (h:w.ownsRow base e 1 v n xs) (hk:∀ g,v.ownBlock=some g->w'.heap[g]? =w.heap[g]?):w'.ownsRow base e 1 v n xs:=by
 refine ⟨h.1,?_⟩;rcases h.2 with h2 | ⟨g,cap,cur,rfl,a,b,c⟩
 ·exact .inl h2
 ·exact .inr ⟨g,cap,cur,rfl,a,(hk g rfl).trans b,c⟩
structure Fr (B:Nat->Prop) (w w':World):Prop where
 os:w'.os=w.os
 tape:w'.tape=w.tape
 output:w'.output=w.output
 size:w.heap.size<=w'.heap.size
 keep:∀ k,k < w.heap.size->¬ B k->w'.heap[k]? =w.heap[k]?
theorem Fr.refl (B:Nat->Prop) (w:World):Fr B w w:=⟨rfl,rfl,rfl,ZW _,fun _ _ _=>rfl⟩
theorem Fr.drewN {B:Nat->Prop} {w w':World} (h:Fr B w w') (q:Nat):Fr B w (w'.drewN q):=⟨h.os,h.tape,h.output,h.size,h.keep⟩
theorem Fr.trans {B C:Nat->Prop} {u v w:World} (h:Fr B u v) (k:Fr C v w) (hC:∀ x,x < u.heap.size->C x->B x):Fr B u w:=
 ⟨k.os.trans h.os,k.tape.trans h.tape,k.output.trans h.output,ZU h.size k.size,fun x hx hb=>(k.keep x (ZK hx h.size) (fun hc=>hb (hC x hx hc))).trans (h.keep x hx hb)⟩
theorem Fr.mono {B C:Nat->Prop} {u v:World} (h:Fr B u v) (hB:∀ x,B x->C x):Fr C u v:=⟨h.os,h.tape,h.output,h.size,fun x hx hc=>h.keep x hx (fun hb=>hc (hB x hb))⟩
theorem cd.fr {P:Nat} {vf vf':Value} {w w':World} (h:cd P vf w vf' w'):Fr (fun k=>k=P\/vf.ownBlock=some k) w w':=
 ⟨h.os,h.tape,h.output,h.size,fun k hk hb=>h.keep k hk (fun e=>hb (.inl e)) (fun e=>hb (.inr e.symm))⟩
theorem cF.fr {P:Nat} {vs:Value} {w w':World} (h:cF P vs w w'):Fr (fun k=>k=P\/vs.ownBlock=some k) w w':=
 ⟨h.os,h.tape,h.output,h.size,fun k hk hb=>h.keep k hk (fun e=>hb (.inl e)) (fun e=>hb (.inr e.symm))⟩
structure PK (w:World) (P base:Nat) (nx vf vw vs:Value) (F:List UInt8) (H n A B:Nat) (W:List UInt8) (Sn:List Int) (at_ gone:Nat):Prop where
 bw:BW w P base vf F H n
 pw:PW w P base vw vs W Sn at_ gone
 c0:w.cell? P=some nx
 c4:w.cell? (zq P 4)=some (.int .u32 A)
 c5:w.cell? (zq P 5)=some (.int .u32 B)
 fz:∀ o,w.frozen? (zq P o)=false
 hn:n < 8
 dfw:iV vf vw
 dfs:iV vf vs
 dws:iV vw vs
theorem PK.drewN {w:World} {P base:Nat} {nx vf vw vs:Value} {F:List UInt8} {H n A B:Nat} {W:List UInt8} {Sn:List Int} {at_ gone:Nat} (h:PK w P base nx vf vw vs F H n A B W Sn at_ gone) (q:Nat):PK (w.drewN q) P base nx vf vw vs F H n A B W Sn at_ gone:=
 ⟨h.bw.drewN q,h.pw.drewN q,h.c0,h.c4,h.c5,h.fz,h.hn,h.dfw,h.dfs,h.dws⟩
theorem jl {vf vf' v:Value} {w:World} {base:Nat} {e:TypeId} {n:Nat} {xs:List Value} (ho:w.ownsRow base e 1 v n xs) (hb:vf'.ownBlock=vf.ownBlock\/∃ g,vf'.ownBlock=some g/\w.heap.size<=g) (hd:iV vf v):iV vf' v:=by
 intro g hg hv;rcases hb with e | ⟨x,e,hx⟩
 ·exact hd g (e ▸ hg) hv
 ·rw [e] at hg;cases hg;have:=(ho.lt _ hv).2;omega
theorem PK.put {w w':World} {P base:Nat} {nx vf vw vs vf':Value} {F F':List UInt8} {H n H' n' A B:Nat} {W:List UInt8} {Sn:List Int} {at_ gone:Nat} (h:PK w P base nx vf vw vs F H n A B W Sn at_ gone)
  (hB:BW w' P base vf' F' H' n') (hn:n' < 8) (hF:cd P vf w vf' w'):PK w' P base nx vf' vw vs F' H' n' A B W Sn at_ gone:=by
 have hw:∀ {v:Value} {e:TypeId} {m:Nat} {xs:List Value},w.ownsRow base e 1 v m xs->v.ownBlock≠some P->iV vf v->w'.ownsRow base e 1 v m xs:=by
  intro v e m xs ho hne hd;refine cM ho fun g hg=>hF.keep g (ho.lt g hg).2 (fun e=>hne (by rw [hg,e])) (fun e=>hd g e.symm hg)
 refine ⟨hB,⟨?_,?_,?_,?_,?_,hw h.pw.ow h.pw.nw h.dfw,hw h.pw.os h.pw.ns h.dfs,h.pw.nw,h.pw.ns,ZK h.pw.hP hF.size⟩,?_,?_,?_,?_,hn,jl h.pw.ow hF.blk h.dfw,jl h.pw.os hF.blk h.dfs,h.dws⟩
 ·rw [hF.cell 6 (by omega) (by omega) (by omega)];exact h.pw.c6
 ·rw [hF.cell 7 (by omega) (by omega) (by omega)];exact h.pw.c7
 ·rw [hF.cell 8 (by omega) (by omega) (by omega)];exact h.pw.c8
 ·rw [hF.cell 9 (by omega) (by omega) (by omega)];exact h.pw.c9
 ·rw [hF.frz];exact h.pw.f7
 ·rw [hF.cell 0 (by omega) (by omega) (by omega)];exact h.c0
 ·rw [hF.cell 4 (by omega) (by omega) (by omega)];exact h.c4
 ·rw [hF.cell 5 (by omega) (by omega) (by omega)];exact h.c5
 ·intro o;rw [hF.frz];exact h.fz o
theorem PK.pass {w w':World} {P base:Nat} {nx vf vw vs:Value} {F:List UInt8} {H n A B:Nat} {W:List UInt8} {Sn Sn':List Int} {at_ at' gone:Nat} (h:PK w P base nx vf vw vs F H n A B W Sn at_ gone)
  (hP:PW w' P base vw vs W Sn' at' gone) (hF:cF P vs w w'):PK w' P base nx vf vw vs F H n A B W Sn' at' gone:=by
 have hb:=h.bw;refine ⟨⟨?_,?_,?_,?_,?_,?_,cM hb.own fun g hg=>hF.keep g (hb.own.lt g hg).2 (fun e=>hb.ne (by rw [hg,e])) (fun e=>h.dfs g hg e.symm),hb.ne,ZU hb.hb hF.size,hb.hH⟩,hP,?_,?_,?_,?_,h.hn,h.dfw,h.dfs,h.dws⟩
 ·rw [hF.cell 1 (by omega)];exact hb.c1
 ·rw [hF.cell 2 (by omega)];exact hb.c2
 ·rw [hF.cell 3 (by omega)];exact hb.c3
 ·rw [hF.frz];exact hb.f1
 ·rw [hF.frz];exact hb.f2
 ·rw [hF.frz];exact hb.f3
 ·rw [hF.cell 0 (by omega)];exact h.c0
 ·rw [hF.cell 4 (by omega)];exact h.c4
 ·rw [hF.cell 5 (by omega)];exact h.c5
 ·intro o;rw [hF.frz];exact h.fz o
theorem rF (w:World) (P base:Nat) (vw vs:Value) (W:List UInt8) (Sn:List Int) (at_ gone n:Nat) (h:PW w P base vw vs W Sn at_ gone) (hd:iV vw vs) (hn:1<=n) (ha:at_+n<=W.length) (hW:W.length<=10000000) (hg:gone<=10000000) (hS:iY Sn (gone+at_)):
  CP 231 #[zp P,n] w fun e w'=>e=.returned (.tuple #[])/\∃ Sn',PW w' P base vw vs W Sn' (at_+n) gone/\iY Sn' (gone+(at_+n))/\cF P vs w w'/\zF (iG W) W Sn' at_ n gone/\Sn'=kw (iG W) W at_ gone Sn n:=by
 obtain ⟨g,cap,hv,hle,hb,_⟩:=jJ h.ow (by omega);obtain ⟨gs,caps,hvs,hbs,_⟩:=ints_at h.os (by omega);subst hv hvs;refine wK w P base g cap gs caps W Sn at_ gone n h (fun e=>hd g rfl (by rw [e];rfl)) ha hW hg hle hS (iG W) ?_;intro wx Sx i hx hi;exact ⟨uG W i,fun q=>uQ (wx.drewN q) P base _ _ W Sx i gone i (hx.drewN q) hi hW⟩
structure BP (W:List UInt8) (at_ gone:Nat) (Sn Sn':List Int) (k b:Nat):Prop where
 emit:∃ v,Pm.qj W at_ k v b
 full:4<=min 258 (W.length - at_)->yq W at_ gone (min 258 (W.length - at_)) k (Sn.getD (iG W at_) 0)
 last:zF (iG W) W Sn' at_ k gone
def kV (W:List UInt8) (at_:Nat) (r:Nat×Nat):Nat×Nat×Nat:=
 if r.1=0 then (1,Pm.sb (W.getD at_ 0).toNat,(Pm.aI (W.getD at_ 0).toNat).2) else (r.1,Pm.mv r.1 r.2,Pm.mw r.1 r.2)
def Stepped (w:World) (P base:Nat) (nx vf vw vs:Value) (F:List UInt8) (H n A B:Nat) (W:List UInt8) (Sn:List Int) (at_ gone:Nat) (w':World):Prop:=
 ∃ vf' F' H' n' Sn' k v b,BP W at_ gone Sn Sn' k b/\((k,v,b)=kV W at_ (fN W Sn at_ gone)/\Sn'=kw (iG W) W at_ gone Sn k)/\PK w' P base nx vf' vw vs F' H' n' A B W Sn' (at_+k) gone/\Pm.qj W at_ k v b/\dt F' H'=dt F H+v*2 ^ (8*F.length+n)/\8*F'.length+n'=8*F.length+n+b/\iY Sn' (gone+(at_+k))/\
  Fr (fun x=>x=P\/vf.ownBlock=some x\/vs.ownBlock=some x) w w'/\(vf'.ownBlock=vf.ownBlock\/∃ g,vf'.ownBlock=some g/\w.heap.size<=g)
theorem mh {F0 F1 F2:List UInt8} {H0 H1 H2 n0 n1 v1 v2 k1:Nat} (h1:dt F1 H1=dt F0 H0+v1*2 ^ (8*F0.length+n0)) (l1:8*F1.length+n1=8*F0.length+n0+k1) (h2:dt F2 H2=dt F1 H1+v2*2 ^ (8*F1.length+n1)):
  dt F2 H2=dt F0 H0+(v1+v2*2 ^ k1)*2 ^ (8*F0.length+n0):=by
 rw [h2,h1,l1,YL 2 (8*F0.length+n0) k1,Nat.add_mul,YS,XU v2,Ye (2 ^ k1)]
theorem Dm (w:World) (P base:Nat) (nx vf vw vs:Value) (F:List UInt8) (H n A B:Nat) (W:List UInt8) (Sn:List Int) (at_ gone:Nat) (h:PK w P base nx vf vw vs F H n A B W Sn at_ gone) (ha:at_ < W.length) (hW:W.length<=10000000) (hg:gone<=10000000) (hS:iY Sn (gone+at_)) (hF:F.length<=40000000)
  (HF:Hid (CP 230 #[zp P] w fun e w'=>∃ L D:Nat,e=.returned (.tuple #[L,D])/\Found W at_ L D/\(4<=min 258 (W.length - at_)->yq W at_ gone (min 258 (W.length - at_)) L (Sn.getD (iG W at_) 0))/\(L,D)=fN W Sn at_ gone/\∃ q,w'=w.drewN q)):
  CP 198 #[zp P] w fun e w'=>e=.returned (.tuple #[])/\Stepped w P base nx vf vw vs F H n A B W Sn at_ gone w':=by
 obtain ⟨g,cap,hv,hle,hb,hcell⟩:=jJ h.pw.ow (by omega);have k0:=hcell at_ ha;have c6:=h.pw.c6;rw [hv] at c6;have c7:=h.pw.c7;have hx0:=(W.getD at_ 0).toNat_lt;have HE:Hid (Pm.qj W at_ 1 (Pm.sb (W.getD at_ 0).toNat) (Pm.aI (W.getD at_ 0).toNat).2):=YJ ⟨rfl,ha,rfl,rfl⟩;have HEv:Hid ((1,Pm.sb (W.getD at_ 0).toNat,(Pm.aI (W.getD at_ 0).toNat).2)=kV W at_ (0,0)):=rfl;obtain ⟨x,hx⟩:∃ x,x=(W.getD at_ 0).toNat:=⟨_,rfl⟩;rw [<-hx] at k0 hx0 HE HEv;clear hx hcell;have hP:=h.pw.hP;have hn8:=h.hn;have hsx:=(Pm.dY x (by omega)).2.2;go_enter func198,ntmps198
 go_wp2_with fail
 refine HF.out.mono ?_;rintro e w1 ⟨L,D,rfl,hf,hfu,hfx,q,rfl⟩;have HFu:=ai hfu;have HFx:=ai hfx;clear hfu hfx;rcases hf with ⟨rfl,rfl⟩ | hm
 ·go_wp2;refine bO 12 (by kernel_rfl) (by kernel_rfl) ?_;simp only [TD]
  repeat (go_big_quiet_step (fail))
  refine Ym ?_;intro _ hw';obtain ⟨nq2,hw''⟩:=hw';subst hw'';go_wp2_with fail
  refine (fR _ P base vf F H n x (h.bw.drewN _) hP h.hn (by omega) (by omega)).mono ?_;rintro e w2 ⟨rfl,vf',F',H',n',b1,b2,b3,b4,b5⟩;have hK2:=(h.drewN _).put b1 b2 b5;go_wp2_with fail
  refine (rF w2 P base vw vs W Sn at_ gone 1 hK2.pw hK2.dws (by omega) (by omega) hW hg hS).mono ?_;rintro e w3 ⟨rfl,Sn',p1,p2,p3,p4,p5⟩;have hK3:=hK2.pass p1 p3;have HLa:=ai p4;have HPv:=ai p5;clear p4 p5;go_wp2
  (try simp only [Exit.inBlock,Exit.then])
  refine YT (results_none rfl _ _ _) rfl ?_;refine ⟨rfl,vf',F',H',n',Sn',1,_,_,⟨⟨_,HE.out⟩,fun h4 d e1 e2 e3 e4=>absurd (HFu.out h4 d e1 e2 e3 e4) (by omega),HLa.out⟩,⟨by rw [<-HFx.out];exact HEv.out,HPv.out⟩,hK3,HE.out,b3,b4,p2,?_,b5.blk⟩;refine (((Fr.refl _ w).drewN _).trans b5.fr (fun y _ hy=>?_)).trans p3.fr (fun y _ hy=>?_)
  ·rcases hy with e | e
   ·exact .inl e
   ·exact .inr (.inl e)
  ·rcases hy with e | e
   ·exact .inl e
   ·exact .inr (.inr e)
 ·obtain ⟨h4,h258,haL,hD1,hD2,hD3,hj⟩:=hm;have HE2:Hid (Pm.qj W at_ L (Pm.mv L D) (Pm.mw L D)):=YB ⟨D,h4,h258,haL,hD1,hD2,hD3,hj,rfl,rfl⟩;have HEw:Hid ((L,Pm.mv L D,Pm.mw L D)=kV W at_ (L,D)):=by show _=_;unfold kV;rw [ZO (by simp;omega)]
  unfold Pm.mv Pm.mw at HE2;unfold Pm.mv Pm.mw at HEw;have HL:=ai (nK (w.drewN q) L (by omega) h258);have HDc:=ai (fun wx=>qy wx D hD1 hD2);obtain ⟨l1,l2,l3,l4,_,_⟩:=Pm.j_ L (by omega) (by omega);obtain ⟨d1,d2,d3,_⟩:=Pm.iN D (by omega) hD1;have l5:=(Pm.fh (Pm.bN L).1 (by omega) l1).1;have d5:=(Pm.eN (Pm.bB D).1 (by omega)).1;rw [<-l3] at l5;rw [<-d2] at d5;clear l3 d2 hj k0 c6 c7 HE HF;obtain ⟨c,hc⟩:∃ c,c=(Pm.bN L).1:=⟨_,rfl⟩;obtain ⟨m,hm⟩:∃ m,m=(Pm.bN L).2.1:=⟨_,rfl⟩;obtain ⟨b,hb⟩:∃ b,b=(Pm.bN L).2.2:=⟨_,rfl⟩;obtain ⟨dc,hdc⟩:∃ c,c=(Pm.bB D).1:=⟨_,rfl⟩;obtain ⟨dm,hdm⟩:∃ m,m=(Pm.bB D).2.1:=⟨_,rfl⟩;obtain ⟨db,hdb⟩:∃ b,b=(Pm.bB D).2.2:=⟨_,rfl⟩;rw [<-hc, <-hm, <-hb, <-hdc, <-hdm, <-hdb] at HE2 HEw;rw [<-hc, <-hm, <-hb] at HL;simp only [<-hdc, <-hdm, <-hdb] at HDc;rw [<-hc] at l1 l2;rw [<-hm, <-hb] at l4;rw [<-hb] at l5;rw [<-hdc] at d1;rw [<-hdm, <-hdb] at d3;rw [<-hdb] at d5;clear hc hm hb hdc hdm hdb;have hcx:=(Pm.dY c (by omega)).2.2;go_wp2_with fail
  refine HL.out.mono ?_;rintro e w2 ⟨rfl,q2,rfl⟩;go_wp2_with fail
  refine (fR _ P base vf F H n c (h.bw.drewN _) hP h.hn (by omega) (by omega)).mono ?_;rintro e w3 ⟨rfl,vf3,F3,H3,n3,b31,b32,b33,b34,b35⟩;have hK3:=(h.drewN _).put b31 b32 b35;have hP3:=hK3.pw.hP;go_wp2_with fail
  refine (iR w3 P base vf3 F3 H3 n3 m b b31 hP3 b32 l4 (by omega) (by omega)).mono ?_;rintro e w4 ⟨rfl,vf4,F4,H4,n4,b41,b42,b43,b44,b45⟩;have hK4:=hK3.put b41 b42 b45;have hP4:=hK4.pw.hP;go_wp2_with fail
  refine (HDc.out w4).mono ?_;rintro e w5 ⟨rfl,q5,rfl⟩;go_wp2_with fail
  refine (rh _ P base vf4 F4 H4 n4 dc 5 (b41.drewN _) hP4 b42 (by omega) (XS d1 (by decide)) (by omega)).mono ?_;rintro e w6 ⟨rfl,vf6,F6,H6,n6,b61,b62,b63,b64,b65⟩;have hK6:=(hK4.drewN _).put b61 b62 b65;have hP6:=hK6.pw.hP;go_wp2_with fail
  refine (iR w6 P base vf6 F6 H6 n6 dm db b61 hP6 b62 d3 (by omega) (by omega)).mono ?_;rintro e w7 ⟨rfl,vf7,F7,H7,n7,b71,b72,b73,b74,b75⟩;have hK7:=hK6.put b71 b72 b75;go_wp2_with fail
  refine (rF w7 P base vw vs W Sn at_ gone L hK7.pw hK7.dws (by omega) haL hW hg hS).mono ?_;rintro e w8 ⟨rfl,Sn',p1,p2,p3,p4,p5⟩;have HLa:=ai p4;have HPv:=ai p5;clear p4 p5;have hK8:=hK7.pass p1 p3;have hPt:=((cd.refl P vf w).drewN (q+q2)).trans (b35.trans (b45.trans (((cd.refl P vf4 w4).drewN q5).trans (b65.trans b75))));go_wp2;go_end0;refine ⟨rfl,vf7,F7,H7,n7,Sn',L,_,_,⟨⟨_,HE2.out⟩,HFu.out,HLa.out⟩,⟨by rw [<-HFx.out];exact HEw.out,HPv.out⟩,hK8,HE2.out,?_,?_,p2,?_,hPt.blk⟩
  ·have s1:=mh b63 b64 b73;have s2:=mh b43 b44 s1;exact mh b33 b34 s2
  ·omega
  ·refine (hPt.fr.mono (fun y hy=>?_)).trans p3.fr (fun y _ hy=>?_)
   ·rcases hy with e | e
    ·exact .inl e
    ·exact .inr (.inl e)
   ·rcases hy with e | e
    ·exact .inl e
    ·exact .inr (.inr e)
theorem xM (w:World) (P base:Nat) (nx vf vw vs:Value) (F:List UInt8) (H n A B:Nat) (W:List UInt8) (Sn:List Int) (at_ gone:Nat) (h:PK w P base nx vf vw vs F H n A B W Sn at_ gone) (ha:at_ < W.length) (hW:W.length<=10000000) (hg:gone<=10000000) (hgo:gone=0\/32768<=at_) (hS:iY Sn (gone+at_)) (hF:F.length<=40000000):
  CP 198 #[zp P] w fun e w'=>e=.returned (.tuple #[])/\Stepped w P base nx vf vw vs F H n A B W Sn at_ gone w':=
 Dm w P base nx vf vw vs F H n A B W Sn at_ gone h ha hW hg hS hF (xx w P base vw vs W Sn at_ gone h.pw ha hW hg hgo hS)
theorem qH (w:World) (t u ty:TypeId) (ht:Tryz.prog.underlying t=some (.slice 5)) (hu:Tryz.prog.underlying u=some .string) {base:Nat} {v:Value} {out:List UInt8} (h:w.ownsRow base 5 1 v out.length (cells out)) (hb:base<=w.heap.size)
  (s:ByteArray) (hl:out.length+s.size<=4000000000):
  ∃ v' w',(Builtin.append_ #[t,u] ty #[v,s]).run prog w=.ok v' w'/\w'.ownsRow base 5 1 v' (out++s.data.toList).length (cells (out++s.data.toList))/\w.grownBy w' v.ownBlock/\(v'.ownBlock=v.ownBlock\/v'.ownBlock=some w.heap.size):=by
 obtain ⟨i0,hi,hz0,hz1,hz2⟩:=XQ Tryz.info5;obtain ⟨v',w',hr,ho,hg,hnil⟩:=Lib.run_append_own_string (P:=prog) w base t u ty 5 i0 ht hu hi hz0 hz1 hz2 v out.length (cells out) h s (by unfold maxLen;omega) (by omega) hb;refine ⟨v',w',hr,?_,hg,?_⟩
 ·rw [eV,ZY];exact ho
 ·rcases h.2 with ⟨rfl,hn⟩ | ⟨g,cap,cur,rfl,_,hgc,_,hcm,hcs,_⟩
  ·by_cases hm:s.size=0
   ·rw [hnil.2 ⟨rfl,hm⟩];exact YJ rfl
   ·have hr2:=run_append_nil_string (P:=prog) w t u ty 5 i0 (.int .u8 0) ht hu hi hz0 s (by omega) (by omega) (by rw [hz2];omega);rw [hr2] at hr
    cases hr
    exact YB rfl
  ·by_cases hroom:out.length+s.size<=cap
   ·have hr2:=Lib.run_append_room_string (P:=prog) w t u ty 5 i0 ht hu hi hz1 g out.length cap cur hgc s hroom (by omega);rw [hr2] at hr
    cases hr
    exact YJ rfl
   ·have hr2:=Lib.run_append_grow_string (P:=prog) w t u ty 5 i0 (.int .u8 0) ht hu hi hz0 ⟨g,0,none⟩ out.length cap (cells out) (by rw [hz1];simp [cells]) (h.cells (g:=g) rfl) s (by omega) (by omega) (by rw [hz2];exact growslice_fits (by omega) (by unfold maxLen at hcm;omega));rw [hr2] at hr
    cases hr
    exact YB rfl
theorem pU {ops:Array Oper} {o:Oper} {a:Act} {w:World} {K:Act->World->Prop} {Q:Exit->Act->World->Prop} {E:Prop} (hgd:o.guard=none) (sl x:Operand) (t u:TypeId)
  (ho:o.op=.call {callee:=.builtin .append,args:=#[sl,x],argTypes:=#[t,u]}) (ht:Tryz.prog.underlying t=some (.slice 5)) (hu:Tryz.prog.underlying u=some .string)
  (base:Nat) (v:Value) (out:List UInt8) (hs:a.eval sl=v) (h:w.ownsRow base 5 1 v out.length (cells out)) (hb:base<=w.heap.size) (s:ByteArray) (hx:a.eval x=.string s)
  (hl:out.length+s.size<=4000000000)
  (hk:∀ v' w',w'.ownsRow base 5 1 v' (out++s.data.toList).length (cells (out++s.data.toList))->w.grownBy w' v.ownBlock->(v'.ownBlock=v.ownBlock\/v'.ownBlock=some w.heap.size)->K (a.put o.dst v') w'):
  if Region.wanted o (yielded ops a.tmps)=true then Oper.wp prog o a w K Q else E:=by
 have hw:Region.wanted o (yielded ops a.tmps)=true:=by simp [Region.wanted,hgd]
 rw [ZN hw];obtain ⟨v',w',hr,h2,h3,h4⟩:=qH w t u o.type ht hu h hb s hl;unfold Oper.wp execOp;simp only [ho,resolve,invoke,builtin,XL,XX,Yi,Yf,Yo,XZ,hs,hx,hr];exact hk v' w' h2 h3 h4
theorem yd (w:World) (c A B:Nat) (t:ByteArray) (ht:t.size<=140737488355328) (hA:A < 65521) (hB:B < 65521) (c0:w.cell? (zq c 4)=some (.int .u32 A)) (c1:w.cell? (zq c 5)=some (.int .u32 B)) (f0:w.frozen? (zq c 4)=false) (f1:w.frozen? (zq c 5)=false):
  CP 197 #[zq c 4,t] w fun e w'=>e=.returned (.tuple #[])/\∃ q,w'=((w.drewN q).setCell (zq c 4) (.int .u32 ((Pm.cB t.data.toList (A,B)).1:Nat))).setCell (zq c 5) (.int .u32 ((Pm.cB t.data.toList (A,B)).2:Nat)):=by
 go_enter func197,ntmps197
 go_wp2;go_quiet (fail)
 go_wp2;go_loopg [4,5,6] t.size (fun g x y i wr=>∃ k X Y:Nat,k<=t.size/\X < 65521/\Y < 65521/\t.size - k<=g/\i=.int .i64 k/\x=.int .u32 X/\y=.int .u32 Y/\Hid (Pm.cB (t.data.toList.take k) (A,B)=(X,Y))/\wr=w.drewN nq)
 case atStart=>exact ⟨0,A,B,by omega,hA,hB,by omega,rfl,rfl,rfl,rfl,rfl⟩
 case round=>
  obtain ⟨k,X,Y,hk,hX,hY,hg,rfl,rfl,rfl,HE,rfl⟩:=hrel;by_cases hlt:k < t.size
  ·have HS:Hid (Pm.cB (t.data.toList.take (k+1)) (A,B)=((X+t[k].toNat) % 65521,(Y+(X+t[k].toNat) % 65521) % 65521)):=by
    show _=_
    rw [tC t k hlt,Pm.oT,HE.out]
   have hc:t[k].toNat < 256:=t[k].toNat_lt;go_wp2;go_roundg (gk - 1)
   case measure=>omega
   case rel=>exact ⟨k+1,(X+t[k].toNat) % 65521,(Y+(X+t[k].toNat) % 65521) % 65521,by omega,Yy _ (by decide),Yy _ (by decide),by omega,by go_num,by simp,by simp,HS.out,rfl⟩
  ·have hkc:t.data.toList.take k=t.data.toList:=Zy (by simp;omega);have HE2:Hid (Pm.cB t.data.toList (A,B)=(X,Y)):=by show _=_;rw [<-hkc];exact HE.out
   clear hkc;go_wp2;go_end0;rw [HE2.out];exact ⟨rfl,nq,rfl⟩
structure SK (w:World) (T base:Nat) (vt:Value) (Tk:List UInt8):Prop where
 c0:w.cell? T=(-1:Int)
 c1:w.cell? (zq T 1)=some vt
 c2:w.cell? (zq T 2)=false
 fz:∀ o,w.frozen? (zq T o)=false
 own:w.ownsRow base 5 1 vt Tk.length (cells Tk)
 ne:vt.ownBlock≠some T
 hT:T < w.heap.size
 hb:base<=w.heap.size
def uU (lim:Int) (n:Nat):Prop:=lim < 0\/(n:Int)<=lim
structure SL (w:World) (T base:Nat) (lim:Int) (vt:Value) (X:List UInt8):Prop where
 c0:w.cell? T=lim
 c1:w.cell? (zq T 1)=some vt
 c2:w.cell? (zq T 2)=false
 fz:∀ o,w.frozen? (zq T o)=false
 own:w.ownsRow base 5 1 vt X.length (cells X)
 ne:vt.ownBlock≠some T
 hT:T < w.heap.size
 hb:base<=w.heap.size
 fit:uU lim X.length
 lo:-9223372036854775808<=lim
 hi:lim<=9223372036854775807
theorem mx (w:World) (T base:Nat) (lim:Int) (vt:Value) (X:List UInt8) (h:SL w T base lim vt X) (n:Nat) (hn:n<=4000000000) (hl:lim < 0):
  QD 352 #[zp T,n] w n:=by
 have c0:=h.c0;have c2:=h.c2;go_enter func352,ntmps352
 go_wp2;go_ret;exact ⟨rfl,0,rfl⟩
theorem wY (w:World) (T base:Nat) (lim:Int) (vt:Value) (X:List UInt8) (h:SL w T base lim vt X) (n r:Nat) (hn:n<=4000000000) (hl:0<=lim) (hr:min (n:Int) (lim - (X.length:Int))=(r:Int)) (hX:X.length<=4000000000):
  QD 352 #[zp T,n] w r:=by
 have c0:=h.c0;have c1:=h.c1;have c2:=h.c2;have hi:=h.hi;have hnl:¬ lim < 0:=by omega
 obtain ⟨adu,capu,hform⟩:∃ ad cap,vt=.slice ad X.length cap:=by
  rcases h.own.2 with ⟨hu,hz⟩ | ⟨gg,cap,cur,hu,_⟩
  ·exact ⟨none,0,by rw [hu,hz]⟩
  ·exact ⟨_,_,hu⟩
 rw [hform] at c1;by_cases hc:(n:Int)<=lim - (X.length:Int)
 ·have e:(n:Int)=(r:Int):=by omega
  have hrn:r=n:=by omega
  subst hrn;clear hr e;go_enter func352,ntmps352
  go_wp2;go_region
  go_wp2;go_ret
  first | exact ⟨rfl,_,rfl⟩ | exact ⟨congrArg (fun z=>Ending.returned (.int .i64 z)) (by omega),_,rfl⟩
 ·have e:lim - (X.length:Int)=(r:Int):=by omega
  have hc':lim - (X.length:Int) < (n:Int):=by omega
  clear hr hc;go_enter func352,ntmps352
  go_wp2;go_region
  go_wp2;go_ret
  first | exact ⟨rfl,_,rfl⟩ | exact ⟨congrArg (fun z=>Ending.returned (.int .i64 z)) (by omega),_,rfl⟩
theorem Aa {v v':Value} {w:World} {T:Nat} (hT:T < w.heap.size) (hb:v'.ownBlock=v.ownBlock\/∃ g,v'.ownBlock=some g/\w.heap.size<=g) (h:v.ownBlock≠some T):v'.ownBlock≠some T:=by
 rcases hb with e | ⟨g,e,hg⟩
 ·rw [e];exact h
 ·rw [e];intro hh;cases hh;omega
theorem SL.after {w w':World} {T base:Nat} {lim:Int} {vt v':Value} {X:List UInt8} (h:SL w T base lim vt X) (hg:w.grownBy w' vt.ownBlock) (hat:v'.ownBlock=vt.ownBlock\/∃ g,v'.ownBlock=some g/\w.heap.size<=g) (f:Bool):
  v'.ownBlock≠some T/\(∀ o,w'.cell? (zq T o)=w.cell? (zq T o))/\(∀ o,w'.frozen? (zq T o)=w.frozen? (zq T o))/\Fr (fun k=>k=T\/vt.ownBlock=some k) w ((w'.setCell (zq T 1) v').setCell (zq T 2) f):=by
 have hblk:w'.heap[T]? =w.heap[T]? :=hg.block T h.hT (fun e=>h.ne e.symm);refine ⟨Aa h.hT hat h.ne,fun o=>ZQ (a:=zq T o) hblk,fun o=>ZH (a:=zq T o) hblk,⟨hg.os,hg.tape,hg.output,?_,?_⟩⟩
 ·have:=hg.size;simpa [World.setCell] using this
 ·intro k hk hb;have h1:k≠T:=fun e=>hb (.inl e)
  rw [YX _ _ _ _ h1,YX _ _ _ _ h1];exact hg.block k hk (fun e=>hb (.inr e.symm))
theorem SL.took {w w':World} {T base:Nat} {lim:Int} {vt v':Value} {X X':List UInt8} (h:SL w T base lim vt X) (hg:w.grownBy w' vt.ownBlock) (ho:w'.ownsRow base 5 1 v' X'.length (cells X')) (hat:v'.ownBlock=vt.ownBlock\/∃ g,v'.ownBlock=some g/\w.heap.size<=g) (hf:uU lim X'.length):
  SL ((w'.setCell (zq T 1) v').setCell (zq T 2) false) T base lim v' X'/\Fr (fun k=>k=T\/vt.ownBlock=some k) w ((w'.setCell (zq T 1) v').setCell (zq T 2) false):=by
 obtain ⟨hne,hcell,hfrz,hfr⟩:=h.after hg hat false;refine ⟨⟨?_,?_,?_,?_,cr (cr ho hne _ _) hne _ _,hne,?_,?_,hf,h.lo,h.hi⟩,hfr⟩
 ·rw [ZV _ _ _ _ (by simp),ZV _ _ _ _ (by simp),hcell];exact h.c0
 ·rw [ZV _ _ _ _ (by simp)];exact ZC (u:=vt) _ _ _ (by rw [hcell];exact h.c1)
 ·exact ZC (u:=.bool false) _ _ _ (by rw [ZV _ _ _ _ (by simp),hcell];exact h.c2)
 ·intro o;rw [ZL,ZL,hfrz];exact h.fz o
 ·have:=h.hT;have:=hg.size;simp [World.setCell];omega
 ·have:=h.hb;have:=hg.size;simp [World.setCell];omega
theorem pB (s:ByteArray):s.extract 0 s.size=s:=by
 apply Zd;simp [Zg]
theorem tK (w:World) (T base:Nat) (lim:Int) (vt:Value) (X:List UInt8) (s c:ByteArray) (r:Nat) (h:SL w T base lim vt X) (hl:X.length+s.size<=2000000000) (hrs:r<=s.size) (Hc:Hid (s.extract 0 r=c)) (hcs:c.size=r)
  (HRoom:Hid (QD 352 #[zp T,s.size] w r)) (hr:r=s.size):
  CP 351 #[zp T,s] w fun e w'=>e=.returned .nilIface/\∃ v' w7,w'=(w7.setCell (zq T 1) v').setCell (zq T 2) false/\w.grownBy w7 vt.ownBlock/\w7.ownsRow base 5 1 v' (X++c.data.toList).length (cells (X++c.data.toList))/\(v'.ownBlock=vt.ownBlock\/∃ g,v'.ownBlock=some g/\w.heap.size<=g):=by
 have c1:=h.c1;have c2:=h.c2;have f1:=h.fz 1;have f2:=h.fz 2;have hss:s.size<=2000000000:=by omega
 have hni:¬ (r:Int) < (s.size:Int):=by omega
 have hdi:decide ((r:Int) < (s.size:Int))=false:=Zo hni;clear hr;obtain ⟨adu,capu,hform⟩:∃ ad cap,vt=.slice ad X.length cap:=by
  rcases h.own.2 with ⟨hu,hz⟩ | ⟨gg,cap,cur,hu,_⟩
  ·exact ⟨none,0,by rw [hu,hz]⟩
  ·exact ⟨_,_,hu⟩
 subst hform;go_enter func351,ntmps351
 go_wp2_with fail
 refine HRoom.out.mono ?_;rintro e w1 ⟨rfl,q,rfl⟩;have HO:=ai (show (w.drewN q).drew.ownsRow base 5 1 (.slice adu X.length capu) X.length (cells X) from h.own);have hbd:base<=(w.drewN q).drew.heap.size:=h.hb;have HG:Hid (w.grownBy (w.drewN q).drew (Value.slice adu X.length capu).ownBlock):=⟨rfl,rfl,rfl,ZW _,fun _ _ _=>rfl⟩;go_wp2;go_region_law ((refine pU rfl (.tmp 14) (.tmp 17) 66 9 rfl underlying66 underlying9 base _ X (by simp [Act.eval,Act.put]) HO.out hbd c (by simp [Act.eval,Act.put,Hc.out]) (by omega) ?_;intro v7 w7 hO7 hg7 hat7;have hform7:∃ ad L cap,v7=.slice ad L cap:=(by rcases hO7.2 with ⟨hu,_⟩ | ⟨gg,cap,cur,hu,_⟩;exact ⟨_,_,_,hu⟩;exact ⟨_,_,_,hu⟩);obtain ⟨ad7,L7,cap7,hv7⟩:=hform7;rw [hv7] at hO7 hat7 ⊢;clear hv7;have kb:=(fv HG.out hg7).block T h.hT (fun e=>h.ne e.symm);have k1:=(ZQ (a:=zq T 1) kb).trans c1;have k2:=(ZQ (a:=zq T 2) kb).trans c2;have kf1:=(ZH (a:=zq T 1) kb).trans f1;have kf2:=(ZH (a:=zq T 2) kb).trans f2))
 all_goals
  have HF:=ai (fv HG.out hg7);have HO7:=ai hO7;have Hat:=ai hat7;clear hO7 hg7 hat7;go_wp2;go_ret;refine ⟨rfl,_,w7,by rw [show decide (r < s.size)=false from Zo (by omega)],HF.out,HO7.out,?_⟩;rcases Hat.out with e | e
  ·exact YJ e
  ·exact YB ⟨_,e,by simp⟩
theorem qF (w:World) (T base:Nat) (lim:Int) (vt:Value) (X:List UInt8) (s:ByteArray) (h:SL w T base lim vt X) (hl:X.length+s.size<=2000000000) (hf:uU lim (X.length+s.size)):
  CP 351 #[zp T,s] w fun e w'=>e=.returned .nilIface/\∃ vt',SL w' T base lim vt' (X++s.data.toList)/\Fr (fun k=>k=T\/vt.ownBlock=some k) w w'/\(vt'.ownBlock=vt.ownBlock\/∃ g,vt'.ownBlock=some g/\w.heap.size<=g):=by
 have hroom:QD 352 #[zp T,s.size] w s.size:=by
  rcases hf with h0 | h0
  ·exact mx w T base lim vt X h s.size (by omega) h0
  ·by_cases hn:lim < 0
   ·exact mx w T base lim vt X h s.size (by omega) hn
   ·exact wY w T base lim vt X h s.size s.size (by omega) (by omega) (by omega) (by omega)
 refine (tK w T base lim vt X s s s.size h hl (ZW _) (pB s) rfl hroom rfl).mono ?_;rintro e w' ⟨rfl,v',w7,rfl,hg,ho,hat⟩;have hlen:(X++s.data.toList).length=X.length+s.size:=by rw [ZY];simp
 obtain ⟨h1,h2⟩:=h.took hg ho hat (by rw [hlen];exact hf);exact ⟨rfl,v',h1,h2,hat⟩
theorem aP (s:ByteArray):s.data.toList.length=s.size:=by simp
abbrev Bl:=Nat->Prop
structure Mv (S:Bl) (w:World) (S':Bl) (w':World):Prop where
 fr:Fr S w w'
 new:∀ k,S' k->S k\/w.heap.size<=k
theorem Mv.refl (S:Bl) (w:World):Mv S w S w:=⟨Fr.refl _ _,fun _ h=>.inl h⟩
theorem Mv.trans {S S' S'':Bl} {u v w:World} (h:Mv S u S' v) (g:Mv S' v S'' w):Mv S u S'' w:=
 ⟨h.fr.trans g.fr (fun k hk hb=>(h.new k hb).elim id (fun e=>absurd hk (by omega))),fun k hk=>(g.new k hk).elim (fun e=>h.new k e) (fun e=>.inr (ZU h.fr.size e))⟩
theorem Mv.size {S S':Bl} {w w':World} (h:Mv S w S' w'):w.heap.size<=w'.heap.size:=h.fr.size
theorem Mv.drewN {S S':Bl} {w w':World} (h:Mv S w S' w') (q:Nat):Mv S w S' (w'.drewN q):=⟨h.fr.drewN q,h.new⟩
theorem Mv.undrew {S S':Bl} {w w':World} {q:Nat} (h:Mv S (w.drewN q) S' w'):Mv S w S' w':=⟨⟨h.fr.os,h.fr.tape,h.fr.output,h.fr.size,h.fr.keep⟩,h.new⟩
theorem Mv.mono {S S' T T':Bl} {w w':World} (h:Mv S w S' w') (hS:∀ k,S k->T k) (hT:∀ k,T' k->S' k\/T k):Mv T w T' w':=
 ⟨h.fr.mono hS,fun k hk=>(hT k hk).elim (fun e=>(h.new k e).elim (fun e=>.inl (hS k e)) .inr) .inl⟩
theorem Mv.grow {w w':World} (h:Below w w w') (S:Bl):Mv S w S w':=⟨⟨h.os,h.tape,h.output,h.size,fun k hk _=>h.block k hk⟩,fun _ h=>.inl h⟩
theorem Mv.below {S S':Bl} {w w':World} {B:Nat} (h:Mv S w S' w') (hS:∀ k,S k->B<=k) (hB:B<=w.heap.size):Below B w w':=
 ⟨h.fr.os,h.fr.tape,h.fr.output,h.fr.size,fun k hk=>h.fr.keep k (ZK hk hB) (fun e=>by have:=hS k e;omega)⟩
theorem Mv.keep {S S':Bl} {w w':World} (h:Mv S w S' w') {k:Nat} (hk:k < w.heap.size) (hs:¬ S k):w'.heap[k]? =w.heap[k]? :=h.fr.keep k hk hs
structure aJ (B:Nat) (K:World->Bl->Prop):Prop where
 keep:∀ {w w':World} {S:Bl},K w S->(∀ k,S k->w'.heap[k]? =w.heap[k]?)->w.heap.size<=w'.heap.size->K w' S
 lt:∀ {w:World} {S:Bl} {k:Nat},K w S->S k->k < w.heap.size
 ge:∀ {w:World} {S:Bl} {k:Nat},K w S->S k->B<=k
def oo (S R:Bl):Prop:=∀ k,S k->¬ R k
theorem oo.symm {S R:Bl} (h:oo S R):oo R S:=fun k a b=>h k b a
theorem aJ.on {B:Nat} {K:World->Bl->Prop} (hT:aJ B K) {w w':World} {S R R':Bl} (h:K w S) (m:Mv R w R' w') (hd:oo S R):K w' S/\oo S R':=
 ⟨hT.keep h (fun k hk=>m.keep (hT.lt h hk) (hd k hk)) m.size,fun k hk hr=>(m.new k hr).elim (hd k hk) (fun e=>by have:=hT.lt h hk;omega)⟩
theorem aJ.drewN {B:Nat} {K:World->Bl->Prop} (hT:aJ B K) {w:World} {S:Bl} (h:K w S) (q:Nat):K (w.drewN q) S:=hT.keep h (fun _ _=>rfl) (ZW _)
theorem aJ.grow {B:Nat} {K:World->Bl->Prop} (hT:aJ B K) {w w':World} {S:Bl} (h:K w S) (hb:Below w w w'):K w' S:=hT.keep h (fun k hk=>hb.block k (hT.lt h hk)) hb.size
theorem aJ.alloc {B:Nat} {K:World->Bl->Prop} (hT:aJ B K) {w:World} {S:Bl} (h:K w S) (o:Obj):K (w.alloc o) S:=hT.grow h ((ZT _ w).alloc (ZW _) o)
def ob (v:Value):Bl:=fun k=>v.ownBlock=some k
def cC (b:Nat):Bl:=fun k=>k=b
def cT (S R:Bl):Bl:=fun k=>S k\/R k
def aU (D:World->Bl->List UInt8->Prop) (ok:List UInt8->Prop) (et:TypeId) (ev:Value) (S:Bl) (w:World) (X out:List UInt8) (G:World->Bl->Prop) (e:Ending) (w':World):Prop:=
 (ok (X++out)/\e=.returned .nilIface/\∃ S',G w' S'/\Mv S w S' w')\/
 (¬ ok (X++out)/\e=.returned (.iface et ev)/\∃ S' Y,D w' S' Y/\X <+:Y/\Y <+:X++out/\Mv S w S' w')
structure fT (B:Nat) (K D:World->Bl->List UInt8->Prop) (ok:List UInt8->Prop) (M:Nat) (ty:TypeId) (q q':Value) (f:FuncId) (et:TypeId) (ev:Value):Prop where
 thing:∀ X,aJ B (fun w S=>K w S X)
 dead:∀ X,aJ B (fun w S=>D w S X)
 hn:∀ wx,(nilAhead 465 ty q "Write").run prog wx=.ok (some false) wx
 hm:∀ wx,(method 465 ty q "Write").run prog wx=.ok (f,q') wx
 he:∀ args wx,(callFunc f args).run prog wx=.ok (.enter f args) wx
 okp:∀ X Y,ok (X++Y)->ok X
 kok:∀ {w S X},K w S X->ok X
 write:∀ w S X (s:ByteArray),K w S X->X.length+s.size<=M->CP f #[q',s] w (aU D ok et ev S w X s.data.toList (fun w' S'=>K w' S' (X++s.data.toList)))
theorem aU.nil {D:World->Bl->List UInt8->Prop} {ok:List UInt8->Prop} {et:TypeId} {ev:Value} {S S':Bl} {w w':World} {X:List UInt8} {G:World->Bl->Prop} (hk:ok X) (hG:G w' S') (hm:Mv S w S' w'):aU D ok et ev S w X [] G (.returned .nilIface) w':=
 .inl ⟨by rw [YZ];exact hk,rfl,S',hG,hm⟩
theorem aU.fail {D:World->Bl->List UInt8->Prop} {ok:List UInt8->Prop} (okp:∀ X Y,ok (X++Y)->ok X) {et:TypeId} {ev:Value} {S S1 S':Bl} {w w1 w':World} {X X1 o1 out Y:List UInt8} {G:World->Bl->Prop}
  (hm:Mv S w S1 w1) (hx:X <+:X1) (ho:X1++o1 <+:X++out) (hn:¬ ok (X1++o1)) (hD:D w' S' Y) (h1:X1 <+:Y) (h2:Y <+:X1++o1) (hm':Mv S1 w1 S' w'):aU D ok et ev S w X out G (.returned (.iface et ev)) w':=by
 refine .inr ⟨fun h=>hn ?_,rfl,S',Y,hD,hx.trans h1,h2.trans ho,hm.trans hm'⟩;obtain ⟨t,ht⟩:=ho;rw [<-ht] at h;exact okp _ _ h
def jp (B T:Nat) (lim:Int) (w:World) (S:Bl) (X:List UInt8):Prop:=∃ vt,SL w T B lim vt X/\S=cT (cC T) (ob vt)/\B<=T
theorem SL.same {w w':World} {T base:Nat} {lim:Int} {vt:Value} {X:List UInt8} (h:SL w T base lim vt X) (hk:∀ k,(k=T\/vt.ownBlock=some k)->w'.heap[k]? =w.heap[k]?) (hz:w.heap.size<=w'.heap.size):SL w' T base lim vt X:=by
 have hblk:=hk T (.inl rfl);have hcell:∀ o,w'.cell? (zq T o)=w.cell? (zq T o):=fun o=>ZQ (a:=zq T o) hblk
 have hfrz:∀ o,w'.frozen? (zq T o)=w.frozen? (zq T o):=fun o=>ZH (a:=zq T o) hblk
 exact ⟨by rw [hcell];exact h.c0,by rw [hcell];exact h.c1,by rw [hcell];exact h.c2,fun o=>by rw [hfrz];exact h.fz o,cM h.own (fun g hg=>hk g (.inr hg)),h.ne,ZK h.hT hz,ZU h.hb hz,h.fit,h.lo,h.hi⟩
theorem jp.thing (B T:Nat) (lim:Int) (X:List UInt8):aJ B (fun w S=>jp B T lim w S X) where
 keep:=by
  rintro w w' S ⟨vt,h,rfl,hB⟩ hk hz;exact ⟨vt,h.same hk hz,rfl,hB⟩
 lt:=by
  rintro w S k ⟨vt,h,rfl,hB⟩ hk;rcases hk with e | e
  ·rw [e];exact h.hT
  ·exact (h.own.lt k e).2
 ge:=by
  rintro w S k ⟨vt,h,rfl,hB⟩ hk;rcases hk with e | e
  ·rw [e];exact hB
  ·exact (h.own.lt k e).1
theorem Eh (T:Nat) (w:World):(method 465 89 (zp T) "Write").run prog w=.ok (351,.pointer (some ⟨T,0,none⟩)) w:=by kernel_rfl
theorem zZ (T:Nat) (w:World):(nilAhead 465 89 (zp T) "Write").run prog w=.ok (some false) w:=by kernel_rfl
theorem CJ (args:Array Value) (w:World):(callFunc 351 args).run prog w=.ok (.enter 351 args) w:=by kernel_rfl
theorem xU (B T:Nat) (lim:Int) (hl:lim < 0) (D:World->Bl->List UInt8->Prop) (hD:∀ X,aJ B (fun w S=>D w S X)) (et:TypeId) (ev:Value):
  fT B (jp B T lim) D (fun _=>True) 2000000000 89 (zp T) (zp T) 351 et ev where
 thing:=jp.thing B T lim
 dead:=hD
 hn:=zZ T
 hm:=Eh T
 he:=CJ
 okp:=fun _ _ _=>trivial
 kok:=fun _=>trivial
 write:=by
  rintro w S X s ⟨vt,h,rfl,hB⟩ hX;refine (qF w T B lim vt X s h hX (.inl hl)).mono ?_;rintro e w' ⟨rfl,vt',h',hF,hb⟩;refine .inl ⟨trivial,rfl,_,⟨vt',h',rfl,hB⟩,⟨hF.mono ?_,?_⟩⟩
  ·rintro k (e | e)
   ·exact .inl e
   ·exact .inr e
  ·rintro k (e | e)
   ·exact .inl (.inl e)
   ·rcases hb with e2 | ⟨g,e2,hg⟩
    ·exact .inl (.inr (by unfold ob at e ⊢;rw [<-e2];exact e))
    ·unfold ob at e;rw [e2] at e;cases e;exact .inr hg
def CK (K:World->Bl->List UInt8->Prop) (B C n0:Nat) (ty:TypeId) (q:Value) (w:World) (S:Bl) (X:List UInt8):Prop:=
 ∃ R,K w R X/\S=cT (cC C) R/\B<=C/\¬ R C/\C < w.heap.size/\n0<=X.length/\w.cell? C=some (.iface ty q)/\w.cell? (zq C 1)=((X.length - n0:Nat):Int)/\∀ o,w.frozen? (zq C o)=false
theorem CK.thing {K:World->Bl->List UInt8->Prop} {B:Nat} (hT:∀ X,aJ B (fun w S=>K w S X)) (C n0:Nat) (ty:TypeId) (q:Value) (X:List UInt8):aJ B (fun w S=>CK K B C n0 ty q w S X) where
 keep:=by
  rintro w w' S ⟨R,hK,rfl,hB,hn,hC,h0,c0,c1,fz⟩ hk hz;have hblk:=hk C (.inl rfl);refine ⟨R,(hT X).keep hK (fun k hr=>hk k (.inr hr)) hz,rfl,hB,hn,ZK hC hz,h0,?_,?_,?_⟩
  ·rw [ZQ (a:=C) hblk];exact c0
  ·rw [ZQ (a:=zq C 1) hblk];exact c1
  ·intro o;rw [ZH (a:=zq C o) hblk];exact fz o
 lt:=by
  rintro w S k ⟨R,hK,rfl,hB,hn,hC,_⟩ hk;rcases hk with e | e
  ·rw [e];exact hC
  ·exact (hT X).lt hK e
 ge:=by
  rintro w S k ⟨R,hK,rfl,hB,hn,hC,_⟩ hk;rcases hk with e | e
  ·rw [e];exact hB
  ·exact (hT X).ge hK e
theorem uz (C:Nat) (w:World):(method 465 162 (zp C) "Write").run prog w=.ok (128,.pointer (some ⟨C,0,none⟩)) w:=by kernel_rfl
theorem xQ (C:Nat) (w:World):(nilAhead 465 162 (zp C) "Write").run prog w=.ok (some false) w:=by kernel_rfl
theorem yE (args:Array Value) (w:World):(callFunc 128 args).run prog w=.ok (.enter 128 args) w:=by kernel_rfl
theorem mG (ty:TypeId) (q q':Value) (f:FuncId) (hn:∀ wx,(nilAhead 465 ty q "Write").run prog wx=.ok (some false) wx) (hm:∀ wx,(method 465 ty q "Write").run prog wx=.ok (f,q') wx) (he:∀ args wx,(callFunc f args).run prog wx=.ok (.enter f args) wx)
  (w:World) (C n:Nat) (s:ByteArray) (Z:Ending->World->Prop) (c0:w.cell? C=some (.iface ty q)) (c1:w.cell? (zq C 1)=n) (f1:w.frozen? (zq C 1)=false) (hb:n<=4000000000) (hs:s.size<=4000000000)
  (HW:Hid (CP f #[q',s] (w.setCell (zq C 1) ((n:Int)+(s.size:Int):Int)) fun e w'=>∃ v,e=.returned v/\Z (.returned v) w')):
  CP 128 #[zp C,s] w Z:=by
 go_enter func128,ntmps128
 go_wp2_with fail
 refine HW.out.mono ?_;rintro e w1 ⟨v,rfl,hZ⟩;go_wp2
 first
  | exact hZ
  | (go_ret;exact hZ)
theorem aU.val {D:World->Bl->List UInt8->Prop} {ok:List UInt8->Prop} {et:TypeId} {ev:Value} {S:Bl} {w w':World} {X out:List UInt8} {G:World->Bl->Prop} {e:Ending} (h:aU D ok et ev S w X out G e w'):∃ v,e=.returned v:=by
 rcases h with ⟨_,e,_⟩ | ⟨_,e,_⟩
 ·exact ⟨_,e⟩
 ·exact ⟨_,e⟩
section
variable {K D:World->Bl->List UInt8->Prop} {ok:List UInt8->Prop} {B M:Nat} {ty:TypeId} {q q':Value} {f:FuncId} {et:TypeId} {ev:Value}
theorem fT.count (d:fT B K D ok M ty q q' f et ev) (hMx:M<=2000000000) (C n0:Nat):fT B (CK K B C n0 ty q) D ok M 162 (zp C) (zp C) 128 et ev where
 thing:=CK.thing d.thing C n0 ty q
 dead:=d.dead
 hn:=xQ C
 hm:=uz C
 he:=yE
 okp:=d.okp
 kok:=by
  rintro w S X ⟨R,hK,_⟩;exact d.kok hK
 write:=by
  rintro w S X s ⟨R,hK,rfl,hB,hn,hC,h0,c0,c1,fz⟩ hX;have hK1:K (w.setCell (zq C 1) (((X.length - n0:Nat):Int)+(s.size:Int):Int)) R X:=(d.thing X).keep hK (fun k hr=>YX _ _ _ _ (by intro e;have e':k=C:=e;exact hn (e' ▸ hr))) (by simp [World.setCell]);have hfr:Fr (fun k=>k=C) w (w.setCell (zq C 1) (((X.length - n0:Nat):Int)+(s.size:Int):Int)):=⟨rfl,rfl,rfl,by simp [World.setCell],fun k _ hb=>YX _ _ _ _ hb⟩;have hsz:(w.setCell (zq C 1) (((X.length - n0:Nat):Int)+(s.size:Int):Int)).heap.size=w.heap.size:=by simp [World.setCell]
  have hM1:Mv (cT (cC C) R) w (cT (cC C) R) (w.setCell (zq C 1) (((X.length - n0:Nat):Int)+(s.size:Int):Int)):=⟨hfr.mono (fun k e=>.inl e),fun _ h=>.inl h⟩;refine mG ty q q' f d.hn d.hm d.he w C (X.length - n0) s _ c0 c1 (fz 1) (by omega) (by omega) ((d.write _ R X s hK1 hX).mono ?_);intro e w' hS;obtain ⟨v,rfl⟩:=hS.val;refine ⟨v,rfl,?_⟩;rcases hS with ⟨hok,e,R',hK',hm⟩ | ⟨hok,e,R',Y,hD,h1,h2,hm⟩
  ·have hCR:¬ R' C:=fun hr=>(hm.new C hr).elim hn (fun e=>by omega)
   have hblk:=hm.keep (k:=C) (by omega) hn;refine .inl ⟨hok,e,cT (cC C) R',⟨R',hK',rfl,hB,hCR,by have:=hm.size;omega,by rw [ZY];omega,?_,?_,?_⟩,hM1.trans (hm.mono (fun k e=>.inr e) (fun k e=>e.elim (fun e=>.inr (.inl e)) .inl))⟩
   ·rw [ZQ (a:=C) hblk,ZV _ _ _ _ (by simp)];exact c0
   ·rw [ZQ (a:=zq C 1) hblk,ZC _ _ _ c1,ZY,aP s];congr 2;omega
   ·intro o;rw [ZH (a:=zq C o) hblk,ZL];exact fz o
  ·exact .inr ⟨hok,e,R',Y,hD,h1,h2,hM1.trans (hm.mono (fun k e=>.inr e) (fun k e=>.inl e))⟩
end
abbrev As:=World->Bl->Prop
def ah (P Q:As):As:=fun w S=>∃ S1 S2,P w S1/\Q w S2/\oo S1 S2/\S=cT S1 S2
theorem ah.thing {B:Nat} {P Q:As} (hP:aJ B P) (hQ:aJ B Q):aJ B (ah P Q) where
 keep:=by
  rintro w w' S ⟨S1,S2,h1,h2,ho,rfl⟩ hk hz;exact ⟨S1,S2,hP.keep h1 (fun k e=>hk k (.inl e)) hz,hQ.keep h2 (fun k e=>hk k (.inr e)) hz,ho,rfl⟩
 lt:=by
  rintro w S k ⟨S1,S2,h1,h2,ho,rfl⟩ (e | e)
  ·exact hP.lt h1 e
  ·exact hQ.lt h2 e
 ge:=by
  rintro w S k ⟨S1,S2,h1,h2,ho,rfl⟩ (e | e)
  ·exact hP.ge h1 e
  ·exact hQ.ge h2 e
theorem ah.swap {P Q:As} {w:World} {S:Bl} (h:ah P Q w S):ah Q P w S:=by
 obtain ⟨S1,S2,h1,h2,ho,rfl⟩:=h;refine ⟨S2,S1,h2,h1,ho.symm,?_⟩;funext k
 exact propext Or.comm
theorem ah.assoc {P Q R:As} {w:World} {S:Bl} (h:ah (ah P Q) R w S):ah P (ah Q R) w S:=by
 obtain ⟨_,S3,⟨S1,S2,h1,h2,ho,rfl⟩,h3,ho2,rfl⟩:=h;refine ⟨S1,cT S2 S3,h1,⟨S2,S3,h2,h3,fun k e=>ho2 k (.inr e),rfl⟩,?_,?_⟩
 ·rintro k e (e2 | e2)
  ·exact ho k e e2
  ·exact ho2 k (.inl e) e2
 ·funext k
  exact propext or_assoc
theorem ah.assocR {P Q R:As} {w:World} {S:Bl} (h:ah P (ah Q R) w S):ah (ah P Q) R w S:=by
 obtain ⟨S1,_,h1,⟨S2,S3,h2,h3,ho,rfl⟩,ho2,rfl⟩:=h;refine ⟨cT S1 S2,S3,⟨S1,S2,h1,h2,fun k e e2=>ho2 k e (.inl e2),rfl⟩,h3,?_,?_⟩
 ·rintro k (e | e) e2
  ·exact ho2 k e (.inr e2)
  ·exact ho k e e2
 ·funext k
  exact propext or_assoc.symm
theorem ah.left {B:Nat} {P' Q:As} (hQ:aJ B Q) {w w':World} {S1 S1' S2:Bl} (h2:Q w S2) (ho:oo S1 S2) (h':P' w' S1') (m:Mv S1 w S1' w'):ah P' Q w' (cT S1' S2)/\Mv (cT S1 S2) w (cT S1' S2) w':=by
 obtain ⟨a,b⟩:=hQ.on h2 m ho.symm;exact ⟨⟨S1',S2,h',a,b.symm,rfl⟩,m.mono (fun k e=>.inl e) (fun k e=>e.elim .inl (fun e=>.inr (.inr e)))⟩
theorem ah.new {B:Nat} {P Q:As} (hQ:aJ B Q) {w w':World} {S1 S2:Bl} (h2:Q w S2) (h1:P w' S1) (hg:Below w w w') (hn:∀ k,S1 k->w.heap.size<=k):ah P Q w' (cT S1 S2)/\Mv S2 w (cT S1 S2) w':=by
 refine ⟨⟨S1,S2,h1,hQ.grow h2 hg,fun k e e2=>?_,rfl⟩,⟨(Mv.grow hg S2).fr,?_⟩⟩
 ·have:=hn k e;have:=hQ.lt h2 e2;omega
 ·rintro k (e | e)
  ·exact .inr (hn k e)
  ·exact .inl e
theorem ah.drop {P Q:As} {w:World} {S:Bl} (h:ah P Q w S):∃ S1,P w S1/\Mv S w S1 w:=by
 obtain ⟨S1,S2,h1,_,_,rfl⟩:=h;exact ⟨S1,h1,⟨Fr.refl _ _,fun k e=>.inl (.inl e)⟩⟩
def aS (B b:Nat) (vs:List Value):As:=fun w S=>S=cC b/\B<=b/\b < w.heap.size/\(∀ i v,vs[i]? =some v->w.cell? (zq b i)=some v)/\∀ o,w.frozen? (zq b o)=false
theorem aS.thing (B b:Nat) (vs:List Value):aJ B (aS B b vs) where
 keep:=by
  rintro w w' S ⟨rfl,hB,hb,hc,hf⟩ hk hz;have hblk:=hk b rfl;exact ⟨rfl,hB,ZK hb hz,fun i v hv=>(ZQ (a:=zq b i) hblk).trans (hc i v hv),fun o=>(ZH (a:=zq b o) hblk).trans (hf o)⟩
 lt:=by
  rintro w S k ⟨rfl,hB,hb,_⟩ rfl;exact hb
 ge:=by
  rintro w S k ⟨rfl,hB,hb,_⟩ rfl;exact hB
theorem aS.at {B b:Nat} {vs:List Value} {w:World} {S:Bl} (h:aS B b vs w S) (i:Nat) (v:Value) (hv:vs[i]? =some v):w.cell? (zq b i)=some v:=h.2.2.2.1 i v hv
theorem aS.fz {B b:Nat} {vs:List Value} {w:World} {S:Bl} (h:aS B b vs w S) (o:Nat):w.frozen? (zq b o)=false:=h.2.2.2.2 o
theorem aS.set {B b:Nat} {vs:List Value} {w:World} {S:Bl} (h:aS B b vs w S) (i:Nat) (v:Value) (hi:i < vs.length):aS B b (vs.set i v) (w.setCell (zq b i) v) S/\Mv S w S (w.setCell (zq b i) v):=by
 obtain ⟨rfl,hB,hb,hc,hf⟩:=h;refine ⟨⟨rfl,hB,by simpa [World.setCell] using hb,?_,fun o=>by rw [ZL];exact hf o⟩,⟨⟨rfl,rfl,rfl,by simp [World.setCell],fun k _ hk=>YX _ _ _ _ hk⟩,fun k e=>.inl e⟩⟩;intro j u hu;by_cases hj:i=j
 ·subst hj;have:(vs.set i v)[i]? =some v:=by simp [hi]
  rw [this] at hu;cases hu;exact ZC (u:=vs[i]) _ _ _ (hc i _ (by simp [hi]))
 ·rw [List.getElem?_set_ne hj] at hu;rw [ZV _ _ _ _ (by intro e;cases e;exact hj rfl)];exact hc j u hu
theorem aS.alloc {B:Nat} {vs:List Value} {w:World} {t:TypeId} (hB:B<=w.heap.size):aS B w.heap.size vs (w.alloc (.cells vs.toArray t)) (cC w.heap.size):=by
 refine ⟨rfl,hB,by simp,?_,fun o=>by simp⟩;intro i v hv;have:=(Zx.1 hv);obtain ⟨hi,rfl⟩:=this;simp [hi]
def aW (B:Nat) (e:TypeId) (z:Nat) (v:Value) (n:Nat) (xs:List Value):As:=fun w S=>S=ob v/\w.ownsRow B e z v n xs
theorem lH {w w':World} {base:Nat} {e:TypeId} {z:Nat} {v:Value} {n:Nat} {xs:List Value} (h:w.ownsRow base e z v n xs) (hk:∀ g,v.ownBlock=some g->w'.heap[g]? =w.heap[g]?):w'.ownsRow base e z v n xs:=by
 refine ⟨h.1,?_⟩;rcases h.2 with h2 | ⟨g,cap,cur,rfl,a,b,c⟩
 ·exact .inl h2
 ·exact .inr ⟨g,cap,cur,rfl,a,(hk g rfl).trans b,c⟩
theorem aW.thing (B:Nat) (e:TypeId) (z:Nat) (v:Value) (n:Nat) (xs:List Value):aJ B (aW B e z v n xs) where
 keep:=by
  rintro w w' S ⟨rfl,h⟩ hk hz;exact ⟨rfl,lH h (fun g hg=>hk g hg)⟩
 lt:=by
  rintro w S k ⟨rfl,h⟩ hk;exact (h.lt k hk).2
 ge:=by
  rintro w S k ⟨rfl,h⟩ hk;exact (h.lt k hk).1
theorem aW.nil (B:Nat) (e:TypeId) (z:Nat) (w:World):aW B e z (.slice none 0 0) 0 [] w (ob (.slice none 0 0)):=⟨rfl,Yj _ _ _ _⟩
theorem Mv.tabBelow {S S':Bl} {w w':World} {B:Nat} {P:As} (hP:aJ B P) (h:P w S) (m:Mv S w S' w') (hB:B<=w.heap.size):Below B w w':=m.below (fun _ e=>hP.ge h e) hB
theorem ah.fst {B:Nat} {P Q:As} (hQ:aJ B Q) {w:World} {S:Bl} (h:ah P Q w S):∃ S1,P w S1/\(∀ k,S1 k->S k)/\∀ (P':As) w' S1',P' w' S1'->Mv S1 w S1' w'->∃ S',ah P' Q w' S'/\Mv S w S' w':=by
 obtain ⟨S1,S2,h1,h2,ho,rfl⟩:=h;exact ⟨S1,h1,fun k e=>.inl e,fun P' w' S1' h' m=>⟨_,ah.left hQ h2 ho h' m⟩⟩
theorem ah.snd {B:Nat} {P Q:As} (hP:aJ B P) {w:World} {S:Bl} (h:ah P Q w S):∃ S1,Q w S1/\(∀ k,S1 k->S k)/\∀ (Q':As) w' S1',Q' w' S1'->Mv S1 w S1' w'->∃ S',ah P Q' w' S'/\Mv S w S' w':=by
 obtain ⟨S1,h1,hs,k⟩:=h.swap.fst hP;refine ⟨S1,h1,hs,fun Q' w' S1' h' m=>?_⟩;obtain ⟨S',a,b⟩:=k Q' w' S1' h' m;exact ⟨S',a.swap,b⟩
theorem ah.mid {B:Nat} {P Q R:As} (hP:aJ B P) (hR:aJ B R) {w:World} {S:Bl} (h:ah P (ah Q R) w S):∃ S1,Q w S1/\(∀ k,S1 k->S k)/\∀ (Q':As) w' S1',Q' w' S1'->Mv S1 w S1' w'->∃ S',ah P (ah Q' R) w' S'/\Mv S w S' w':=by
 obtain ⟨S2,h2,hs,k⟩:=h.snd hP;obtain ⟨S1,h1,hs1,k1⟩:=h2.fst hR;refine ⟨S1,h1,fun k e=>hs k (hs1 k e),fun Q' w' S1' h' m=>?_⟩;obtain ⟨S2',a,b⟩:=k1 Q' w' S1' h' m;exact k _ w' S2' a b
theorem ah.third {B:Nat} {P Q R:As} (hP:aJ B P) (hQ:aJ B Q) {w:World} {S:Bl} (h:ah P (ah Q R) w S):∃ S1,R w S1/\(∀ k,S1 k->S k)/\∀ (R':As) w' S1',R' w' S1'->Mv S1 w S1' w'->∃ S',ah P (ah Q R') w' S'/\Mv S w S' w':=by
 obtain ⟨S2,h2,hs,k⟩:=h.snd hP;obtain ⟨S1,h1,hs1,k1⟩:=h2.snd hQ;refine ⟨S1,h1,fun k e=>hs k (hs1 k e),fun R' w' S1' h' m=>?_⟩;obtain ⟨S2',a,b⟩:=k1 R' w' S1' h' m;exact k _ w' S2' a b
theorem aU.lift {D:World->Bl->List UInt8->Prop} {ok:List UInt8->Prop} {et:TypeId} {ev:Value} {S S':Bl} {w w':World} {X out:List UInt8} {G G':As} {e:Ending} (hs:∀ k,S k->S' k) (hu:∀ S9,G w' S9->Mv S w S9 w'->∃ T,G' w' T/\Mv S' w T w') (h:aU D ok et ev S w X out G e w'):aU D ok et ev S' w X out G' e w':=by
 rcases h with ⟨a,b,S9,c,m⟩ | ⟨a,b,S9,Y,c,d1,d2,m⟩
 ·obtain ⟨T,x,y⟩:=hu S9 c m;exact .inl ⟨a,b,T,x,y⟩
 ·exact .inr ⟨a,b,S9,Y,c,d1,d2,m.mono hs (fun k e=>.inl e)⟩
theorem aU.pre {D:World->Bl->List UInt8->Prop} {ok:List UInt8->Prop} {et:TypeId} {ev:Value} {S S1:Bl} {w w1 w':World} {X out:List UInt8} {G:World->Bl->Prop} {e:Ending} (hm:Mv S w S1 w1) (h:aU D ok et ev S1 w1 X out G e w'):aU D ok et ev S w X out G e w':=by
 rcases h with ⟨a,b,S',c,d⟩ | ⟨a,b,S',Y,c,d1,d2,d3⟩
 ·exact .inl ⟨a,b,S',c,hm.trans d⟩
 ·exact .inr ⟨a,b,S',Y,c,d1,d2,hm.trans d3⟩
theorem aW.moved {B:Nat} {e:TypeId} {z:Nat} {v v':Value} {n':Nat} {xs':List Value} {w w':World} (hg:w.grownBy w' v.ownBlock) (ho:w'.ownsRow B e z v' n' xs') (hat:v'.ownBlock=v.ownBlock\/v'.ownBlock=some w.heap.size):aW B e z v' n' xs' w' (ob v')/\Mv (ob v) w (ob v') w':=by
 refine ⟨⟨rfl,ho⟩,⟨⟨hg.os,hg.tape,hg.output,hg.size,fun k hk hb=>hg.block k hk (fun e=>hb e.symm)⟩,?_⟩⟩;intro k hk;rcases hat with e | e
 ·exact .inl (by unfold ob at hk ⊢;rw [<-e];exact hk)
 ·unfold ob at hk;rw [e] at hk;cases hk;exact .inr (ZW _)
theorem aW.form {B:Nat} {e:TypeId} {z:Nat} {v:Value} {n:Nat} {xs:List Value} {w:World} {S:Bl} (h:aW B e z v n xs w S):∃ ad cap,v=.slice ad n cap:=by
 rcases h.2.2 with ⟨hu,hz⟩ | ⟨gg,cap,cur,hu,_⟩
 ·exact ⟨none,0,by rw [hu,hz]⟩
 ·exact ⟨_,_,hu⟩
theorem bQ {ops:Array Oper} {rest:List Oper} {o:Oper} {a:Act} {w:World} {Q:Exit->Act->World->Prop} (hgd:o.guard=none) (sl x:Operand) (t:TypeId)
  (ho:o.op=.call {callee:=.builtin .append,args:=#[sl,x],argTypes:=#[t,t]}) (e:TypeId) (zero:Value) (z bytes:Nat) (hi:(Tryz.prog.info? e).map (fun i=>(i.zero,i.size,i.bytes))=some (some zero,z,bytes)) (hzs:zero.cells.size=z) (hz:0 < z) (ht:Tryz.prog.underlying t=some (.slice e))
  (base:Nat) (v:Value) (n:Nat) (xs:List Value) (hs:a.eval sl=v) (h:w.ownsRow base e z v n xs) (hb:base<=w.heap.size) (ad:Addr) (m:Nat) (hx:a.eval x=.slice (some ad) 1 m) (news:List Value) (hl:news.length=z) (hnews:∀ j u,news[j]? =some u->w.cell? (ad.add j)=some u) (h1:∀ u∈news,u.oneCell'=true)
  (hn:n<=1000000000) (hby:bytes<=1000)
  (hk:∀ v' w',w'.ownsRow base e z v' (n+1) (xs++news)->w.grownBy w' v.ownBlock->(v'.ownBlock=v.ownBlock\/v'.ownBlock=some w.heap.size)->wpList prog ops Q rest (a.put o.dst v') w'):wpList prog ops Q (o::rest) a w:=by
 refine wpList_plain hgd fun K hK=>?_
 obtain ⟨i0,hi0,hz0,hz1,hz2⟩:=XQ hi;have hb2:(n+1)*bytes<=140737488355328:=ZU (XH (n+1) hby) (by omega);obtain ⟨v',w',hr,h2,h3,_,h4⟩:=run_append_own_at (P:=prog) w base t o.type e i0 zero z bytes ht hi0 hz0 hz1 hz2 hzs hz v n xs h ad 1 m news (by rw [hl];omega) hnews h1 (by unfold maxLen;omega) hb2 hb;unfold Oper.wp execOp;simp only [ho,resolve,invoke,builtin,XL,XX,Yi,Yf,Yo,XZ,hs,hx,hr];exact hK _ _ (hk v' w' h2 h3 h4)
theorem ES {ops:Array Oper} {o:Oper} {a:Act} {w:World} {K:Act->World->Prop} {Q:Exit->Act->World->Prop} {E:Prop} (hgd:o.guard=none) (sl x:Operand) (t:TypeId)
  (ho:o.op=.call {callee:=.builtin .append,args:=#[sl,x],argTypes:=#[t,t]}) (e:TypeId) (zero:Value) (z bytes:Nat) (hi:(Tryz.prog.info? e).map (fun i=>(i.zero,i.size,i.bytes))=some (some zero,z,bytes)) (hzs:zero.cells.size=z) (hz:0 < z) (ht:Tryz.prog.underlying t=some (.slice e))
  (base:Nat) (v:Value) (n:Nat) (xs:List Value) (hs:a.eval sl=v) (h:w.ownsRow base e z v n xs) (hb:base<=w.heap.size) (ad:Addr) (m:Nat) (hx:a.eval x=.slice (some ad) 1 m) (news:List Value) (hl:news.length=z) (hnews:∀ j u,news[j]? =some u->w.cell? (ad.add j)=some u) (h1:∀ u∈news,u.oneCell'=true)
  (hn:n<=1000000000) (hby:bytes<=1000)
  (hk:∀ v' w',w'.ownsRow base e z v' (n+1) (xs++news)->w.grownBy w' v.ownBlock->(v'.ownBlock=v.ownBlock\/v'.ownBlock=some w.heap.size)->K (a.put o.dst v') w'):
  if Region.wanted o (yielded ops a.tmps)=true then Oper.wp prog o a w K Q else E:=by
 have hw:Region.wanted o (yielded ops a.tmps)=true:=by simp [Region.wanted,hgd]
 rw [ZN hw];obtain ⟨i0,hi0,hz0,hz1,hz2⟩:=XQ hi;have hb2:(n+1)*bytes<=140737488355328:=ZU (XH (n+1) hby) (by omega);obtain ⟨v',w',hr,h2,h3,_,h4⟩:=run_append_own_at (P:=prog) w base t o.type e i0 zero z bytes ht hi0 hz0 hz1 hz2 hzs hz v n xs h ad 1 m news (by rw [hl];omega) hnews h1 (by unfold maxLen;omega) hb2 hb;unfold Oper.wp execOp;simp only [ho,resolve,invoke,builtin,XL,XX,Yi,Yf,Yo,XZ,hs,hx,hr];exact hk v' w' h2 h3 h4
theorem qk (w:World) (x:Value) (t:TypeId):∀ j u,[x][j]? =some u->(w.alloc (.cells #[x] t)).cell? ((⟨w,0,none⟩:Addr).add j)=some u:=by
 intro j u hj
 match j,hj with
 | 0,hj=>simp at hj;subst hj;simp [Addr.add]
 | (j+1),hj=>simp at hj
theorem nQ (w:World) (ty:TypeId) (q:Value):CP 108 #[.iface ty q] w fun e w'=>e=.returned (zp w.heap.size)/\w'=w.alloc (.cells #[.iface ty q,oz] 208):=by
 go_enter func108,ntmps108
 go_wp2;go_ret;exact ⟨rfl,rfl⟩
theorem nk (w:World):CP 108 #[.nilIface] w fun e w'=>e=.returned (zp w.heap.size)/\w'=w.alloc (.cells #[.nilIface,oz] 208):=by
 go_enter func108,ntmps108
 go_wp2;go_ret;exact ⟨rfl,rfl⟩
theorem eE (w:World) (C:Nat) (n:Int) (h:w.cell? (zq C 1)=n):QE 127 #[zp C] w n:=by
 go_enter func127,ntmps127
 go_wp2;go_ret;exact ⟨rfl,rfl⟩
theorem q7 (w:World) (C:Nat) (n:Int) (h:w.cell? (zq C 1)=n) (q:Nat):CP 127 #[zp C] (w.drewN q) fun e w'=>e=.returned n/\∃ z,w'=(w.drewN q).drewN z:=
 (eE (w.drewN q) C n h).mono fun _ _ ⟨a,b⟩=>⟨a,0,b⟩
theorem x9 (w:World) (T:Nat) (b:Bool) (h:w.cell? (zq T 2)=b):QE 94 #[zp T] w b:=by
 go_enter func94,ntmps94
 go_wp2;go_ret;exact ⟨rfl,rfl⟩
theorem nD (w:World) (B T:Nat) (lim:Int) (S:Bl) (X:List UInt8) (h:jp B T lim w S X) (hl:X.length<=2000000000):QE 50 #[zp T] w (.string ⟨X.toArray⟩):=by
 obtain ⟨vt,hs,rfl,hB⟩:=h;have c1:=hs.c1;by_cases h0:X.length=0
 ·obtain rfl:X=[]:=Zp h0;obtain ⟨ad,cap,hv⟩:∃ ad cap,vt=.slice ad 0 cap:=by
   rcases hs.own.2 with ⟨e,_⟩ | ⟨g,cap,cur,e,_⟩
   ·exact ⟨_,_,e⟩
   ·exact ⟨_,_,e⟩
  subst hv;have hconv:(convert 66 9 (.slice ad 0 cap)).run prog w=.ok (.string ⟨([]:List UInt8).toArray⟩) w:=by
   cases ad with
   | none=>kernel_rfl
   | some a=>exact Yx _ 66 9 5 a cap [] underlying66 underlying5 underlying9 (fun j hj=>absurd hj (by simp))
  go_enter func50,ntmps50
  go_wp2;go_ret;exact ⟨rfl,rfl⟩
 ·obtain ⟨g,cap,hv,hle,hb,hcell⟩:=jJ hs.own (by omega);subst hv;have hconv:(convert 66 9 (.slice g X.length cap)).run prog w=.ok (.string ⟨X.toArray⟩) w:=by
   refine Yx _ 66 9 5 ⟨g,0,none⟩ cap X underlying66 underlying5 underlying9 ?_;intro j hj;have hadd:(⟨g,0,none⟩:Addr).add j=⟨g,j,none⟩:=by unfold Addr.add;split <;> simp_all
   rw [hadd,hcell j hj];simp [ZJ,ZM hj]
  go_enter func50,ntmps50
  go_wp2;go_ret;exact ⟨rfl,rfl⟩
section
variable {K D:World->Bl->List UInt8->Prop} {ok:List UInt8->Prop} {B M:Nat} {ty:TypeId} {q q':Value} {f:FuncId} {et:TypeId} {ev:Value}
theorem CK.fresh (hT:∀ X,aJ B (fun w S=>K w S X)) {w:World} {R:Bl} {X:List UInt8} (hK:K w R X) (hB:B<=w.heap.size):CK K B w.heap.size X.length ty q (w.alloc (.cells #[.iface ty q,oz] 208)) (cT (cC w.heap.size) R) X/\Mv R w (cT (cC w.heap.size) R) (w.alloc (.cells #[.iface ty q,oz] 208)):=by
 refine ⟨⟨R,(hT X).alloc hK _,rfl,hB,fun e=>by have:=(hT X).lt hK e;omega,by simp,ZW _,by simp,by simp,fun o=>by simp⟩,⟨(Mv.grow ((ZT _ w).alloc (ZW _) _) R).fr,?_⟩⟩;rintro k (e | e)
 ·exact .inr (by rw [e];exact ZW _)
 ·exact .inl e
theorem CK.count {w:World} {S:Bl} {C n0:Nat} {X:List UInt8} (h:CK K B C n0 ty q w S X):w.cell? (zq C 1)=((X.length - n0:Nat):Int):=by
 obtain ⟨R,_,_,_,_,_,_,_,c1,_⟩:=h;exact c1
end
theorem ut (w:World) (P o:Nat) (x:Value):Fr (fun k=>k=P) w (w.setCell (zq P o) x):=
 ⟨rfl,rfl,rfl,by simp [World.setCell],fun k _ hb=>YX _ _ _ _ hb⟩
theorem kH {P:Program} {w:World} {ops:Array Oper} {rest:List Oper} {o:Oper} {a:Act} {Q:Exit->Act->World->Prop} (hgd:o.guard=none) (d s:Operand) (dT sT:TypeId)
  (ho:o.op=.call {callee:=.builtin .copy,args:=#[d,s],argTypes:=#[dT,sT]}) (elem:TypeId) (hu:P.underlying dT=some (.slice elem)) (hsz:(P.info? elem).map (·.size)=some 1)
  (g dLen dCap:Nat) (ad:Addr) (sLen sCap:Nat) (hd:a.eval d=.slice g dLen dCap) (hs:a.eval s=.slice (some ad) sLen sCap)
  (cur:Array Value) (t:TypeId) (hg:w.heap[g]? =some (.cells cur t (0,0))) (cs:List Value) (hn:cs.length=Nat.min sLen dLen)
  (hsrc:∀ j v,cs[j]? =some v->w.cell? (ad.add j)=some v) (hfit:cs.length<=cur.size) (h1:∀ v∈cs,v.oneCell'=true)
  (h:∀ w',Hid (w'.heap[g]? =some (.cells (cs++cur.toList.drop cs.length).toArray t (0,0)))->Hid (Fr (fun k=>k=g) w w')->wpList P ops Q rest (a.put o.dst (goInt cs.length)) w'):wpList P ops Q (o::rest) a w:=by
 refine wpList_copy_own hgd d s dT sT ho elem hu hsz g 0 dLen dCap ad sLen sCap hd hs cur t hg cs hn hsrc (by omega) h1 (h _ ?_ ?_)
 ·show _=_
  rw [YK w g cur _ t _ hg];simp
 ·exact ⟨rfl,rfl,rfl,by simp [World.setRow],fun k _ hb=>setRow_other w g k _ hb⟩
theorem rq (w:World) (P g cap:Nat) (W:List UInt8) (at_ gone E:Nat) (cur:Array Value)
  (c6:w.cell? (zq P 6)=some (.slice g W.length cap)) (c7:w.cell? (zq P 7)=at_) (c8:w.cell? (zq P 8)=gone)
  (f6:w.frozen? (zq P 6)=false) (f7:w.frozen? (zq P 7)=false) (f8:w.frozen? (zq P 8)=false)
  (hE:(at_:Int) - 32768=(E:Int)) (hE2:32768<=E) (ha:at_<=W.length) (hW:W.length<=10000000) (hg:gone<=10000000) (hcap:W.length<=cap) (hcm:cap<=9223372036854775807) (hPg:P≠g) (hPs:P < w.heap.size)
  (hgc:w.heap[g]? =some (.cells cur 5 (0,0))) (hfit:W.length<=cur.size) (HC:Hid (∀ i,i < W.length->w.cell? (zq g i)=some (.int .u8 ((W.getD i 0).toNat:Nat)))):
  CP 199 #[zp P] w fun e w'=>e=.returned (.tuple #[])/\∃ w2,w2.heap[g]? =some (.cells (cells (W.drop E)++cur.toList.drop (cells (W.drop E)).length).toArray 5 (0,0))/\Fr (fun k=>k=g) w w2/\
   w'=((w2.setCell (zq P 6) (.slice g (W.length - E) cap)).setCell (zq P 7) (32768:Int)).setCell (zq P 8) ((gone+E:Nat):Int):=by
 obtain ⟨L,hL⟩:∃ L,L=W.length - E:=⟨_,rfl⟩;have hL1:L+E=W.length:=by omega
 have hLe:(W.length:Int) - (E:Int)=(L:Int):=by omega
 have HcL:Hid ((cells (W.drop E)).length=L):=by show _=_;rw [jT,Za];omega
 have HcN:Hid ((cells (W.drop E)).length=Nat.min L W.length):=by show _=_;rw [HcL.out];exact (Yr (by omega)).symm
 have HSrc:Hid (∀ q,∀ j v,(cells (W.drop E))[j]? =some v->(w.drewN q).cell? ((⟨g,E,none⟩:Addr).add j)=some v):=by
  intro q j v hj;have hadd:(⟨g,E,none⟩:Addr).add j=⟨g,E+j,none⟩:=by unfold Addr.add;split <;> simp_all
  rw [hadd];have hjl:j < L:=by
   have:=(Zx.1 hj).1;rw [HcL.out] at this;exact this
  have:=HC.out (E+j) (by omega);rw [show (w.drewN q).cell? (zq g (E+j))=w.cell? (zq g (E+j)) from rfl,this];simp only [cells,YR,Yc] at hj;rw [ZM (show E+j < W.length by omega)] at hj;simp only [Option.map_some] at hj;rw [<-hj];simp [ZJ,ZM (show E+j < W.length by omega)]
 have HOne:Hid (∀ v∈cells (W.drop E),v.oneCell'=true):=by
  intro v hv;simp only [cells,YA] at hv;obtain ⟨c,_,rfl⟩:=hv;rfl
 have HFit:Hid ((cells (W.drop E)).length<=cur.size):=by show _<=_;rw [HcL.out];omega
 have hE3:¬ (E:Int) < 32768:=by omega
 have hE4:(E:Int)<=10000000:=by omega
 have hEc:(E:Int) < (cap:Int):=by omega
 have hLc:L<=cap:=by omega
 rw [<-hL];clear hL HC;obtain ⟨cs,hcs⟩:∃ cs,cs=cells (W.drop E):=⟨_,rfl⟩;rw [<-hcs] at HcL HcN HSrc HOne HFit ⊢;clear hcs;go_enter func199,ntmps199
 go_wp2;refine bO 10 (by kernel_rfl) (by kernel_rfl) ?_;simp only [TD]
 repeat (go_big_quiet_step (fail))
 refine Ym ?_;intro _ hw';obtain ⟨nq2,hw''⟩:=hw';subst hw'';refine kH rfl (.tmp 14) (.tmp 20) 66 66 rfl 5 underlying66 (by kernel_rfl) g W.length cap ⟨g,E,none⟩ L (cap - E) (by simp [Act.eval,Act.put]) ?_ cur 5 hgc cs HcN.out (HSrc.out nq2) HFit.out HOne.out ?_
 ·simp [Act.eval,Act.put];omega
 intro w2 HG2 HF2;rw [HcL.out];have kb:=HF2.out.keep P hPs hPg;have k6:=(ZQ (a:=zq P 6) kb).trans c6;have k7:=(ZQ (a:=zq P 7) kb).trans c7;have k8:=(ZQ (a:=zq P 8) kb).trans c8;have kf6:=(ZH (a:=zq P 6) kb).trans f6;have kf7:=(ZH (a:=zq P 7) kb).trans f7;have kf8:=(ZH (a:=zq P 8) kb).trans f8;have hE5:(at_:Int) - (E:Int)=32768:=by omega
 clear kb c6 c7 c8 f6 f7 f8 hgc HcN HSrc HOne HFit;go_wp2;go_end0;refine ⟨rfl,w2,?_,?_,?_⟩
 ·rw [HcL.out] at HG2 ⊢;exact HG2.out
 ·exact ((Fr.refl _ w).drewN nq2).trans HF2.out (fun _ _ h=>h)
 ·congr 2
theorem tN (w:World) (P at_:Nat) (c7:w.cell? (zq P 7)=at_) (ha:at_ < 65536):
  QE 199 #[zp P] w (.tuple #[]):=by
 have h1:(at_:Int) - 32768 < 32768:=by omega
 go_enter func199,ntmps199
 go_wp2
 (try simp only [Exit.inBlock,Exit.then])
 refine YT (results_none rfl _ _ _) rfl ?_;exact ⟨rfl,rfl⟩
theorem PK.forgot {w w2:World} {P base g cap E:Nat} {nx vf vs:Value} {F:List UInt8} {H n A B:Nat} {W:List UInt8} {Sn:List Int} {at_ gone:Nat} {cur:Array Value} (h:PK w P base nx vf (.slice g W.length cap) vs F H n A B W Sn at_ gone)
  (hcur:w.heap[g]? =some (.cells cur 5 (0,0))) (hE:E<=W.length)
  (h2:w2.heap[g]? =some (.cells (cells (W.drop E)++cur.toList.drop (cells (W.drop E)).length).toArray 5 (0,0))) (hF:Fr (fun k=>k=g) w w2) (at' gone':Nat):
  PK (((w2.setCell (zq P 6) (.slice g (W.length - E) cap)).setCell (zq P 7) at').setCell (zq P 8) gone') P base nx vf (.slice g (W.length - E) cap) vs F H n A B (W.drop E) Sn at' gone':=by
 have hb:=h.bw;have hp:=h.pw;have hPg:P≠g:=fun e=>hp.nw (by rw [e];rfl)
 have hblk:=hF.keep P hp.hP hPg;have hcell:∀ o,w2.cell? (zq P o)=w.cell? (zq P o):=fun o=>ZQ (a:=zq P o) hblk
 have hfrz:∀ o,w2.frozen? (zq P o)=w.frozen? (zq P o):=fun o=>ZH (a:=zq P o) hblk
 have hlen:(cells (W.drop E)).length=W.length - E:=by rw [jT,Za]
 have hown:w2.ownsRow base 5 1 (.slice g (W.length - E) cap) (W.drop E).length (cells (W.drop E)):=by
  rcases hp.ow.2 with ⟨e,_⟩ | ⟨g',cap',cur',e,a1,a2,a3,a4,a5,_⟩
  ·cases e
  ·cases e
   rw [hcur] at a2
   cases a2
   refine ⟨by rw [hlen,Za];omega,.inr ⟨g,cap,_,by rw [Za],a1,h2,by rw [Za];omega,a4,?_,?_⟩⟩
   ·simp only [List.size_toArray,ZY,Za,Array.length_toList,hlen];omega
   ·simp only [Za,Nat.mul_one];rw [<-hlen];exact List.take_left
 have hf:w2.ownsRow base 5 1 vf F.length (cells F):=cM hb.own (fun x hx=>hF.keep x (hb.own.lt x hx).2 (fun e=>h.dfw x hx (by rw [e];rfl)));have hs:w2.ownsRow base 3 1 vs 4096 (Sn.map (Value.int .i64)):=cM hp.os (fun x hx=>hF.keep x (hp.os.lt x hx).2 (fun e=>h.dws g rfl (by rw [hx,e])));have hwn:(Value.slice g (W.length - E) cap).ownBlock≠some P:=hp.nw;have three:∀ {v:Value} {e:TypeId} {m:Nat} {xs:List Value},w2.ownsRow base e 1 v m xs->v.ownBlock≠some P->(((w2.setCell (zq P 6) (.slice g (W.length - E) cap)).setCell (zq P 7) at').setCell (zq P 8) gone').ownsRow base e 1 v m xs:=
  fun ho hne=>cr (cr (cr ho hne _ _) hne _ _) hne _ _
 have cellO:∀ o,o≠6->o≠7->o≠8->(((w2.setCell (zq P 6) (.slice g (W.length - E) cap)).setCell (zq P 7) at').setCell (zq P 8) gone').cell? (zq P o)=w.cell? (zq P o):=by
  intro o a b c;rw [ZV _ _ _ _ (by intro e;cases e;omega),ZV _ _ _ _ (by intro e;cases e;omega),ZV _ _ _ _ (by intro e;cases e;omega),hcell]
 have frzO:∀ o,(((w2.setCell (zq P 6) (.slice g (W.length - E) cap)).setCell (zq P 7) at').setCell (zq P 8) gone').frozen? (zq P o)=w.frozen? (zq P o):=by
  intro o;rw [ZL,ZL,ZL,hfrz]
 have hsz:(((w2.setCell (zq P 6) (.slice g (W.length - E) cap)).setCell (zq P 7) at').setCell (zq P 8) gone').heap.size=w2.heap.size:=by simp [World.setCell]
 refine ⟨⟨?_,?_,?_,?_,?_,?_,three hf hb.ne,hb.ne,by rw [hsz];exact ZU hb.hb hF.size,hb.hH⟩,⟨?_,?_,?_,?_,?_,three hown hwn,three hs hp.ns,hwn,hp.ns,by rw [hsz];exact ZK hp.hP hF.size⟩,?_,?_,?_,?_,h.hn,h.dfw,h.dfs,h.dws⟩
 ·rw [cellO 1 (by omega) (by omega) (by omega)];exact hb.c1
 ·rw [cellO 2 (by omega) (by omega) (by omega)];exact hb.c2
 ·rw [cellO 3 (by omega) (by omega) (by omega)];exact hb.c3
 ·rw [frzO];exact hb.f1
 ·rw [frzO];exact hb.f2
 ·rw [frzO];exact hb.f3
 ·rw [ZV _ _ _ _ (by simp),ZV _ _ _ _ (by simp)];exact ZC _ _ _ (by rw [hcell];exact hp.c6)
 ·rw [ZV _ _ _ _ (by simp)];exact ZC (u:=.int .i64 at_) _ _ _ (by rw [ZV _ _ _ _ (by simp),hcell];exact hp.c7)
 ·exact ZC (u:=.int .i64 gone) _ _ _ (by rw [ZV _ _ _ _ (by simp),ZV _ _ _ _ (by simp),hcell];exact hp.c8)
 ·rw [cellO 9 (by omega) (by omega) (by omega)];exact hp.c9
 ·rw [frzO];exact hp.f7
 ·rw [cellO 0 (by omega) (by omega) (by omega)];exact h.c0
 ·rw [cellO 4 (by omega) (by omega) (by omega)];exact h.c4
 ·rw [cellO 5 (by omega) (by omega) (by omega)];exact h.c5
 ·intro o;rw [frzO];exact h.fz o
theorem sI (w:World) (P base:Nat) (nx vf vw vs:Value) (F:List UInt8) (H n A B:Nat) (W:List UInt8) (Sn:List Int) (at_ gone:Nat) (h:PK w P base nx vf vw vs F H n A B W Sn at_ gone) (ha:at_<=W.length) (hW:W.length<=10000000) (hg:gone<=10000000):
  CP 199 #[zp P] w fun e w'=>e=.returned (.tuple #[])/\∃ vw' x,x=(if at_ < 65536 then 0 else at_ - 32768)/\x<=at_/\PK w' P base nx vf vw' vs F H n A B (W.drop x) Sn (at_ - x) (gone+x)/\(x=0\/32768<=at_ - x)/\vw'.ownBlock=vw.ownBlock/\
   Fr (fun k=>k=P\/vw.ownBlock=some k) w w':=by
 by_cases h6:at_ < 65536
 ·refine (tN w P at_ h.pw.c7 h6).mono ?_;rintro e w' ⟨rfl,rfl⟩;exact ⟨rfl,vw,0,by rw [ZN h6],by omega,by simpa using h,.inl rfl,rfl,Fr.refl _ _⟩
 ·obtain ⟨g,cap,hv,hle,hb,hcell⟩:=jJ h.pw.ow (by omega);subst hv;have hP:=h.pw.hP;obtain ⟨cur,hcur,hcs,hcm⟩:∃ cur,w.heap[g]? =some (.cells cur 5 (0,0))/\cur.size=cap/\cap<=9223372036854775807:=by
   rcases h.pw.ow.2 with ⟨e,_⟩ | ⟨g',cap',cur',e,a1,a2,a3,a4,a5,_⟩
   ·cases e
   ·cases e;exact ⟨cur',a2,by simpa using a5,a4⟩
  have hPg:P≠g:=fun e=>h.pw.nw (by rw [e];rfl)
  obtain ⟨E,hE⟩:∃ E,E=at_ - 32768:=⟨_,rfl⟩;refine (rq w P g cap W at_ gone E cur h.pw.c6 h.pw.c7 h.pw.c8 (h.fz 6) (h.fz 7) (h.fz 8) (by omega) (by omega) ha hW hg hle hcm hPg hP hcur (by omega) hcell).mono ?_;rintro e w' ⟨rfl,w2,h2,hF2,hw⟩;have e32:(32768:Int)=((at_ - E:Nat):Int):=by omega
  rw [e32] at hw;have hK:=h.forgot (E:=E) hcur (by omega) h2 hF2 (at_ - E) (gone+E);rw [<-hw] at hK;refine ⟨rfl,_,E,by rw [ZO h6];exact hE,by omega,hK,.inr (by omega),rfl,?_⟩;rw [hw];have hs3:=(((ut w2 P 6 (.slice g (W.length - E) cap)).trans (ut _ P 7 (.int .i64 ((at_ - E:Nat):Int))) (fun _ _ e=>e)).trans (ut _ P 8 (.int .i64 ((gone+E:Nat):Int))) (fun _ _ e=>e));exact (hF2.mono (fun k e=>.inr (by rw [e];rfl))).trans hs3 (fun k _ e=>.inl e)
structure dE where
 N:Nat
 nb:Nat
 A:Nat
 B:Nat
 W:List UInt8
 Sn:List Int
 at_:Nat
 gone:Nat
structure Bd (s:dE):Prop where
 hN:s.N < 2 ^ s.nb
 hA:s.A < 65521
 hB:s.B < 65521
 hat:s.at_<=s.W.length
 hW:s.gone+s.W.length<=1048576
 hnb:s.nb<=19+9*(s.gone+s.at_)
 hSn:iY s.Sn (s.gone+s.at_)
 hgo:s.gone=0\/32768<=s.at_
def se (w:World) (P base:Nat) (nx vf vw vs:Value) (s:dE):Prop:=
 ∃ F H n,PK w P base nx vf vw vs F H n s.A s.B s.W s.Sn s.at_ s.gone/\dt F H=s.N/\8*F.length+n=s.nb
def sP (s:dE):Nat×Nat×Nat:=kV s.W s.at_ (fN s.W s.Sn s.at_ s.gone)
def di (s:dE):dE:=
 {s with
  N:=s.N+(kV s.W s.at_ (fN s.W s.Sn s.at_ s.gone)).2.1*2 ^ s.nb
  nb:=s.nb+(kV s.W s.at_ (fN s.W s.Sn s.at_ s.gone)).2.2
  Sn:=kw (iG s.W) s.W s.at_ s.gone s.Sn (kV s.W s.at_ (fN s.W s.Sn s.at_ s.gone)).1
  at_:=s.at_+(kV s.W s.at_ (fN s.W s.Sn s.at_ s.gone)).1}
theorem vl {W:List UInt8} {i k v b:Nat} (h:Pm.qj W i k v b):b<=32/\b<=9*k/\1<=k/\i+k<=W.length/\v < 2 ^ b:=by
 have h1:b<=32/\b<=9*k/\1<=k/\i+k<=W.length:=by
  rcases h with ⟨rfl,hi,rfl,rfl⟩ | ⟨d,h1,h2,h3,h4,h5,h6,h7,rfl,rfl⟩
  ·have hc:(W.getD i 0).toNat < 256:=(W.getD i 0).toNat_lt;have:=Pm.dY (W.getD i 0).toNat (by omega);omega
  ·have:=Pm.Ax k d ⟨by omega,h2⟩ ⟨h4,h5⟩;omega
 refine ⟨h1.1,h1.2.1,h1.2.2.1,h1.2.2.2,?_⟩;rcases h with ⟨rfl,hi,rfl,rfl⟩ | ⟨d,h1,h2,h3,h4,h5,h6,h7,rfl,rfl⟩
 ·have hc:(W.getD i 0).toNat < 256:=(W.getD i 0).toNat_lt;exact Pm.oV _ (by omega)
 ·obtain ⟨l1,l2,l3,l4,_,_⟩:=Pm.j_ k (by omega) (by omega);obtain ⟨d1,d2,d3,_⟩:=Pm.iN d (by omega) h4;have h32:(Pm.bB d).1 < 2 ^ 5:=XS d1 (by decide);have a2:Pm.ee 5 (Pm.bB d).1 < 2 ^ 5:=(Pm.je 5 (by omega) (Pm.bB d).1 (by omega) h32).2;unfold Pm.mv Pm.mw;have q1:=Pm.dk a2 d3;have q2:=Pm.dk l4 q1;have q3:=Pm.dk (Pm.oV (Pm.bN k).1 (by omega)) q2;have hx:(Pm.aI (Pm.bN k).1).2+(Pm.bN k).2.2+5+(Pm.bB d).2.2=(Pm.aI (Pm.bN k).1).2+((Pm.bN k).2.2+(5+(Pm.bB d).2.2)):=by omega
  rw [hx];exact q3
theorem xZ (w:World) (P base:Nat) (nx vf vw vs:Value) (s:dE) (h:se w P base nx vf vw vs s) (ho:Bd s) (ha:s.at_ < s.W.length):
  CP 198 #[zp P] w fun e w'=>e=.returned (.tuple #[])/\∃ vf',se w' P base nx vf' vw vs (di s)/\Bd (di s)/\s.at_ < (di s).at_/\Pm.qj s.W s.at_ (sP s).1 (sP s).2.1 (sP s).2.2/\
   Fr (fun x=>x=P\/vf.ownBlock=some x\/vs.ownBlock=some x) w w'/\(vf'.ownBlock=vf.ownBlock\/∃ g,vf'.ownBlock=some g/\w.heap.size<=g):=by
 obtain ⟨F,H,n,hK,hN,hnb⟩:=h;have o1:=ho.hW;have o2:=ho.hnb;have o3:=ho.hat;have hn:=hK.hn;refine (xM w P base nx vf vw vs F H n s.A s.B s.W s.Sn s.at_ s.gone hK ha (by omega) (by omega) ho.hgo ho.hSn (by omega)).mono ?_;rintro e w' ⟨rfl,vf',F',H',n',Sn',k,v,b,hI,⟨hr,hs⟩,hK',hE,hst,hl,hSn',hFr,hblk⟩;obtain ⟨c1,c2,c3,c4,c5⟩:=vl hE;have e1:(kV s.W s.at_ (fN s.W s.Sn s.at_ s.gone)).1=k:=by rw [<-hr]
 have e2:(kV s.W s.at_ (fN s.W s.Sn s.at_ s.gone)).2.1=v:=by rw [<-hr]
 have e3:(kV s.W s.at_ (fN s.W s.Sn s.at_ s.gone)).2.2=b:=by rw [<-hr]
 have hsP:di s={s with N:=s.N+v*2 ^ s.nb,nb:=s.nb+b,Sn:=Sn',at_:=s.at_+k}:=by unfold di;rw [e1,e2,e3, <-hs]
 rw [hsP];refine ⟨rfl,vf',⟨F',H',n',hK',?_,?_⟩,?_,?_,by unfold sP;rw [e1,e2,e3];exact hE,hFr,hblk⟩
 ·rw [hst,hN,hnb]
 ·rw [hl,hnb]
 ·refine ⟨Pm.dk ho.hN c5,ho.hA,ho.hB,by show s.at_+k<=_;omega,o1,?_,?_,?_⟩
  ·show s.nb+b<=19+9*(s.gone+(s.at_+k));omega
  ·show iY Sn' (s.gone+(s.at_+k));exact hSn'
  ·have:=ho.hgo;show s.gone=0\/32768<=s.at_+k;omega
 ·show s.at_ < s.at_+k;omega
def ce (s:dE):dE:=if s.at_ < 65536 then s else {s with W:=s.W.drop (s.at_ - 32768),at_:=s.at_ - (s.at_ - 32768),gone:=s.gone+(s.at_ - 32768)}
theorem Ai (w:World) (P base:Nat) (nx vf vw vs:Value) (s:dE) (h:se w P base nx vf vw vs s) (ho:Bd s):
  CP 199 #[zp P] w fun e w'=>e=.returned (.tuple #[])/\∃ vw',se w' P base nx vf vw' vs (ce s)/\Bd (ce s)/\vw'.ownBlock=vw.ownBlock/\Fr (fun k=>k=P\/vw.ownBlock=some k) w w':=by
 obtain ⟨F,H,n,hK,hN,hnb⟩:=h;have o1:=ho.hW;have o3:=ho.hat;have o4:=ho.hnb;refine (sI w P base nx vf vw vs F H n s.A s.B s.W s.Sn s.at_ s.gone hK o3 (by omega) (by omega)).mono ?_;rintro e w' ⟨rfl,vw',x,hx,hxa,hK',hx2,hblk,hFr⟩;have hf:ce s={s with W:=s.W.drop x,at_:=s.at_ - x,gone:=s.gone+x}:=by
  unfold ce;by_cases h6:s.at_ < 65536
  ·rw [ZN h6] at hx ⊢;subst hx;cases s;simp
  ·rw [ZO h6] at hx ⊢;rw [hx]
 rw [hf];refine ⟨rfl,vw',⟨F,H,n,hK',hN,hnb⟩,?_,hblk,hFr⟩;refine ⟨ho.hN,ho.hA,ho.hB,?_,?_,?_,?_,?_⟩
 ·show s.at_ - x<=(s.W.drop x).length;rw [Za];omega
 ·show s.gone+x+(s.W.drop x).length<=1048576;rw [Za];omega
 ·show s.nb<=19+9*(s.gone+x+(s.at_ - x));omega
 ·show iY s.Sn (s.gone+x+(s.at_ - x));rw [show s.gone+x+(s.at_ - x)=s.gone+s.at_ by omega];exact ho.hSn
 ·show s.gone+x=0\/32768<=s.at_ - x;have:=ho.hgo;omega
def fm:Nat->Nat->List UInt8
 | 0,_=>[]
 | k+1,N=>UInt8.ofNat (N % 256)::fm k (N / 256)
theorem ia (k:Nat):∀ N,(fm k N).length=k:=by
 induction k with
 | zero=>intro N;rfl
 | succ k ih=>intro N;simp [fm,ih]
theorem vX (c:UInt8) (r:List UInt8) (H:Nat):dt (c::r) H=c.toNat+256*dt r H:=by
 unfold dt;have h1:2 ^ (8*(c::r).length)=256*2 ^ (8*r.length):=by
  rw [ZX,Nat.mul_succ,YL];omega
 rw [h1,Nat.mul_left_comm];show c.toNat+256*Pm.cL r+_=_
 omega
theorem qW (F:List UInt8) (H:Nat):fm F.length (dt F H)=F:=by
 induction F with
 | nil=>rfl
 | cons c r ih=>
  have hc:=c.toNat_lt;rw [vX,ZX,fm];have e1:(c.toNat+256*dt r H) % 256=c.toNat:=by omega
  have e2:(c.toNat+256*dt r H) / 256=dt r H:=by omega
  rw [e1,e2,ih];simp
theorem ml (k:Nat):∀ N,Pm.cL (fm k N)=N % 2 ^ (8*k):=by
 induction k with
 | zero=>intro N;simp [fm,Pm.cL,Nat.mod_one]
 | succ k ih=>
  intro N;have h1:2 ^ (8*(k+1))=256*2 ^ (8*k):=by rw [Nat.mul_succ,YL];omega
  rw [fm,Pm.cL,ih,h1,Nat.mod_mul];have:(UInt8.ofNat (N % 256)).toNat=N % 256:=by simp
  rw [this]
theorem yi (F:List UInt8) (H:Nat):dt F H / 2 ^ (8*F.length)=H:=by
 unfold dt;rw [Nat.add_mul_div_right _ _ (YH _),XC (Pm.ym F),YF]
def j1 (s:dE):List UInt8:=fm (s.nb / 8) s.N
def fM (s:dE):dE:={s with N:=s.N / 2 ^ (8*(s.nb / 8)),nb:=s.nb % 8}
theorem AN {s:dE} {F:List UInt8} {H n:Nat} (hN:dt F H=s.N) (hl:8*F.length+n=s.nb) (hn:n < 8):j1 s=F/\(fM s).N=H/\(fM s).nb=n:=by
 have h1:s.nb / 8=F.length:=by omega
 refine ⟨?_,?_,?_⟩
 ·unfold j1;rw [h1, <-hN,qW]
 ·show s.N / 2 ^ (8*(s.nb / 8))=H;rw [h1, <-hN,yi]
 ·show s.nb % 8=n;omega
def yc (s:dE) (c:List UInt8):dE:={s with A:=(Pm.cB c (s.A,s.B)).1,B:=(Pm.cB c (s.A,s.B)).2,W:=s.W++c}
theorem Ab (s:dE):1<=(sP s).1:=by
 unfold sP kV;split
 ·exact ZW _
 ·rename_i h;show 1<=(fN s.W s.Sn s.at_ s.gone).1;omega
theorem ER (s:dE):(di s).at_=s.at_+(sP s).1:=rfl
theorem px (s:dE):(di s).W=s.W:=rfl
def iS (m:Nat) (s:dE):dE:=if m < s.W.length - s.at_ then iS m (di s) else s
termination_by s.W.length - s.at_
decreasing_by
 have:=Ab s;rw [px,ER];omega
theorem Cs {m:Nat} {s:dE} (h:m < s.W.length - s.at_):iS m s=iS m (di s):=by rw [iS,ZN h]
theorem rA {m:Nat} {s:dE} (h:¬ m < s.W.length - s.at_):iS m s=s:=by rw [iS,ZO h]
def jE (s:dE) (c:List UInt8):dE:=ce (iS 260 (yc s c))
def bL (s:dE) (l:List UInt8):List UInt8×dE:=
 if l=[] then ([],s) else (j1 (jE s (l.take 32768))++(bL (fM (jE s (l.take 32768))) (l.drop 32768)).1,(bL (fM (jE s (l.take 32768))) (l.drop 32768)).2)
termination_by l.length
decreasing_by
 all_goals
  have:l.length≠0:=by simpa using (by assumption:¬ l=[])
  simp;omega
theorem tm (s:dE):bL s []=([],s):=by rw [bL,ZN rfl]
theorem xg (s:dE) (l:List UInt8) (h:l≠[]):bL s l=(j1 (jE s (l.take 32768))++(bL (fM (jE s (l.take 32768))) (l.drop 32768)).1,(bL (fM (jE s (l.take 32768))) (l.drop 32768)).2):=by
 rw [bL,ZO h]
def fQ (s:dE):List UInt8:=fm (Pm.bq (s.nb+7) / 8+4) (s.N+cH (65536*s.B+s.A) 4*2 ^ Pm.bq (s.nb+7))
def aV (s:dE):List UInt8:=fQ (iS 0 s)
def lJ:dE:={N:=120+1*2 ^ 8+1*2 ^ 16+1*2 ^ 17,nb:=19,A:=1,B:=0,W:=[],Sn:=List.replicate 4096 0,at_:=0,gone:=0}
structure PI (s:dE) (X D:List UInt8):Prop where
 ok:Bd s
 sum:Pm.cB D (1,0)=(s.A,s.B)
 W:s.W=D.drop s.gone
 len:D.length=s.gone+s.W.length
 enc:Pm.sg (Pm.cL X+2 ^ (8*X.length)*s.N) (8*X.length+s.nb) (D.take (s.gone+s.at_))
 hd:Pm.Hd (Pm.cL X+2 ^ (8*X.length)*s.N) (8*X.length+s.nb)
 sz:8*X.length+s.nb<=19+9*(s.gone+s.at_)
theorem PI.le {s:dE} {X D:List UInt8} (h:PI s X D):D.length<=1048576:=by have:=h.ok.hW;have:=h.len;omega
theorem Bp (n:Nat):∀ j,j < n->0<=(List.replicate n (0:Int)).getD j 0/\(List.replicate n (0:Int)).getD j 0<=((0:Nat):Int):=by
 intro j hj;simp [ZJ,List.getElem?_replicate,hj]
theorem PI.start:PI lJ [] []:=by
 refine ⟨⟨by decide,by decide,by decide,ZW _,by decide,by decide,Bp 4096,.inl rfl⟩,rfl,rfl,rfl,?_,?_,by decide⟩
 ·have e:Pm.cL []+2 ^ (8*([]:List UInt8).length)*lJ.N=120+1*2 ^ 8+1*2 ^ 16+1*2 ^ 17:=by decide
  rw [e];exact Pm.sg.start
 ·have e:Pm.cL []+2 ^ (8*([]:List UInt8).length)*lJ.N=120+1*2 ^ 8+1*2 ^ 16+1*2 ^ 17:=by decide
  rw [e];exact Pm.Hd.start
theorem xq (l m:List UInt8) (r:Nat×Nat):Pm.cB (l++m) r=Pm.cB m (Pm.cB l r):=by
 induction l generalizing r with
 | nil=>rfl
 | cons c l ih=>simp only [ZE,Pm.cB];exact ih _
theorem PI.add {s:dE} {X D:List UInt8} (h:PI s X D) (c:List UInt8) (hc:D.length+c.length<=1048576):PI (yc s c) X (D++c):=by
 have hl:=h.len;have o:=h.ok;have hlt:=Pm.qd c (s.A,s.B) ⟨o.hA,o.hB⟩;have hwl:(yc s c).W.length=s.W.length+c.length:=by show (s.W++c).length=_;rw [ZY]
 refine ⟨⟨o.hN,hlt.1,hlt.2,?_,?_,o.hnb,o.hSn,o.hgo⟩,?_,?_,?_,?_,h.hd,h.sz⟩
 ·rw [hwl];have:=o.hat;show s.at_<=_;omega
 ·rw [hwl];show s.gone+_<=_;omega
 ·rw [xq,h.sum];rfl
 ·show s.W++c=(D++c).drop s.gone
  rw [List.drop_append_of_le_length (by omega), <-h.W]
 ·rw [hwl,ZY];show _=s.gone+_;omega
 ·show Pm.sg _ _ ((D++c).take (s.gone+s.at_))
  rw [List.take_append_of_le_length (by have:=o.hat;omega)];exact h.enc
theorem PI.step {s:dE} {X D:List UInt8} (h:PI s X D) (hE:Pm.qj s.W s.at_ (sP s).1 (sP s).2.1 (sP s).2.2) (hk:Bd (di s)):PI (di s) X D:=by
 obtain ⟨hE',hb9,_,_,_⟩:=hE.enc h.W h.le h.enc;have hN:(di s).N=s.N+(sP s).2.1*2 ^ s.nb:=rfl;have hnb:(di s).nb=s.nb+(sP s).2.2:=rfl;have e1:Pm.cL X+2 ^ (8*X.length)*(di s).N=Pm.cL X+2 ^ (8*X.length)*s.N+(sP s).2.1*2 ^ (8*X.length+s.nb):=by
  rw [hN,XO,Nat.mul_left_comm, <-YL,YS]
 have e2:8*X.length+(di s).nb=8*X.length+s.nb+(sP s).2.2:=by rw [hnb,YS]
 refine ⟨hk,h.sum,h.W,h.len,?_,?_,?_⟩
 ·rw [e1,e2];exact hE'
 ·rw [e1,e2];exact h.hd.put _ _
 ·have:=h.sz;rw [e2];show _<=19+9*(s.gone+(s.at_+(sP s).1));omega
theorem PI.forget {s:dE} {X D:List UInt8} (h:PI s X D) (hk:Bd (ce s)):PI (ce s) X D:=by
 unfold ce at hk ⊢;split at hk
 ·rename_i h6;rw [ZN h6];exact h
 ·rename_i h6
  rw [ZO h6];have o:=h.ok;have h1:=o.hat;have h2:=h.sz;have h3:=h.len;obtain ⟨x,hx⟩:∃ x,x=s.at_ - 32768:=⟨_,rfl⟩;have hxa:x<=s.at_:=by omega
  rw [<-hx] at hk ⊢;clear hx h6;refine ⟨hk,h.sum,?_,?_,?_,h.hd,?_⟩
  ·show s.W.drop x=D.drop (s.gone+x);rw [h.W,List.drop_drop]
  ·show _=s.gone+x+(s.W.drop x).length;rw [Za];omega
  ·show Pm.sg _ _ (D.take (s.gone+x+(s.at_ - x)))
   rw [show s.gone+x+(s.at_ - x)=s.gone+s.at_ by omega];exact h.enc
  ·show 8*X.length+s.nb<=19+9*(s.gone+x+(s.at_ - x));omega
theorem rX (s:dE):(ce s).W.length - (ce s).at_<=s.W.length - s.at_:=by
 unfold ce;split
 ·exact ZW _
 ·obtain ⟨x,hx⟩:∃ x,x=s.at_ - 32768:=⟨_,rfl⟩;rw [<-hx];have hxa:x<=s.at_:=by omega
  clear hx;show (s.W.drop x).length - (s.at_ - x)<=_
  rw [Za];omega
theorem PI.sent {s:dE} {X D:List UInt8} (h:PI s X D):PI (fM s) (X++j1 s) D:=by
 have o:=h.ok;have hlen:(j1 s).length=s.nb / 8:=ia _ _;have hl:(X++j1 s).length=X.length+s.nb / 8:=by rw [ZY,hlen]
 have e2:8*(X++j1 s).length+(fM s).nb=8*X.length+s.nb:=by rw [hl];show _+s.nb % 8=_;omega
 have e1:Pm.cL (X++j1 s)+2 ^ (8*(X++j1 s).length)*(fM s).N=Pm.cL X+2 ^ (8*X.length)*s.N:=by
  have hx:Pm.cL (j1 s)=s.N % 2 ^ (8*(s.nb / 8)):=ml _ _;rw [Pm.gY,hl,hx,XO 8,YL,XU,YS, <-XO];show _+_*(_+2 ^ (8*(s.nb / 8))*(s.N / 2 ^ (8*(s.nb / 8))))=_
  rw [Nat.mod_add_div]
 refine ⟨⟨?_,o.hA,o.hB,o.hat,o.hW,?_,o.hSn,o.hgo⟩,h.sum,h.W,h.len,by rw [e1,e2];exact h.enc,by rw [e1,e2];exact h.hd,?_⟩
 ·show s.N / 2 ^ (8*(s.nb / 8)) < 2 ^ (s.nb % 8)
  refine Nat.div_lt_of_lt_mul ?_;rw [<-YL,show 8*(s.nb / 8)+s.nb % 8=s.nb by omega];exact o.hN
 ·have:=o.hnb;show s.nb % 8<=19+9*(s.gone+s.at_);omega
 ·rw [e2];exact h.sz
theorem PI.done {s:dE} {X D:List UInt8} (h:PI s X D) (ha:s.at_=s.W.length):Pm.bP (X++fQ s)=some (D,(X++fQ s).length)/\8*(X++fQ s).length<=80+9*D.length/\6 < (X++fQ s).length:=by
 have hD:=h.le;have hln:=h.len;have hsm:=Pm.qd D (1,0) (by decide);rw [h.sum] at hsm;have hE:=h.enc;rw [show s.gone+s.at_=D.length by omega,Ya] at hE;have hsz:=h.sz;obtain ⟨t,ht⟩:∃ t,t=65536*s.B+s.A:=⟨_,rfl⟩;obtain ⟨m,hm⟩:∃ m,m=Pm.bq (s.nb+7) / 8:=⟨_,rfl⟩;have hm8:Pm.bq (s.nb+7)=8*m:=by rw [hm];unfold Pm.bq;omega
 have hmr:s.nb+7<=8*m/\8*m<=s.nb+14:=by rw [<-hm8];unfold Pm.bq;omega
 have hdn:fQ s=fm (m+4) (s.N+cH t 4*2 ^ (8*m)):=by unfold fQ;rw [hm8, <-ht];rw [show 8*m / 8=m by omega]
 have hll:(fQ s).length=m+4:=by rw [hdn];exact ia _ _
 have hl:(X++fQ s).length=X.length+m+4:=by rw [ZY,hll];omega
 have hNm:s.N < 2 ^ (8*m):=ZK h.ok.hN (YM (by decide) (by omega));have hsb:cH t 4 < 2 ^ 32:=by
  have h0:=dM t 0;have h1:=dM t 1;have h2:=dM t 2;have h3:=dM t 3;simp [cH];omega
 have hlt:s.N+cH t 4*2 ^ (8*m) < 2 ^ (8*(m+4)):=by
  have:=Pm.dk hNm hsb;rwa [show 8*m+32=8*(m+4) by omega] at this
 have hnum:Pm.cL (X++fQ s)=(Pm.cL X+2 ^ (8*X.length)*s.N)+cH t 4*2 ^ (8*(X.length+m)):=by
  rw [Pm.gY,hdn,ml,XK hlt,XO,Nat.mul_left_comm, <-YL, <-XO,YS]
 have hup:Pm.bq (8*X.length+s.nb+7)=8*(X.length+m):=by
  unfold Pm.bq at hm8 ⊢;omega
 obtain ⟨hp,hb⟩:=AC hl (ZK hE.1 (YM (by decide) (by omega))) hnum (by omega);have hu:=hE.unpack h.hd hD hup hl hp (by rw [hb,h.sum,ht]);refine ⟨?_,by omega,?_⟩
 ·exact hu
 ·have:=h.hd.1;omega
def pO (row:Option Nat) (news:List Value) (v:Value) (w:World):Prop:=∃ b,v=.slice (zp b) 1 1/\b < w.heap.size/\some b≠row/\∀ j u,news[j]? =some u->w.cell? (zq b j)=some u
def gq (w0:World) (row:Option Nat) (B:Nat) (e:TypeId) (z n:Nat) (xs:List Value) (v:Value) (w:World):Prop:=w.ownsRow B e z v n xs/\(v.ownBlock=row\/∃ k,v.ownBlock=some k/\w0.heap.size<=k)
def pK (w0:World) (l:List Value) (kb ka:Nat) (news:List Value) (row:Option Nat) (B:Nat) (e:TypeId) (z n:Nat) (xs:List Value) (k:Nat) (v:Value) (w:World):Prop:=
 if k=kb then pO row news v w else if k=ka then gq w0 row B e z n xs v w else v=l.getD k undef
theorem lT (row:Option Nat) (w:World):w.grownBy w row:=⟨rfl,rfl,rfl,ZW _,fun _ _ _=>rfl⟩
theorem lV {row:Option Nat} {w w' w'':World} (h:w.grownBy w' row) (g:af w' w''):w.grownBy w'' row:=
 ⟨g.os.trans h.os,g.tape.trans h.tape,g.output.trans h.output,ZU h.size g.size,fun k hk hr=>(g.block k (ZK hk h.size)).trans (h.block k hk hr)⟩
theorem fE {row:Option Nat} {w w' w'':World} (g:af w w') (h:w'.grownBy w'' row):w.grownBy w'' row:=
 ⟨h.os.trans g.os,h.tape.trans g.tape,h.output.trans g.output,ZU g.size h.size,fun k hk hr=>(h.block k (ZK hk g.size) hr).trans (g.block k hk)⟩
theorem pO.on {row:Option Nat} {news:List Value} {v:Value} {w w':World} (h:pO row news v w) (g:w.grownBy w' row):pO row news v w':=by
 obtain ⟨b,rfl,hb,hr,hc⟩:=h;exact ⟨b,rfl,ZK hb g.size,hr,fun j u hj=>(ZQ (a:=zq b j) (g.block b hb hr)).trans (hc j u hj)⟩
theorem BI {row:Option Nat} {w w':World} (g:af w w'):w.grownBy w' row:=lV (lT row w) g
theorem oY {w w':World} {base:Nat} {e:TypeId} {z:Nat} {v:Value} {n:Nat} {xs:List Value} (h:w.ownsRow base e z v n xs) (g:af w w'):w'.ownsRow base e z v n xs:=
 lH h fun k hk=>g.block k (h.lt k hk).2
theorem pZ {w0:World} {l:List Value} {kb ka:Nat} {news:List Value} {row:Option Nat} {B:Nat} {e:TypeId} {z n:Nat} {xs:List Value} {N:Nat}:∀ k v w w',k < N->pK w0 l kb ka news row B e z n xs k v w->af w w'->pK w0 l kb ka news row B e z n xs k v w':=by
 intro k v w w' _ h g;unfold pK at h ⊢;split at h
 ·rename_i hk;rw [ZN hk];exact h.on (BI g)
 ·rename_i hk
  rw [ZO hk];split at h
  ·rename_i hk2;rw [ZN hk2];exact ⟨oY h.1 g,h.2⟩
  ·rename_i hk2;rw [ZO hk2];exact h
theorem kE {w0:World} {l:List Value} {kb ka:Nat} {news:List Value} {row:Option Nat} {B:Nat} {e:TypeId} {z n:Nat} {xs:List Value} {N:Nat}:∀ k v w w',k < N->k≠ka->pK w0 l kb ka news row B e z n xs k v w->w.grownBy w' row->pK w0 l kb ka news row B e z n xs k v w':=by
 intro k v w w' _ hka h g;unfold pK at h ⊢;split at h
 ·rename_i hk;rw [ZN hk];exact h.on g
 ·rename_i hk
  rw [ZO hk];rw [ZO hka]
  first
   | exact h
   | (rw [ZO hka] at h;exact h)
theorem jI {row:Option Nat} {w:World} (cs:Array Value) (t:TypeId) (hrow:∀ k,row=some k->k < w.heap.size):pO row cs.toList (.slice w 1 1) (w.alloc (.cells cs t)):=by
 refine ⟨w.heap.size,rfl,by simp,fun e=>by have:=hrow _ e.symm;omega,fun j u hj=>?_⟩;obtain ⟨hi,rfl⟩:=Zx.1 hj;have hi2:j < cs.size:=by simpa using hi
 simp [hi2]
theorem gq.form {w w':World} {row:Option Nat} {B:Nat} {e:TypeId} {z n:Nat} {xs:List Value} {v':Value} (h:gq w row B e z n xs v' w'):∃ ad cap,v'=.slice ad n cap:=by
 rcases h.1.2 with ⟨hu,hz⟩ | ⟨gg,cap,cur,hu,_⟩
 ·exact ⟨none,0,by rw [hu,hz]⟩
 ·exact ⟨_,_,hu⟩
theorem gq.moved {w w':World} {B:Nat} {e:TypeId} {z n:Nat} {xs:List Value} {v v':Value} (h:gq w v.ownBlock B e z n xs v' w') (g:w.grownBy w' v.ownBlock):aW B e z v' n xs w' (ob v')/\Mv (ob v) w (ob v') w':=by
 refine ⟨⟨rfl,h.1⟩,⟨⟨g.os,g.tape,g.output,g.size,fun k hk hb=>g.block k hk (fun e=>hb e.symm)⟩,?_⟩⟩;intro k hk;rcases h.2 with e | ⟨j,e,hj⟩
 ·exact .inl (by unfold ob at hk ⊢;rw [<-e];exact hk)
 ·unfold ob at hk;rw [e] at hk;cases hk;exact .inr hj
theorem nJ {ops:Array Oper} {o:Oper} {a:Act} {w0 w:World} (hgd:o.guard=none) (sl x:Operand) (t:TypeId)
  (ho:o.op=.call {callee:=.builtin .append,args:=#[sl,x],argTypes:=#[t,t]}) (e:TypeId) (zero:Value) (z bytes:Nat) (hi:(Tryz.prog.info? e).map (fun i=>(i.zero,i.size,i.bytes))=some (some zero,z,bytes)) (hzs:zero.cells.size=z) (hz:0 < z) (ht:Tryz.prog.underlying t=some (.slice e))
  (B:Nat) (v:Value) (n:Nat) (xs:List Value) (hs:a.eval sl=v) (h:w0.ownsRow B e z v n xs) (hB:B<=w0.heap.size) (hG:af w0 w) (vb:Value) (hx:a.eval x=vb) (news:List Value) (hN:pO v.ownBlock news vb w) (hl:news.length=z) (h1:∀ u∈news,u.oneCell'=true)
  (hn:n<=1000000000) (hby:bytes<=1000) (hd:∃ d,o.dst=some d/\d < a.tmps.size):
  wpList prog ops (fun e' b w''=>e'=.normal/\b.defers=a.defers/\(gq w0 v.ownBlock B e z (n+1) (xs++news) (dS o b) w''/\w.grownBy w'' v.ownBlock)) [o] a w:=by
 obtain ⟨b,rfl,hb,hr,hc⟩:=hN;refine bQ hgd sl x t ho e zero z bytes hi hzs hz ht B v n xs hs (oY h hG) (ZU hB hG.size) ⟨b,0,none⟩ 1 hx news hl (fun j u hj=>by cases j with
  | zero=>simpa [Addr.add] using hc 0 u hj
  | succ j=>simpa [Addr.add] using hc (j+1) u hj) h1 hn hby ?_
 intro v' w' ho' hg' hat;refine YN ⟨rfl,fq _ _ _,?_,hg'⟩;obtain ⟨d,hd1,hd2⟩:=hd;have e1:dS o (a.put o.dst v')=v':=by
  have:=rL o a v' (fun d' h'=>by rw [hd1] at h';cases h';exact hd2);rw [this,hd1]
 rw [e1];refine ⟨ho',?_⟩;rcases hat with e | e
 ·exact .inl e
 ·exact .inr ⟨_,e,hG.size⟩
theorem ah.turn {P Q R:As} {w:World} {S:Bl} (h:ah P (ah Q R) w S):ah Q (ah P R) w S:=by
 obtain ⟨S1,S2,h1,⟨S3,S4,h3,h4,o2,rfl⟩,o1,rfl⟩:=h;refine ⟨S3,cT S1 S4,h3,⟨S1,S4,h1,h4,fun k a b=>o1 k a (.inr b),rfl⟩,?_,?_⟩
 ·rintro k a (b | b)
  ·exact o1 k b (.inl a)
  ·exact o2 k a b
 ·funext k
  simp only [cT];exact propext ⟨fun h=>h.elim (fun a=>.inr (.inl a)) (fun h=>h.elim .inl (fun a=>.inr (.inr a))),fun h=>h.elim (fun a=>.inr (.inl a)) (fun h=>h.elim .inl (fun a=>.inr (.inr a)))⟩
theorem mi {B l i:Nat} {vs:List Value} {T:TypeId} {z:Nat} {v:Value} {n:Nat} {xs:List Value} {Z:As} (hZ:aJ B Z) (hi:vs[i]? =some v) {w:World} {S:Bl} (h:ah (aS B l vs) (ah (aW B T z v n xs) Z) w S):
  w.cell? (zq l i)=some v/\w.ownsRow B T z v n xs/\v.ownBlock≠some l/\w.frozen? (zq l i)=false/\l < w.heap.size/\
  ∀ (n':Nat) (xs':List Value) (v':Value) (w':World),w.grownBy w' v.ownBlock->gq w v.ownBlock B T z n' xs' v' w'->
   ∃ S',ah (aS B l (vs.set i v')) (ah (aW B T z v' n' xs') Z) (w'.setCell (zq l i) v') S'/\Mv S w S' (w'.setCell (zq l i) v'):=by
 obtain ⟨S1,S2,hc,⟨S3,S4,hb,hz,o2,rfl⟩,o1,rfl⟩:=id h;have e1:S1=cC l:=hc.1;have e3:S3=ob v:=hb.1;refine ⟨hc.at i _ hi,hb.2,fun e=>o1 l (by rw [e1];rfl) (.inl (by rw [e3];exact e)),hc.fz _,hc.2.2.1,?_⟩;intro n' xs' v' w' hg ha;obtain ⟨Sb,hb1,_,k1⟩:=ah.mid (aS.thing B l _) hZ h;obtain ⟨hr,hm⟩:=ha.moved hg;have eb:Sb=ob v:=hb1.1;subst eb;obtain ⟨S',hs',hm'⟩:=k1 (aW B T z v' n' xs') w' _ hr hm;obtain ⟨Sc,hc1,_,k2⟩:=hs'.fst (ah.thing (aW.thing B _ _ _ _ _) hZ);obtain ⟨hc2,hm2⟩:=hc1.set i v' (Zx.1 hi).1;obtain ⟨S'',hs'',hm''⟩:=k2 _ _ _ hc2 hm2;exact ⟨S'',hs'',hm'.trans hm''⟩
end Go.Proofs.YtbklfkpjoinofaaGreatDoor
