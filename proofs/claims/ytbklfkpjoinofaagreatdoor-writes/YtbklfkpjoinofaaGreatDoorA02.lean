import Derived.StillTail
import Derived.Lib.Tables
import Derived.Test.YtbklfkpjoinofaaGreatDoorA00
set_option linter.all false
set_option maxRecDepth 100000
set_option maxHeartbeats 8000000
namespace Go.Proofs.YtbklfkpjoinofaaGreatDoor
open Go.RowKit Go.Proofs.Tryz
namespace Pm
def eB:List UInt8->Nat
 | []=>0
 | c::r=>c.toNat+256*eB r
def am (l:List UInt8) (p n:Nat):Nat:=eB l / 2 ^ p % 2 ^ n
def aR (l:List UInt8) (p:Nat):Nat->Nat
 | 0=>0
 | n+1=>2*aR l p n+am l (p+n) 1
def ee:Nat->Nat->Nat
 | 0,_=>0
 | n+1,v=>2*ee n v+v / 2 ^ n % 2
theorem cJ (l:List UInt8) (p n:Nat):am l p n < 2 ^ n:=Yl _ (YH n)
theorem o6 (l:List UInt8) (p:Nat):am l p 0=0:=by simp [am,Nat.mod_one]
theorem gh (l:List UInt8) (p a b:Nat):am l p (a+b)=am l p a+2 ^ a*am l (p+a) b:=by
 unfold am;rw [Ze 2 a b,Nat.mod_mul,Ze 2 p a,Ye]
theorem jU (l:List UInt8) (p m k:Nat) (h:k < m):am l p m / 2 ^ k % 2=am l (p+k) 1:=by
 have e:m=k+(1+(m - k - 1)):=by omega
 rw [e,gh,gh];have h1:=cJ l p k;have h2:=cJ l (p+k) 1;rw [Nat.add_mul_div_left _ _ (YH k),XC h1];omega
theorem jh (l:List UInt8) (p m n:Nat) (h:n<=m):aR l p n=ee n (am l p m):=by
 induction n with
 | zero=>rfl
 | succ n ih=>rw [aR,ee,ih (by omega),jU l p m n (by omega)]
theorem kt (l:List UInt8) (p n:Nat):aR l p n < 2 ^ n:=by
 induction n with
 | zero=>simp [aR]
 | succ n ih=>
  have:=cJ l (p+n) 1;rw [aR,Nat.pow_succ];omega
theorem mI (l:List UInt8) (i:Nat):am l (8*i) 8=(l.getD i 0).toNat:=by
 induction l generalizing i with
 | nil=>simp [am,eB]
 | cons c r ih=>
  have hc:c.toNat < 256:=c.toNat_lt
  cases i with
  | zero=>simp [am,eB]
  | succ i=>
   have h2:=ih i;unfold am at h2 ⊢;rw [show 8*(i+1)=8+8*i from by omega,Ze, <-Ye];have e:eB (c::r) / 2 ^ 8=eB r:=by simp only [eB];omega
   rw [e,h2];simp
theorem ym (l:List UInt8):eB l < 2 ^ (8*l.length):=by
 induction l with
 | nil=>simp [eB]
 | cons c r ih=>
  have hc:c.toNat < 256:=c.toNat_lt;simp only [eB,ZY];rw [show 8*(r.length+1)=8+8*r.length from by omega,Ze];have:(2:Nat) ^ 8=256:=by decide+kernel
  rw [this];omega
theorem mT (l:List UInt8) (p n:Nat) (h:8*l.length<=p):am l p n=0:=by
 unfold am;have h1:=ym l;have h2:2 ^ (8*l.length)<=2 ^ p:=YX (by decide) h;rw [XC (by omega)];simp
theorem yk (l:List UInt8) (p:Nat):am l p 1=(l.getD (p / 8) 0).toNat / 2 ^ (p % 8) % 2:=by
 rw [<-mI,jU _ _ _ _ (Yl _ (by decide))];congr 1;omega
def al (c:Nat):Nat:=if c < 265\/c=285 then 0 else (c - 261) / 4
def a_ (c:Nat):Nat:=if c=285 then 258 else if c < 265 then c - 254 else 3+(4+(c - 257) % 4)*2 ^ ((c - 261) / 4)
def aH (c:Nat):Nat:=if c < 4 then 0 else (c - 2) / 2
def bD (c:Nat):Nat:=if c < 4 then 1+c else 1+(2+c % 2)*2 ^ ((c - 2) / 2)
theorem nY:∀ c,c < 284->257<=c->a_ (c+1)=a_ c+2 ^ al c:=by decide+kernel
theorem mQ:∀ c,c < 29->bD (c+1)=bD c+2 ^ aH c:=by decide+kernel
theorem fh:∀ c,c < 286->257<=c->al c<=5/\3<=a_ c/\a_ c+2 ^ al c<=259:=by decide+kernel
theorem eN:∀ c,c < 30->aH c<=13/\1<=bD c/\bD c+2 ^ aH c<=32769:=by decide+kernel
def bC (l:List UInt8) (p:Nat):Nat×Nat:=
 if aR l p 7<=23 then (256+aR l p 7,7)
 else if 2*aR l p 7+am l (p+7) 1<=191 then (2*aR l p 7+am l (p+7) 1 - 48,8)
 else if 2*aR l p 7+am l (p+7) 1<=199 then (2*aR l p 7+am l (p+7) 1+88,8)
 else (2*(2*aR l p 7+am l (p+7) 1)+am l (p+8) 1 - 256,9)
def cB:List UInt8->Nat×Nat->Nat×Nat
 | [],r=>r
 | c::r,(a,b)=>cB r ((a+c.toNat) % 65521,(b+(a+c.toNat) % 65521) % 65521)
theorem oT (l:List UInt8) (c:UInt8) (r:Nat×Nat):cB (l++[c]) r=(((cB l r).1+c.toNat) % 65521,((cB l r).2+((cB l r).1+c.toNat) % 65521) % 65521):=by
 induction l generalizing r with
 | nil=>rfl
 | cons d l ih=>exact ih _
theorem qd (l:List UInt8) (r:Nat×Nat) (h:r.1 < 65521/\r.2 < 65521):(cB l r).1 < 65521/\(cB l r).2 < 65521:=by
 induction l generalizing r with
 | nil=>exact h
 | cons c l ih=>exact ih _ ⟨Yl _ (by decide),Yl _ (by decide)⟩
def eQ (out:List UInt8) (d:Nat):Nat->List UInt8
 | 0=>out
 | n+1=>eQ (out++[out.getD (out.length - d) 0]) d n
theorem ig (out:List UInt8) (d n:Nat):(eQ out d n).length=out.length+n:=by
 induction n generalizing out with
 | zero=>rfl
 | succ n ih=>rw [eQ,ih];simp;omega
theorem mW (out:List UInt8) (d n:Nat):eQ out d (n+1)=eQ out d n++[(eQ out d n).getD ((eQ out d n).length - d) 0]:=by
 induction n generalizing out with
 | zero=>rfl
 | succ n ih=>rw [eQ,ih];rfl
def ch (l:List UInt8) (q c:Nat) (out:List UInt8):Option (Nat×List UInt8):=
 if 285 < c then none
 else if 8*l.length < q+al c then none
 else if 258<=a_ c+am l q (al c)/\c≠285 then none
 else if 1048576 < out.length+(a_ c+am l q (al c)) then none
 else if 8*l.length < q+al c+5 then none
 else if 29 < aR l (q+al c) 5 then none
 else if 8*l.length < q+al c+5+aH (aR l (q+al c) 5) then none
 else if out.length < bD (aR l (q+al c) 5)+am l (q+al c+5) (aH (aR l (q+al c) 5)) then none
 else some (q+al c+5+aH (aR l (q+al c) 5),
  eQ out (bD (aR l (q+al c) 5)+am l (q+al c+5) (aH (aR l (q+al c) 5))) (a_ c+am l q (al c)))
def cY (l:List UInt8) (p:Nat) (out:List UInt8):Option (Bool×Nat×List UInt8):=
 if 8*l.length < p+(bC l p).2 then none
 else if (bC l p).1=256 then some (true,p+(bC l p).2,out)
 else if (bC l p).1 < 256 then
  if 1048576 < out.length+1 then none else some (false,p+(bC l p).2,out++[UInt8.ofNat (bC l p).1])
 else match ch l (p+(bC l p).2) (bC l p).1 out with
  | none=>none
  | some (q,o)=>some (false,q,o)
def bn (l:List UInt8):Nat->Nat->List UInt8->Option (Nat×List UInt8)
 | 0,_,_=>none
 | f+1,p,out=>match cY l p out with
  | none=>none
  | some (true,q,o)=>some (q,o)
  | some (false,q,o)=>bn l f q o
theorem tJ (l:List UInt8) (p:Nat):7<=(bC l p).2/\(bC l p).2<=9:=by
 unfold bC
 repeat' split
 all_goals simp
theorem AW (l:List UInt8) (p:Nat):(bC l p).1<=287:=by
 have h1:=kt l p 7;have h2:=cJ l (p+7) 1;have h3:=cJ l (p+8) 1;unfold bC
 repeat' split
 all_goals simp only []
 all_goals omega
theorem lg {l:List UInt8} {q c:Nat} {out:List UInt8} {q':Nat} {o:List UInt8} (h:ch l q c out=some (q',o)):q<=q'/\q'<=8*l.length/\o.length<=1048576:=by
 unfold ch at h
 repeat' split at h
 all_goals first | (cases h;done) | skip
 simp only [Yb,XB] at h;obtain ⟨rfl,rfl⟩:=h;rw [ig];omega
theorem jx {l:List UInt8} {p:Nat} {out:List UInt8} {e:Bool} {q:Nat} {o:List UInt8} (h:cY l p out=some (e,q,o)) (ho:out.length<=1048576):p < q/\q<=8*l.length/\o.length<=1048576:=by
 have hw:=tJ l p;unfold cY at h;split at h
 ·cases h
 ·split at h
  ·simp only [Yb,XB] at h;obtain ⟨_,rfl,rfl⟩:=h;exact ⟨by omega,by omega,ho⟩
  ·split at h
   ·split at h
    ·cases h
    ·simp only [Yb,XB] at h;obtain ⟨_,rfl,rfl⟩:=h;refine ⟨by omega,by omega,?_⟩;simp;omega
   ·split at h
    ·cases h
    ·rename_i q' o' ha
     simp only [Yb,XB] at h;obtain ⟨_,rfl,rfl⟩:=h;have:=lg ha;exact ⟨by omega,by omega,by omega⟩
theorem rr {l:List UInt8} {f p:Nat} {out:List UInt8} {q:Nat} {o:List UInt8} (h:bn l f p out=some (q,o)) (ho:out.length<=1048576):p < q/\q<=8*l.length/\o.length<=1048576:=by
 induction f generalizing p out with
 | zero=>cases h
 | succ f ih=>
  rw [bn] at h;split at h
  ·cases h
  ·rename_i q' o' hs
   simp only [Yb,XB] at h;obtain ⟨rfl,rfl⟩:=h;exact jx hs ho
  ·rename_i q' o' hs
   have h1:=jx hs ho;have h2:=ih h h1.2.2;exact ⟨by omega,h2.2⟩
theorem jC {l:List UInt8} {q:Nat} {o:List UInt8} {L:Nat} {res:Option (Nat×List UInt8)} (hq:q<=L) (h:∃ f,L < q+f/\bn l f q o=res) (hs:cY l q o=none):res=none:=by
 obtain ⟨f,hf,rfl⟩:=h;obtain ⟨f,rfl⟩:∃ g,f=g+1:=⟨f - 1,by omega⟩;rw [bn,hs]
theorem vF {l:List UInt8} {q:Nat} {o:List UInt8} {L:Nat} {res:Option (Nat×List UInt8)} {q':Nat} {o':List UInt8} (hq:q<=L) (h:∃ f,L < q+f/\bn l f q o=res) (hs:cY l q o=some (true,q',o')):res=some (q',o'):=by
 obtain ⟨f,hf,rfl⟩:=h;obtain ⟨f,rfl⟩:∃ g,f=g+1:=⟨f - 1,by omega⟩;rw [bn,hs]
theorem qQ {l:List UInt8} {q:Nat} {o:List UInt8} {L:Nat} {res:Option (Nat×List UInt8)} {q':Nat} {o':List UInt8} (hq:q<=L) (h:∃ f,L < q+f/\bn l f q o=res) (hs:cY l q o=some (false,q',o')) (hlt:q < q'):∃ f,L < q'+f/\bn l f q' o'=res:=by
 obtain ⟨f,hf,rfl⟩:=h;obtain ⟨f,rfl⟩:∃ g,f=g+1:=⟨f - 1,by omega⟩;refine ⟨f,by omega,?_⟩;rw [bn,hs]
theorem gU {l:List UInt8} {q c:Nat} {out:List UInt8} (h:ch l q c out≠none):
  c<=285/\q+al c<=8*l.length/\¬ (258<=a_ c+am l q (al c)/\c≠285)/\out.length+(a_ c+am l q (al c))<=1048576/\q+al c+5<=8*l.length/\
  aR l (q+al c) 5<=29/\q+al c+5+aH (aR l (q+al c) 5)<=8*l.length/\
  bD (aR l (q+al c) 5)+am l (q+al c+5) (aH (aR l (q+al c) 5))<=out.length:=by
 unfold ch at h
 repeat' split at h
 all_goals first | (exact absurd rfl h) | skip
 refine ⟨?_,?_,?_,?_,?_,?_,?_,?_⟩ <;> first | assumption | omega
theorem po {l:List UInt8} {q c:Nat} {out:List UInt8} (h1:c<=285) (h2:q+al c<=8*l.length) (h3:¬ (258<=a_ c+am l q (al c)/\c≠285)) (h4:out.length+(a_ c+am l q (al c))<=1048576)
  (h5:q+al c+5<=8*l.length) (h6:aR l (q+al c) 5<=29) (h7:q+al c+5+aH (aR l (q+al c) 5)<=8*l.length)
  (h8:bD (aR l (q+al c) 5)+am l (q+al c+5) (aH (aR l (q+al c) 5))<=out.length):
  ch l q c out=some (q+al c+5+aH (aR l (q+al c) 5),
   eQ out (bD (aR l (q+al c) 5)+am l (q+al c+5) (aH (aR l (q+al c) 5))) (a_ c+am l q (al c))):=by
 unfold ch;rw [ZU (by omega),ZU (by omega),ZU h3,ZU (by omega),ZU (by omega),ZU (by omega),ZU (by omega),ZU (by omega)]
theorem zM:∀ c,c < 284->257<=c->a_ c+2 ^ al c<=258:=by decide+kernel
theorem wO {l:List UInt8} {p:Nat} {out:List UInt8} (h:8*l.length < p+(bC l p).2):cY l p out=none:=by unfold cY;rw [ZO h]
theorem pj {l:List UInt8} {p:Nat} {out:List UInt8} (h:p+(bC l p).2<=8*l.length) (hc:(bC l p).1=256):cY l p out=some (true,p+(bC l p).2,out):=by
 unfold cY;rw [ZU (by omega),ZO hc]
theorem mC {l:List UInt8} {p:Nat} {out:List UInt8} (h:p+(bC l p).2<=8*l.length) (hc:(bC l p).1 < 256) (ho:out.length+1<=1048576):cY l p out=some (false,p+(bC l p).2,out++[UInt8.ofNat (bC l p).1]):=by
 unfold cY;rw [ZU (by omega),ZU (by omega),ZO hc,ZU (by omega)]
theorem uf {l:List UInt8} {p:Nat} {out:List UInt8} (hc:(bC l p).1 < 256) (ho:1048576 < out.length+1):cY l p out=none:=by
 unfold cY;by_cases h:8*l.length < p+(bC l p).2
 ·rw [ZO h]
 ·rw [ZU h,ZU (by omega),ZO hc,ZO ho]
theorem lk {l:List UInt8} {p:Nat} {out:List UInt8} (h:p+(bC l p).2<=8*l.length) (hc:256 < (bC l p).1) {r:Nat×List UInt8} (ha:ch l (p+(bC l p).2) (bC l p).1 out=some r):cY l p out=some (false,r.1,r.2):=by
 unfold cY;rw [ZU (by omega),ZU (by omega),ZU (by omega),ha]
theorem uV {l:List UInt8} {p:Nat} {out:List UInt8} (hc:256 < (bC l p).1) (ha:ch l (p+(bC l p).2) (bC l p).1 out=none):cY l p out=none:=by
 unfold cY;by_cases h:8*l.length < p+(bC l p).2
 ·rw [ZO h]
 ·rw [ZU h,ZU (by omega),ZU (by omega),ha]
theorem vy {l:List UInt8} {q c:Nat} {out:List UInt8} {L:Nat} (hL:L=8*l.length) (h1:257<=c)
  (h:29 < aR l (min (q+al c) L) 5\/(c=284/\258<=a_ c+am l q (al c))):ch l q c out=none:=by
 by_cases hn:ch l q c out=none
 ·exact hn
 ·exfalso;have hh:=gU hn;rw [<-hL] at hh;rw [Zr hh.2.1] at h;rcases h with h | ⟨h,h'⟩
  ·omega
  ·exact hh.2.2.1 ⟨h',by omega⟩
theorem wi {l:List UInt8} {q c:Nat} {out:List UInt8} {L:Nat} (hL:L=8*l.length)
  (h:((decide (L < q+al c)||decide (L < min (q+al c) L+5))||decide (L < min (min (q+al c) L+5) L+aH (aR l (min (q+al c) L) 5)))=true\/
   out.length < bD (aR l (min (q+al c) L) 5)+am l (min (min (q+al c) L+5) L) (aH (aR l (min (q+al c) L) 5))):ch l q c out=none:=by
 by_cases hn:ch l q c out=none
 ·exact hn
 ·exfalso;have hh:=gU hn;rw [<-hL] at hh;obtain ⟨_,g2,_,_,g5,g6,g7,g8⟩:=hh;rw [Zr g2] at h;rw [Zr g5] at h;rcases h with h | h
  ·simp only [Bool.or_eq_true,Zt] at h;omega
  ·omega
theorem vN {l:List UInt8} {q c:Nat} {out:List UInt8} {L:Nat} (hL:L=8*l.length) (h1:257<=c) (h2:c<=285)
  (n1:¬ (29 < aR l (min (q+al c) L) 5\/(c=284/\258<=a_ c+am l q (al c))))
  (n2:¬ (((decide (L < q+al c)||decide (L < min (q+al c) L+5))||decide (L < min (min (q+al c) L+5) L+aH (aR l (min (q+al c) L) 5)))=true\/
   out.length < bD (aR l (min (q+al c) L) 5)+am l (min (min (q+al c) L+5) L) (aH (aR l (min (q+al c) L) 5)))):
  (1048576 < out.length+(a_ c+am l q (al c))->ch l q c out=none)/\
  (out.length+(a_ c+am l q (al c))<=1048576->ch l q c out=some (min (min (min (q+al c) L+5) L+aH (aR l (min (q+al c) L) 5)) L,
   eQ out (bD (aR l (min (q+al c) L) 5)+am l (min (min (q+al c) L+5) L) (aH (aR l (min (q+al c) L) 5))) (a_ c+am l q (al c)))):=by
 simp only [not_or,Bool.or_eq_true,Zt,Nat.not_lt] at n2;obtain ⟨⟨⟨a1,a2⟩,a3⟩,a4⟩:=n2;rw [Zr a1] at*;rw [Zr a2] at*;rw [Zr a3] at*;simp only [not_or,Nat.not_lt] at n1;constructor
 ·intro h;by_cases hn:ch l q c out=none
  ·exact hn
  ·exfalso;have hh:=gU hn;omega
 ·intro h;refine po h2 (by omega) ?_ h (by omega) n1.1 (by omega) a4;rintro ⟨g1,g2⟩;by_cases h4:c=284
  ·exact n1.2 ⟨h4,g1⟩
  ·have:=zM c (by omega) h1;have:=cJ l q (al c);omega
end Pm
theorem aa {p:Prop} (h:p):Hid p:=h
theorem bI {k:IntKind} {a b:Int} (h:a=b):Ending.returned (.int k a)=.returned (.int k b):=by rw [h]
theorem yA (n:Int):bits .and .i64 n 1=n % 2:=by
 have h1:(BitVec.ofInt 64 1).toNat=2 ^ 1 - 1:=by decide
 have key:(BitVec.ofInt 64 n&&& BitVec.ofInt 64 1).toNat=(n % ((2 ^ 64:Nat):Int)).toNat % 2 ^ 1:=by
  rw [BitVec.toNat_and,Xo,h1,XN]
 show IntKind.i64.wrap ((BitVec.ofInt 64 n&&& BitVec.ofInt 64 1).toNat:Nat)=n % 2
 rw [key,IntKind.wrap_i64];omega
theorem bY (c:UInt8):wrap64 (c.toNat:Int)=(c.toNat:Int):=by
 have:=c.toNat_lt;exact YS _ (by omega)
abbrev bT (b:Nat) (w w':World):Prop:=w.grownBy w' (some b)
theorem bT.refl (b:Nat) (w:World):bT b w w:=⟨rfl,rfl,rfl,ZX _,fun _ _ _=>rfl⟩
theorem bT.trans {b:Nat} {u v w:World} (h:bT b u v) (k:bT b v w):bT b u w:=
 ⟨k.os.trans h.os,k.tape.trans h.tape,k.output.trans h.output,ZN h.size k.size,fun i hi hn=>(k.block i (ZR hi h.size) hn).trans (h.block i hi hn)⟩
theorem bT.drewN {b:Nat} {u w:World} (h:bT b u w) (n:Nat):bT b u (w.drewN n):=⟨h.os,h.tape,h.output,h.size,h.block⟩
theorem bT.drew {b:Nat} {u w:World} (h:bT b u w):bT b u w.drew:=⟨h.os,h.tape,h.output,h.size,h.block⟩
theorem bT.setCell {b:Nat} {u w:World} (h:bT b u w) (o:Nat) (v:Value):bT b u (w.setCell (zq b o) v):=
 h.trans ⟨rfl,rfl,rfl,by simp [World.setCell],fun k _ hn=>YP _ _ _ _ (by intro e;exact hn (by rw [e]))⟩
theorem bT.below {b:Nat} {w w':World} (h:bT b w w') (hb:b < w.heap.size):Below b w w':=
 ⟨h.os,h.tape,h.output,h.size,fun k hk=>h.block k (by omega) (by intro e;cases e;omega)⟩
theorem bT.cell {b:Nat} {w w':World} (h:bT b w w') {a:Addr} {v:Value} (hc:w.cell? a=some v) (hn:a.block≠b):w'.cell? a=some v:=
 World.grownBy.cell h hc (by intro e;exact hn (by cases e;rfl))
theorem bT.owns {b:Nat} {w w':World} (h:bT b w w') {base:Nat} {e:TypeId} {size:Nat} {v:Value} {n:Nat} {xs:List Value} (ho:w.ownsRow base e size v n xs) (hb:b < base):w'.ownsRow base e size v n xs:=by
 refine ho.kept h ?_;right;intro he;have:=(ho.lt b he).1;omega
structure RB (w:World) (b:Nat) (s:ByteArray) (p:Nat) (bad:Bool):Prop where
 c0:w.cell? b=s
 c1:w.cell? (zq b 1)=p
 c2:w.cell? (zq b 2)=bad
 f1:w.frozen? (zq b 1)=false
 f2:w.frozen? (zq b 2)=false
theorem RB.drewN {w:World} {b:Nat} {s:ByteArray} {p:Nat} {bad:Bool} (h:RB w b s p bad) (n:Nat):RB (w.drewN n) b s p bad:=⟨h.c0,h.c1,h.c2,h.f1,h.f2⟩
theorem RB.drew {w:World} {b:Nat} {s:ByteArray} {p:Nat} {bad:Bool} (h:RB w b s p bad):RB w.drew b s p bad:=⟨h.c0,h.c1,h.c2,h.f1,h.f2⟩
theorem RB.lt {w:World} {b:Nat} {s:ByteArray} {p:Nat} {bad:Bool} (h:RB w b s p bad):b < w.heap.size:=Yr w _ h.c0
theorem RB.at {w:World} {b:Nat} {s:ByteArray} {p:Nat} {bad:Bool} (h:RB w b s p bad) (q:Nat) (v:Value) (hv:v=.int .i64 q):RB (w.setCell (zq b 1) v) b s q bad:=by
 subst hv;refine ⟨?_,?_,?_,?_,?_⟩
 ·rw [ZT _ _ _ _ (by simp)];exact h.c0
 ·exact ZA _ _ _ h.c1
 ·rw [ZT _ _ _ _ (by simp)];exact h.c2
 ·rw [ZG];exact h.f1
 ·rw [ZG];exact h.f2
theorem RB.spoil {w:World} {b:Nat} {s:ByteArray} {p:Nat} {bad:Bool} (h:RB w b s p bad) (c:Bool):RB (w.setCell (zq b 2) c) b s p c:=by
 refine ⟨?_,?_,?_,?_,?_⟩
 ·rw [ZT _ _ _ _ (by simp)];exact h.c0
 ·rw [ZT _ _ _ _ (by simp)];exact h.c1
 ·exact ZA _ _ _ h.c2
 ·rw [ZG];exact h.f1
 ·rw [ZG];exact h.f2
def bo (l:List UInt8):List Value:=l.map fun c=>Value.int .u8 c.toNat
theorem jT (l:List UInt8):(bo l).length=l.length:=by simp [bo]
theorem eV (l m:List UInt8):bo (l++m)=bo l++bo m:=by simp [bo]
theorem Tryz.info5:(Tryz.prog.info? 5).map (fun i=>(i.zero,i.size,i.bytes))=some (some (.int .u8 0),1,1):=by kernel_rfl
structure gZ (w:World) (b:Nat) (v:Value) (out:List UInt8):Prop where
 own:w.ownsRow (b+1) 5 1 v out.length (bo out)
 base:b < w.heap.size
theorem gZ.drewN {w:World} {b:Nat} {v:Value} {out:List UInt8} (h:gZ w b v out) (n:Nat):gZ (w.drewN n) b v out:=⟨h.own,h.base⟩
theorem gZ.drew {w:World} {b:Nat} {v:Value} {out:List UInt8} (h:gZ w b v out):gZ w.drew b v out:=⟨h.own,h.base⟩
theorem gZ.alloc {w:World} {b:Nat} {v:Value} {out:List UInt8} (h:gZ w b v out) (o:Obj):gZ (w.alloc o) b v out:=⟨h.own.alloc o,by have:=h.base;simp;omega⟩
theorem gZ.only {w w':World} {b:Nat} {v:Value} {out:List UInt8} (h:gZ w b v out) (k:bT b w w'):gZ w' b v out:=⟨bT.owns k h.own (YW b),ZR h.base k.size⟩
theorem gZ.nil (w:World) (b:Nat) (hb:b < w.heap.size):gZ w b (.slice none 0 0) []:=⟨Yq _ _ _ _,hb⟩
theorem gZ.form {w:World} {b:Nat} {v:Value} {out:List UInt8} (h:gZ w b v out):∃ a cap,v=.slice a out.length cap/\(a=none->out.length=0):=by
 rcases h.own.2 with ⟨rfl,hn⟩ | ⟨g,cap,cur,rfl,_⟩
 ·exact ⟨none,0,by rw [hn],fun _=>hn⟩
 ·exact ⟨_,_,rfl,fun e=>by cases e⟩
theorem gZ.at {w:World} {b:Nat} {v:Value} {out:List UInt8} (h:gZ w b v out) (i:Nat) (hi:i < out.length):∃ g cap,v=.slice (zp g) out.length cap/\w.cell? (zq g i)=some (.int .u8 ((out.getD i 0).toNat:Nat))/\b < g:=by
 rcases h.own.2 with ⟨rfl,hn⟩ | ⟨g,cap,cur,rfl,hb,_⟩
 ·omega
 ·refine ⟨g,cap,rfl,?_,by omega⟩;have hx:(bo out)[i]? =some (.int .u8 ((out.getD i 0).toNat:Nat)):=by
   simp [bo,ZK hi]
  have:=h.own.cells (g:=g) rfl i _ hx;have hadd:(⟨g,0,none⟩:Addr).add i=⟨g,i,none⟩:=by unfold Addr.add;split <;> simp_all
  rwa [hadd] at this
theorem gZ.kept {w w':World} {b:Nat} {v:Value} {out:List UInt8} (h:gZ w b v out) (hg:w.grownBy w' v.ownBlock):Below (b+1) w w':=
 (ZV (b+1) w).grown hg h.base (fun k hk=>(h.own.lt k hk).1)
section
variable {P:Program}
theorem lS (w:World) (t ty:TypeId) (ht:Tryz.prog.underlying t=some (.slice 5)) {b:Nat} {v:Value} {out:List UInt8} (h:gZ w b v out)
  (ad:Addr) (m:Nat) (c:UInt8) (hc:w.cell? ad=some (.int .u8 (c.toNat:Nat))) (hs:ad.spot=none) (hl:out.length+1<=100000000):
  ∃ v' w',(Builtin.append_ #[t,t] ty #[v,.slice (some ad) 1 m]).run prog w=.ok v' w'/\gZ w' b v' (out++[c])/\Below (b+1) w w':=by
 obtain ⟨i0,hi,hz0,hz1,hz2⟩:=Xn Tryz.info5;obtain ⟨v',w',hr,ho,hg,_⟩:=run_append_own (P:=prog) w (b+1) t ty 5 i0 (.int .u8 0) 1 1 ht hi hz0 hz1 hz2 rfl (by decide) v out.length (bo out) h.own ad 1 m [.int .u8 (c.toNat:Nat)] rfl
  (by
   intro j u hj
   match j,hj with
   | 0,hj=>
    simp at hj;subst hj;have e:ad.add 0=ad:=by unfold Addr.add;split <;> simp_all
    rw [e];exact hc
   | (j+1),hj=>simp at hj)
  (by intro u hu;simp at hu;subst hu;rfl) (by unfold maxLen;omega) (by omega) h.base
 refine ⟨v',w',hr,⟨?_,ZR h.base hg.size⟩,h.kept hg⟩;rw [eV,ZZ];exact ho
theorem lP (w:World) (t u ty:TypeId) (ht:Tryz.prog.underlying t=some (.slice 5)) (hu:Tryz.prog.underlying u=some .string) {b:Nat} {v:Value} {out:List UInt8} (h:gZ w b v out)
  (s:ByteArray) (hl:out.length+s.size<=100000000):
  ∃ v' w',(Builtin.append_ #[t,u] ty #[v,s]).run prog w=.ok v' w'/\gZ w' b v' (out++s.data.toList)/\Below (b+1) w w':=by
 obtain ⟨i0,hi,hz0,hz1,hz2⟩:=Xn Tryz.info5;obtain ⟨v',w',hr,ho,hg,_⟩:=Lib.run_append_own_string (P:=prog) w (b+1) t u ty 5 i0 ht hu hi hz0 hz1 hz2 v out.length (bo out) h.own s (by unfold maxLen;omega) (by omega) h.base;refine ⟨v',w',hr,⟨?_,ZR h.base hg.size⟩,h.kept hg⟩;rw [eV,ZZ];exact ho
theorem kX {ops:Array Oper} {rest:List Oper} {o:Oper} {a:Act} {w:World} {Q:Exit->Act->World->Prop} (hgd:o.guard=none) (sl x:Operand) (t:TypeId)
  (ho:o.op=.call {callee:=.builtin .append,args:=#[sl,x],argTypes:=#[t,t]}) (ht:Tryz.prog.underlying t=some (.slice 5))
  (b:Nat) (v:Value) (out:List UInt8) (hs:a.eval sl=v) (h:gZ w b v out) (ad:Addr) (m:Nat) (hx:a.eval x=.slice (some ad) 1 m) (c:UInt8) (hc:w.cell? ad=some (.int .u8 (c.toNat:Nat))) (hsp:ad.spot=none)
  (hl:out.length+1<=100000000)
  (hk:∀ v' w',gZ w' b v' (out++[c])->Below (b+1) w w'->wpList prog ops Q rest (a.put o.dst v') w'):wpList prog ops Q (o::rest) a w:=by
 refine wpList_plain hgd fun K hK=>?_
 obtain ⟨v',w',hr,h2,h3⟩:=lS w t o.type ht h ad m c hc hsp hl;unfold Oper.wp execOp;simp only [ho,resolve,invoke,builtin,Xt,Xu,Yc,XU,YC,XT,hs,hx,hr];exact hK _ _ (hk v' w' h2 h3)
theorem vd {ops:Array Oper} {o:Oper} {a:Act} {w:World} {K:Act->World->Prop} {Q:Exit->Act->World->Prop} {E:Prop} (hgd:o.guard=none) (sl x:Operand) (t u:TypeId)
  (ho:o.op=.call {callee:=.builtin .append,args:=#[sl,x],argTypes:=#[t,u]}) (ht:Tryz.prog.underlying t=some (.slice 5)) (hu:Tryz.prog.underlying u=some .string)
  (b:Nat) (v:Value) (out:List UInt8) (hs:a.eval sl=v) (h:gZ w b v out) (s:ByteArray) (hx:a.eval x=.string s)
  (hl:out.length+s.size<=100000000)
  (hk:∀ v' w',gZ w' b v' (out++s.data.toList)->Below (b+1) w w'->K (a.put o.dst v') w'):
  if Region.wanted o (yielded ops a.tmps)=true then Oper.wp prog o a w K Q else E:=by
 have hw:Region.wanted o (yielded ops a.tmps)=true:=by simp [Region.wanted,hgd]
 rw [ZO hw];obtain ⟨v',w',hr,h2,h3⟩:=lP w t u o.type ht hu h s hl;unfold Oper.wp execOp;simp only [ho,resolve,invoke,builtin,Xt,Xu,Yc,XU,YC,XT,hs,hx,hr];exact hk v' w' h2 h3
end
section
variable {P:Program} {ops:Array Oper} {md:Region.Mode} {C:World->Prop} {n:Nat} {L:Array Bool->Act->Prop}
def iZ (P:Program) (md:Region.Mode) (ops:Array Oper) (C:World->Prop) (n:Nat) (L:Array Bool->Act->Prop):Nat->Array Bool->Act->Prop
 | 0,listed,a=>L listed a
 | f+1,listed,a=>Region.ready md ops listed≠[]/\∀ i∈Region.ready md ops listed,i < n/\qOp P ops C i (iZ P md ops C n L f (listed.setIfInBounds i true)) a
theorem iZ.any {g:Nat} {Q:Exit->Act->World->Prop} (hL:∀ listed a w,C w->L listed a->wpAny P md ops Q g listed a w) (f:Nat):
  ∀ listed a w,C w->iZ P md ops C n L f listed a->wpAny P md ops Q (f+g) listed a w:=by
 induction f with
 | zero=>intro listed a w hw h;rw [Zc];exact hL _ _ _ hw h
 | succ f ih=>
  intro listed a w hw h;rw [show f+1+g=(f+g)+1 by omega];exact ⟨fun h0=>absurd h0 h.1,fun i hi=>wpOp_of_qOp hw (fun a' w' hw' h'=>ih _ a' w' hw' h') (h.2 i hi).2⟩
theorem iZ.first {i:Nat} {oi:Oper} {v:Value} (hi:ops[i]? =some oi) (hsel:∀ (j:Nat) (o:Oper) cs b,ops[j]? =some o->o.op≠.select cs b)
  (hs:Region.sinkB md ops n=true) (hc:Region.chainB md ops n=true) (hn:n < ops.size) (hin:i < n)
  (hdone:∀ listed a,L listed a->∀ j∈Region.ready md ops listed,n<=j) (f:Nat):
  ∀ (listed:Array Bool) (a:Act),HeadInv md ops n listed->
   (∀ j oj,ops[j]? =some oj->j≠i->listed.getD j true=false->(∀ e∈oj.after,Region.binds md e=true->e.on≠i)->oi.apart ops oj=true)->
   i∈Region.ready md ops listed->YieldsIn P ops C oi v a->
   iZ P md ops C n L f (listed.setIfInBounds i true) (a.put oi.dst v)->iZ P md ops C n L (f+1) listed a:=by
 induction f with
 | zero=>
  intro listed a inv _ hr hy H;refine ⟨List.ne_nil_of_mem hr,fun j hj=>?_⟩;have hjn:j < n:=XD fun h=>tail_waits hs hc hn inv _ i rfl hin (mem_ready.1 hr).1 j h hj
  refine ⟨hjn,?_⟩;by_cases hji:j=i
  ·subst hji;exact hy.qOp hi H
  ·have:=hdone _ _ H j (ready_mono hj hji);omega
 | succ f ih=>
  intro listed a inv hfree hr hy H;have hun:=(mem_ready.1 hr).1;refine ⟨List.ne_nil_of_mem hr,fun j hj=>?_⟩;have hjn:j < n:=XD fun h=>tail_waits hs hc hn inv _ i rfl hin hun j h hj
  refine ⟨hjn,?_⟩;by_cases hji:j=i
  ·subst hji;exact hy.qOp hi H
  ·obtain ⟨hjun,oj,hoj,hall⟩:=mem_ready.1 hj;have hnot:∀ e∈oj.after,Region.binds md e=true->e.on≠i:=fun e he hb heq=>by
    have h1:=hall e he hb;rw [heq,getD_both hun] at h1;exact Xp h1
   have h2:=qOp_put hoj (hfree j oj hoj hji hjun hnot) (fun cs b=>hsel i oi cs b hi) (fun cs b=>hsel j oj cs b hoj) hy (H.2 j (ready_mono hj hji)).2;refine qOp_mono (fun a' h3=>ih (listed.setIfInBounds j true) a' (inv.set hj hjn) ?_ (ready_mono hr (Xz hji)) h3.1 ?_) h2
   ·intro k ok hk hki hunk hno;refine hfree k ok hk hki ?_ hno;by_cases hjk:j=k
    ·subst hjk;exact hjun
    ·rw [Yg true hjk] at hunk;exact hunk
   ·rw [Array.setIfInBounds_comm _ _ hji];exact h3.2
theorem iZ.lex {g:Nat} {K:Act->Prop} (hsel:Region.noSelect ops=true) (hs:Region.sinkB md ops n=true) (hc:Region.chainB md ops n=true) (hn:n < ops.size) (l:List Oper):
  ∀ (k:Nat) (listed:Array Bool) (a:Act),(∀ j,j < l.length->l[j]? =ops[k+j]?)->k+l.length=n->HeadInv md ops n listed->
   Region.lexHead md ops g l.length k listed=true->wpQuiet P ops C K l a->
   iZ P md ops C n (fun listed' a'=>Region.seqB md ops g n listed'=true/\K a') l.length listed a:=by
 induction l with
 | nil=>
  intro k listed a _ hk _ hB h;obtain rfl:k=n:=by simpa using hk
  exact ⟨hB,h⟩
 | cons o l ih=>
  intro k listed a hl hk inv hB h;have h0:ops[k]? =some o:=by simpa using (hl 0 (by simp)).symm
  simp only [ZY,Region.lexHead,Zi] at hB;obtain ⟨⟨hr,hf⟩,hB'⟩:=hB;have hkn:k < n:=by simp only [ZY] at hk;omega
  have hr':k∈Region.ready md ops listed:=by simpa using hr
  have hst:qOp P ops C k (wpQuiet P ops C K l) a:=by unfold qOp;simp only [h0];exact h
  obtain ⟨v,hy,hK⟩:=yieldsIn_of_qOp h0 hst;refine iZ.first h0 (Region.noSelect_spec hsel) hs hc hn hkn (fun _ _ hL=>seqB_ready hL.1) l.length listed a inv (Region.free_spec h0 hf) hr' hy (ih (k+1) _ _ (fun j hj=>?_) (by simp only [ZY] at hk;omega) (inv.set hr' hkn) hB' hK);have:=hl (j+1) (by simp;omega);simpa [Zn,Nat.add_comm 1 j] using this
end
theorem bO {P:Program} {id:Nat} {Q:Exit->Act->World->Prop} {a:Act} {w:World} {l:List Oper} (n:Nat) (hm:P.follows .mixedOrders=true) (hB:Region.lexTailB .any l.toArray n=true)
  (h:wpQuiet P l.toArray (fun w'=>∃ q,w'=w.drewN q) (fun a'=>∀ w',(∃ q,w'=w.drewN q)->wpList P l.toArray Q (l.drop n) a' w') (l.take n) a):(Code.region id l.toArray true).wp P Q a w:=by
 simp only [Region.lexTailB,Zi,Zt] at hB;obtain ⟨⟨⟨⟨hsel,hn⟩,hs⟩,hc⟩,hlex⟩:=hB;have hn':n < l.length:=by simpa using hn
 have htl:(l.take n).length=n:=by simp;omega
 have hdl:(l.drop n).length=l.toArray.size - n:=by simp
 have inv0:HeadInv .any l.toArray n (Array.replicate l.toArray.size false):=
  ⟨by simp,fun j oj _ hl=>absurd hl (by rw [getD_replicate_false];exact Xp),fun t _ ht=>getD_in (by simpa using ht) (getD_replicate_false _ _)⟩
 have H:=iZ.lex (md:=.any) (g:=l.toArray.size - n) hsel hs hc hn (l.take n) 0 _ a (fun j hj=>by
  have hj':j < n:=by rw [htl] at hj;exact hj
  simp [hj']) (by simpa using htl) inv0 (by rw [htl];exact hlex) h
 refine wp_region_any hm ?_;have:=iZ.any (Q:=Q) (g:=l.toArray.size - n) (fun listed a' w' hw' hL=>by
  have:=wpAny_of_seq (md:=.any) (Q':=Q) (l.drop n) n listed a' w' (fun j=>by simp [XO]) (by rw [hdl];exact hL.1) (hL.2 w' hw');rwa [hdl] at this) _ _ _ {w with drawn:=w.drawn+1} ⟨1,rfl⟩ H
 rw [htl,show n+(l.toArray.size - n)=l.toArray.size by omega] at this;exact this
section
variable {P:Program} {ops:Array Oper} {md:Region.Mode}
def af (w w':World):Prop:=Below w w w'
theorem af.refl (w:World):af w w:=ZV _ _
theorem af.trans {a b c:World} (h:af a b) (k:af b c):af a c:=Below.trans h (YY k h.size)
def dS (o:Oper) (a:Act):Value:=match o.dst with | some d=>a.eval (.tmp d) | none=>undef
def dB (ops:Array Oper) (k:Nat):Option Tmp:=(ops[k]?).bind (·.dst)
def cQ (ops:Array Oper) (V:Nat->Value) (a:Act):Nat->Act
 | 0=>a
 | k+1=>(cQ ops V a k).put (dB ops k) (V k)
theorem nj (a:Act) (d:Option Tmp) (v:Value):(a.put d v).tmps.size=a.tmps.size:=by
 cases d <;> simp [Act.put]
theorem fq (a:Act) (d:Option Tmp) (v:Value):(a.put d v).defers=a.defers:=by
 cases d <;> simp [Act.put]
theorem e_ (a:Act) (d:Option Tmp) (v:Value) (t:Nat) (h:d≠some t):(a.put d v).tmps[t]? =a.tmps[t]? :=by
 cases d with
 | none=>rfl
 | some d=>
  have:d≠t:=fun e=>h (by rw [e])
  simp [Act.put,Array.getElem?_setIfInBounds_ne this]
theorem kC (a:Act) (d:Nat) (v:Value) (h:d < a.tmps.size):(a.put (some d) v).tmps[d]? =some v:=by
 simp [Act.put,h]
theorem jq (V:Nat->Value) (a:Act) (k:Nat):(cQ ops V a k).tmps.size=a.tmps.size:=by
 induction k with
 | zero=>rfl
 | succ k ih=>rw [cQ,nj,ih]
theorem qO (V:Nat->Value) (a:Act) (k:Nat):(cQ ops V a k).defers=a.defers:=by
 induction k with
 | zero=>rfl
 | succ k ih=>rw [cQ,fq,ih]
theorem ik (V:Nat->Value) (a:Act) (t k:Nat) (h:∀ j,j < k->dB ops j≠some t):(cQ ops V a k).tmps[t]? =a.tmps[t]? :=by
 induction k with
 | zero=>rfl
 | succ k ih=>rw [cQ,e_ _ _ _ _ (h k (by omega)),ih fun j hj=>h j (by omega)]
theorem oM (V:Nat->Value) (a:Act) (t j k:Nat) (hj:j < k) (hd:dB ops j=some t) (ht:t < a.tmps.size) (h:∀ i,i < k->i≠j->dB ops i≠some t):(cQ ops V a k).tmps[t]? =some (V j):=by
 induction k with
 | zero=>omega
 | succ k ih=>
  rw [cQ];by_cases hk:j=k
  ·subst hk;rw [hd];exact kC _ _ _ (by rw [jq];exact ht)
  ·rw [e_ _ _ _ _ (h k (by omega) (by omega))];exact ih (by omega) fun i hi=>h i (by omega)
theorem nM (o:Oper) (hs:∀ cs b,o.op≠.select cs b) (a b:Act) (h:∀ t∈o.looksAt ops,a.tmps[t]? =b.tmps[t]?):
  execOp a.eval o=execOp b.eval o/\Region.wanted o (yielded ops a.tmps)=Region.wanted o (yielded ops b.tmps):=by
 constructor
 ·refine execOp_congr o hs fun x hx=>?_
  cases x with
  | tmp t=>
   have:=h t (List.mem_append_left _ (List.mem_filterMap.2 ⟨.tmp t,by simpa using hx,rfl⟩));simp only [Act.eval,Array.getD_eq_getD_getElem?,this]
  | _=>rfl
 ·unfold Region.wanted
  cases hg:o.guard with
  | none=>rfl
  | some gw=>
   obtain ⟨g,want⟩:=gw;have hy:yielded ops a.tmps g=yielded ops b.tmps g:=by
    unfold yielded
    cases ht:(ops[g]?).bind (·.dst) with
    | none=>rfl
    | some t=>
     have:=h t (by simp [Oper.looksAt,hg,ht]);simp [this]
   simp only [hy]
theorem rL (o:Oper) (a:Act) (u:Value) (hd:∀ d,o.dst=some d->d < a.tmps.size):dS o (a.put o.dst u)=match o.dst with | some _=>u | none=>undef:=by
 unfold dS
 cases h:o.dst with
 | none=>rfl
 | some d=>
  have:=kC a d u (hd d h);simp only [Act.eval,Array.getD_eq_getD_getElem?,this];rfl
theorem kN {Q:Exit->Act->World->Prop} {i:Nat} {o:Oper} {a b:Act} {w:World} {X:Value->World->Prop} (hi:ops[i]? =some o) (he:execOp a.eval o=execOp b.eval o)
  (hw:Region.wanted o (yielded ops a.tmps)=Region.wanted o (yielded ops b.tmps)) (ha:∀ d,o.dst=some d->d < a.tmps.size) (hb:∀ d,o.dst=some d->d < b.tmps.size)
  (h:wpList P ops (fun e b' w'=>e=.normal/\b'.defers=b.defers/\X (dS o b') w') [o] b w):
  wpOp P ops Q i (fun a' w'=>∃ v,a'=a.put o.dst v/\X (match o.dst with | some _=>v | none=>undef) w') a w:=by
 have out:∀ u w',X (dS o (b.put o.dst u)) w'->∃ v,a.put o.dst u=a.put o.dst v/\X (match o.dst with | some _=>v | none=>undef) w':=fun u w' hx=>⟨u,rfl,by rw [rL o b u hb] at hx;exact hx⟩
 unfold wpOp;simp only [hi,wpList] at h ⊢;rw [hw];split
 ·rename_i hq
  simp only [hq,if_true] at h;rcases h with h | ⟨_,hl⟩
  case inr=>
   obtain ⟨_,_,hx,_⟩:=hl
   cases hx
  refine .inl ?_;unfold Oper.wp at*;rw [he];generalize (execOp b.eval o).run P w=r at*
  cases r with
  | ok nx w'=>
   cases nx <;> simp only [Oper.upon] at h ⊢
   case value u=>exact out _ _ h.2.2
   case skip=>exact out _ _ h.2.2
   case defer d=>
    have h2:=congrArg List.length h.2.1;simp [fq] at h2
   case enter f args=>
    refine Calls.mono h fun e w'' he=>?_
    cases e with
    | returned u=>exact out _ _ he.2.2
    | panicked c=>cases he.1
    | outgrown=>
     obtain ⟨_,_,hx,_⟩:=he
     cases hx
   case row row args=>exact Rows.mono h fun u w'' he=>out _ _ he.2.2
  | halt x w'=>
   cases x <;> simp only [Oper.upon] at h ⊢
   case panic u=>cases h.1
 ·rename_i hq
  simp only [hq] at h;exact out _ _ h.2.2
def Region.toldB (md:Region.Mode) (ops:Array Oper) (n m:Nat):Bool:=
 Region.noSelect ops&&decide (n < ops.size)&&Region.sinkB md ops n&&Region.chainB md ops n&&
 (List.range n).all (fun k=>match ops[k]? with
  | some o=>(match o.dst with | some d=>decide (d < m) | none=>true)&&o.after.all (fun e=>!Region.binds md e||decide (e.on < k))
  | none=>false)&&
 (List.range n).all (fun j=>(List.range j).all fun k=>match ops[k]?,ops[j]? with
  | some x,some y=>(Region.waitsFor md ops j k||x.apart ops y)&&(x.dst.isNone||x.dst != y.dst)
  | _,_=>false)&&
 Region.seqB md ops (ops.size - n) n ((Array.range ops.size).map fun i=>decide (i < n))
structure Told (md:Region.Mode) (ops:Array Oper) (n m:Nat):Prop where
 sel:Region.noSelect ops=true
 lt:n < ops.size
 sink:Region.sinkB md ops n=true
 chain:Region.chainB md ops n=true
 dst:∀ k o d,k < n->ops[k]? =some o->o.dst=some d->d < m
 early:∀ k o e,k < n->ops[k]? =some o->e∈o.after->Region.binds md e=true->e.on < k
 looks:∀ j k x y,k < j->j < n->ops[k]? =some x->ops[j]? =some y->Region.waitsFor md ops j k=true\/x.apart ops y=true
 apart:∀ j k d,k < j->j < n->dB ops k=some d->dB ops j≠some d
 tail:Region.seqB md ops (ops.size - n) n ((Array.range ops.size).map fun i=>decide (i < n))=true
theorem uO {n m:Nat} (h:Region.toldB md ops n m=true):Told md ops n m:=by
 simp only [Region.toldB,Zi,Zt,List.all_eq_true,Yo] at h;obtain ⟨⟨⟨⟨⟨⟨h1,h2⟩,h3⟩,h4⟩,h5⟩,h6⟩,h7⟩:=h;refine ⟨h1,h2,h3,h4,fun k o d hk ho hd=>?_,fun k o e hk ho he hb=>?_,fun j k x y hkj hj hx hy=>?_,fun j k d hkj hj hk hd=>?_,h7⟩
 ·have:=h5 k hk;simp only [ho,hd,Zi,Zt] at this;exact this.1
 ·have:=h5 k hk;simp only [ho,Zi] at this;have:=Array.all_eq_true_iff_forall_mem.1 this.2 e he;simpa [hb] using this
 ·have:=h6 j hj k hkj;simp only [hx,hy,Zi,Bool.or_eq_true] at this;exact this.1
 ·have:=h6 j hj k hkj;unfold dB at hk hd
  cases hx:ops[k]? with
  | none=>simp [hx] at hk
  | some x=>
   cases hy:ops[j]? with
   | none=>simp [hy] at hd
   | some y=>
    rw [hx] at hk;rw [hy] at hd;have e1:x.dst=some d:=hk;have e2:y.dst=some d:=hd;simp [hx,hy,e1,e2] at this
def left (n:Nat) (listed:Array Bool):Nat:=(List.range n).countP fun i=>!listed.getD i true
theorem lD (p:Nat->Bool) (q:Nat->Bool) (i n:Nat) (hi:i < n) (hp:p i=true) (hq:q i=false) (h:∀ j,j≠i->q j=p j):(List.range n).countP p=(List.range n).countP q+1:=by
 induction n with
 | zero=>omega
 | succ n ih=>
  rw [List.range_succ,List.countP_append,List.countP_append];by_cases hin:i=n
  ·subst hin;have:(List.range i).countP q=(List.range i).countP p:=List.countP_congr fun j hj=>by
    rw [h j (by have:=Yo.1 hj;omega)]
   rw [this];simp [hp,hq]
  ·rw [ih (by omega)];have:q n=p n:=h n (Xz hin);simp only [List.countP_singleton,this];omega
structure Told.At (ops:Array Oper) (n:Nat) (R:Nat->Value->World->Prop) (a0:Act) (w0:World) (listed:Array Bool) (V:Nat->Value) (a:Act) (w:World):Prop where
 size:a.tmps.size=a0.tmps.size
 defers:a.defers=a0.defers
 other:∀ t,(∀ k,k < n->listed.getD k true=true->dB ops k≠some t)->a.tmps[t]? =a0.tmps[t]?
 here:∀ k d,k < n->listed.getD k true=true->dB ops k=some d->a.tmps[d]? =some (V k)
 told:∀ k,k < n->listed.getD k true=true->R k (V k) w
 grows:af w0 w
end
section
variable {P:Program} {ops:Array Oper} {md:Region.Mode}
theorem Told.uniq {n m:Nat} (T:Told md ops n m) {k k' t:Nat} (hk:k < n) (hk':k' < n) (h:dB ops k=some t) (h':dB ops k'=some t):k=k':=by
 rcases Nat.lt_trichotomy k k' with g | g | g
 ·exact absurd h' (T.apart k' k t g hk' h)
 ·exact g
 ·exact absurd h (T.apart k k' t g hk h')
theorem ql {listed:Array Bool} {i:Nat} (h:listed.getD i false=true):listed.getD i true=true:=by
 rcases Nat.lt_or_ge i listed.size with h' | h'
 ·simp [h'] at h ⊢;exact h
 ·simp [Array.getElem?_eq_none h'] at h
theorem vM {listed:Array Bool} {i:Nat} (hi:i < listed.size) (h:listed.getD i true=true):listed.getD i false=true:=by
 simp [hi] at h ⊢;exact h
theorem Told.ready {n m:Nat} (T:Told md ops n m) {listed:Array Bool} (inv:HeadInv md ops n listed):
  ∀ (d k:Nat),k=d->k < n->listed.getD k true=false->Region.ready md ops listed≠[]:=by
 intro d;induction d using Nat.strongRecOn with
 | _ d ih=>
  intro k hkd hk hun h0;have hks:k < ops.size:=Xs hk T.lt;by_cases h:∃ e∈ops[k].after,Region.binds md e=true/\listed.getD e.on false=false
  ·obtain ⟨e,he,hb,hl⟩:=h;have hlt:=T.early k _ e hk (Array.getElem?_eq_getElem hks) he hb;exact ih e.on (by omega) e.on rfl (by omega) (getD_in (by rw [inv.size];omega) hl) h0
  ·have:k∈Region.ready md ops listed:=mem_ready.2 ⟨hun,_,Array.getElem?_eq_getElem hks,fun e he hb=>by
    cases hl:listed.getD e.on false with
    | true=>rfl
    | false=>exact absurd ⟨e,he,hb,hl⟩ h⟩
   rw [h0] at this
   cases this
theorem Told.same {n m i:Nat} (T:Told md ops n m) {R:Nat->Value->World->Prop} {a0 a:Act} {w0 w:World} {listed:Array Bool} {V:Nat->Value} (hm:a0.tmps.size=m) (inv:HeadInv md ops n listed)
  (A:Told.At ops n R a0 w0 listed V a w) (hi:i < n) (hr:i∈Region.ready md ops listed) {o:Oper} (ho:ops[i]? =some o):∀ t∈o.looksAt ops,a.tmps[t]? =(cQ ops V a0 i).tmps[t]? :=by
 intro t ht;obtain ⟨hun,o',ho',hall⟩:=mem_ready.1 hr;obtain rfl:o'=o:=Zd (ho'.symm.trans ho);by_cases h:∃ k,k < n/\dB ops k=some t
 ·obtain ⟨k,hk,hkt⟩:=h;obtain ⟨x,hx,hxd⟩:∃ x,ops[k]? =some x/\x.dst=some t:=by
   unfold dB at hkt
   cases hx:ops[k]? with
   | none=>simp [hx] at hkt
   | some x=>exact ⟨x,rfl,by rw [hx] at hkt;exact hkt⟩
  rcases Nat.lt_trichotomy k i with g | g | g
  ·rcases T.looks i k x o' g hi hx ho with hw | hap
   ·obtain ⟨oj,hoj,e,he,hb,hek⟩:=Region.waitsFor_spec hw;obtain rfl:oj=o':=Zd (hoj.symm.trans ho);have hl:=hall e he hb;rw [hek] at hl;rw [A.here k t hk (ql hl) hkt];exact (oM V a0 t k i g hkt (by rw [hm];exact T.dst k x t hk hx hxd) fun j hj hjk hjt=>hjk (T.uniq (by omega) hk hjt hkt)).symm
   ·exact absurd ht ((Oper.apart_spec hap).1 t hxd)
  ·subst g;rw [A.other t fun j hj hl hjt=>by
    have:=T.uniq hj hk hjt hkt;subst this;rw [hun] at hl
    cases hl]
   exact (ik V a0 t k fun j hj hjt=>by have:=T.uniq (by omega) hk hjt hkt;omega).symm
  ·rcases T.looks k i o' x g hk ho hx with hw | hap
   ·rw [A.other t fun j hj hl hjt=>by
     have:=T.uniq hj hk hjt hkt;subst this;obtain ⟨oj,hoj,e,he,hb,hek⟩:=Region.waitsFor_spec hw;have h1:=inv.closed j oj hoj (vM (by rw [inv.size];exact Xs hj T.lt) hl) e he hb;rw [hek,getD_both hun] at h1
     cases h1]
    exact (ik V a0 t i fun j hj hjt=>by have:=T.uniq (by omega) hk hjt hkt;omega).symm
   ·exact absurd ht ((Oper.apart_spec hap).2.2 t hxd)
 ·rw [A.other t fun j hj _ hjt=>h ⟨j,hj,hjt⟩];exact (ik V a0 t i fun j hj hjt=>h ⟨j,by omega,hjt⟩).symm
theorem Told.all {n m:Nat} (T:Told md ops n m) {R:Nat->Value->World->Prop} {a0 a:Act} {w0 w:World} {listed:Array Bool} {V:Nat->Value} (hm:a0.tmps.size=m)
  (A:Told.At ops n R a0 w0 listed V a w) (hl:∀ k,k < n->listed.getD k true=true):a=cQ ops V a0 n:=by
 obtain ⟨ts,ds⟩:=a;have hd:ds=(cQ ops V a0 n).defers:=by rw [qO];exact A.defers
 have ht:ts=(cQ ops V a0 n).tmps:=by
  apply Array.ext_getElem?;intro t;by_cases h:∃ k,k < n/\dB ops k=some t
  ·obtain ⟨k,hk,hkt⟩:=h;have hts:t < a0.tmps.size:=by
    unfold dB at hkt
    cases hx:ops[k]? with
    | none=>simp [hx] at hkt
    | some x=>rw [hm];exact T.dst k x t hk hx (by rw [hx] at hkt;exact hkt)
   rw [oM V a0 t k n hk hkt hts fun j hj hjk hjt=>hjk (T.uniq hj hk hjt hkt)];exact A.here k t hk (hl k hk) hkt
  ·rw [ik V a0 t n fun j hj hjt=>h ⟨j,hj,hjt⟩];exact A.other t fun j hj _ hjt=>h ⟨j,hj,hjt⟩
 subst hd ht;rfl
theorem mf {n:Nat} {listed:Array Bool} (inv:HeadInv md ops n listed) (hl:∀ k,k < n->listed.getD k true=true):listed=(Array.range ops.size).map fun i=>decide (i < n):=by
 apply Array.ext
 ·simp [inv.size]
 ·intro i h1 h2;simp only [Array.getElem_map,Array.getElem_range];by_cases hi:i < n
  ·have:=hl i hi;simp [h1] at this;simp [hi,this]
  ·have:=inv.tail i (by omega) (by rw [<-inv.size];exact h1);simp [h1] at this;simp [hi,this]
theorem zl {n m g:Nat} {R:Nat->Value->World->Prop} {a0:Act} {w0:World} {Q:Exit->Act->World->Prop} (T:Told md ops n m) (hm:a0.tmps.size=m)
  (hst:∀ k v w w',k < n->R k v w->af w w'->R k v w')
  (hstep:∀ k o,k < n->ops[k]? =some o->∀ V w',af w0 w'->(∀ e∈o.after,Region.binds md e=true->R e.on (V e.on) w')->
   wpList P ops (fun e b w''=>e=.normal/\b.defers=(cQ ops V a0 k).defers/\(R k (dS o b) w''/\af w' w'')) [o] (cQ ops V a0 k) w')
  (hend:∀ V w',af w0 w'->(∀ k,k < n->R k (V k) w')->wpAny P md ops Q g ((Array.range ops.size).map fun i=>decide (i < n)) (cQ ops V a0 n) w') (f:Nat):
  ∀ (listed:Array Bool) (V:Nat->Value) (a:Act) (w:World),left n listed=f->HeadInv md ops n listed->Told.At ops n R a0 w0 listed V a w->wpAny P md ops Q (f+g) listed a w:=by
 induction f with
 | zero=>
  intro listed V a w hf inv A;have hl:∀ k,k < n->listed.getD k true=true:=fun k hk=>by
   have:=List.countP_eq_zero.1 hf k (Yo.2 hk);simpa using this
  rw [mf inv hl,T.all hm A hl,Zc];exact hend V w A.grows fun k hk=>A.told k hk (hl k hk)
 | succ f ih=>
  intro listed V a w hf inv A;obtain ⟨k0,hk0,hun0⟩:∃ k,k < n/\listed.getD k true=false:=by
   have:0 < (List.range n).countP fun i=>!listed.getD i true:=by show 0 < left n listed;omega
   obtain ⟨k,hk,hp⟩:=List.countP_pos_iff.1 this;exact ⟨k,Yo.1 hk,by simpa using hp⟩
  rw [show f+1+g=(f+g)+1 by omega];refine ⟨fun h0=>absurd h0 (T.ready inv k0 k0 rfl hk0 hun0),fun i hi=>?_⟩;have hin:i < n:=XD fun h=>tail_waits T.sink T.chain T.lt inv _ k0 rfl hk0 hun0 i h hi
  obtain ⟨hun,o,ho,hall⟩:=mem_ready.1 hi;have hdst:dB ops i=o.dst:=by unfold dB;rw [ho];rfl
  have hS:=nM (ops:=ops) o (Region.noSelect_spec T.sel i o · · ho) a (cQ ops V a0 i) (T.same hm inv A hin hi ho);have hlt:∀ d,o.dst=some d->d < a0.tmps.size:=fun d hd=>by rw [hm];exact T.dst i o d hin ho hd
  have h1:=hstep i o hin ho V w A.grows fun e he hb=>A.told e.on (Xs (T.early i o e hin ho he hb) hin) (ql (hall e he hb))
  have h2:=kN (Q:=Q) (i:=i) (a:=a) (X:=fun v w''=>R i v w''/\af w w'') ho hS.1 hS.2 (fun d hd=>by rw [A.size];exact hlt d hd) (fun d hd=>by rw [jq];exact hlt d hd) h1;refine wpOp_mono ?_ h2;rintro a' w' ⟨v,rfl,hR,hG⟩;have hil:i < listed.size:=by rw [inv.size];exact Xs hin T.lt
  have hset:(listed.setIfInBounds i true).getD i true=true:=by simp
  refine ih _ (fun k=>if k=i then (match o.dst with | some _=>v | none=>undef) else V k) _ w' ?_ (inv.set hi hin) ⟨?_,?_,?_,?_,?_,A.grows.trans hG⟩
  ·have:=lD (fun j=>!listed.getD j true) (fun j=>!(listed.setIfInBounds i true).getD j true) i n hin (by simp only [hun];rfl) (by simp only [hset];rfl) (fun j hj=>by simp only [Yg true (Xz hj)]);unfold left at hf ⊢;omega
  ·rw [nj,A.size]
  ·rw [fq,A.defers]
  ·intro t ht;rw [e_ _ _ _ _ (by rw [<-hdst];exact ht i hin hset)];refine A.other t fun k hk hl=>ht k hk ?_
   by_cases hki:i=k
   ·subst hki;exact hset
   ·rw [Yg true hki];exact hl
  ·intro k d hk hl hd;by_cases hki:k=i
   ·subst hki;have hod:o.dst=some d:=by rw [<-hdst];exact hd
    rw [hod,kC _ _ _ (by rw [A.size];exact hlt d hod)];simp
   ·rw [e_ _ _ _ _ (by rw [<-hdst];exact fun h=>hki (T.uniq hk hin hd h))];rw [Yg true (Xz hki)] at hl;simp only [hki,if_false];exact A.here k d hk hl hd
  ·intro k hk hl;by_cases hki:k=i
   ·subst hki;simp only [if_true];exact hR
   ·rw [Yg true (Xz hki)] at hl;simp only [hki,if_false];exact hst k _ w w' hk (A.told k hk hl) hG
end
def jd (P:Program) (ops:Array Oper) (n:Nat) (Q:Exit->Act->World->Prop) (R:Nat->Value->World->Prop) (w0:World) (tl:List Oper):Nat->List Value->List Oper->Act->Prop
 | _,vs,[],a=>∀ w',af w0 w'->(∀ k,k < n->R k (vs.getD k undef) w')->wpList P ops Q tl a w'
 | k,vs,o::l,a=>(∀ w',af w0 w'->(∀ e∈o.after,Region.binds .any e=true->R e.on (vs.getD e.on undef) w')->
   wpList P ops (fun e b w''=>e=.normal/\b.defers=a.defers/\(R k (dS o b) w''/\af w' w'')) [o] a w')/\∀ v,jd P ops n Q R w0 tl (k+1) (vs++[v]) l (a.put o.dst v)
section
variable {P:Program} {ops:Array Oper}
theorem dx (V:Nat->Value) (k j:Nat) (h:j < k):((List.range k).map V).getD j undef=V j:=by
 simp [ZB,h]
theorem jd.at {n:Nat} {Q:Exit->Act->World->Prop} {R:Nat->Value->World->Prop} {w0:World} {tl:List Oper} (a0:Act) (V:Nat->Value) (l:List Oper):
  ∀ k,(∀ j,j < l.length->l[j]? =ops[k+j]?)->k+l.length=n->jd P ops n Q R w0 tl k ((List.range k).map V) l (cQ ops V a0 k)->
  (∀ j o,k<=j->j < n->ops[j]? =some o->∀ w',af w0 w'->(∀ e∈o.after,Region.binds .any e=true->R e.on (((List.range j).map V).getD e.on undef) w')->
   wpList P ops (fun e b w''=>e=.normal/\b.defers=(cQ ops V a0 j).defers/\(R j (dS o b) w''/\af w' w'')) [o] (cQ ops V a0 j) w')/\
  (∀ w',af w0 w'->(∀ j,j < n->R j (V j) w')->wpList P ops Q tl (cQ ops V a0 n) w'):=by
 induction l with
 | nil=>
  intro k _ hk h;obtain rfl:k=n:=by simpa using hk
  refine ⟨fun j o h1 h2=>by omega,fun w' hG hR=>h w' hG fun j hj=>?_⟩;rw [dx V k j hj];exact hR j hj
 | cons o l ih=>
  intro k hl hk h;have h0:ops[k]? =some o:=by simpa using (hl 0 (by simp)).symm
  have hn:(List.range k).map V++[V k]=(List.range (k+1)).map V:=by rw [List.range_succ,XQ];rfl
  have hp:(cQ ops V a0 k).put o.dst (V k)=cQ ops V a0 (k+1):=by rw [cQ];unfold dB;rw [h0];rfl
  have h2:=h.2 (V k);rw [hn,hp] at h2;have:=ih (k+1) (fun j hj=>by
   have:=hl (j+1) (by simp;omega);simpa [Zn,Nat.add_comm 1 j] using this) (by simp only [ZY] at hk;omega) h2
  refine ⟨fun j o' h1 h3 ho=>?_,this.2⟩;by_cases hjk:j=k
  ·subst hjk;obtain rfl:o'=o:=Zd (ho.symm.trans h0);exact h.1
  ·exact this.1 j o' (by omega) h3 ho
end
theorem ap {P:Program} {id:Nat} {Q:Exit->Act->World->Prop} {a:Act} {w:World} {l:List Oper} (n m:Nat) (R:Nat->Value->World->Prop) (hm:P.follows .mixedOrders=true) (ha:a.tmps.size=m)
  (hB:Region.toldB .any l.toArray n m=true) (hst:∀ k v w w',k < n->R k v w->af w w'->R k v w')
  (h:jd P l.toArray n Q R w (l.drop n) 0 [] (l.take n) a):(Code.region id l.toArray true).wp P Q a w:=by
 have T:=uO hB;have hn:n < l.length:=by simpa using T.lt
 have htl:(l.take n).length=n:=by simp;omega
 have hdl:(l.drop n).length=l.toArray.size - n:=by simp
 have inv0:HeadInv .any l.toArray n (Array.replicate l.toArray.size false):=
  ⟨by simp,fun j oj _ hl=>absurd hl (by rw [getD_replicate_false];exact Xp),fun t _ ht=>getD_in (by simpa using ht) (getD_replicate_false _ _)⟩
 have hun:∀ k,k < n->(Array.replicate l.toArray.size false).getD k true=false:=fun k hk=>getD_in (by simp;omega) (getD_replicate_false _ _)
 have W:=fun V=>jd.at a V (l.take n) 0 (fun j hj=>by
  have hj':j < n:=by rw [htl] at hj;exact hj
  simp [hj']) (by simpa using htl) h
 refine wp_region_any hm ?_;have hleft:left n (Array.replicate l.toArray.size false)=n:=by
  unfold left;rw [List.countP_eq_length.2 fun k hk=>by rw [hun k (Yo.1 hk)];rfl,List.length_range]
 have hG0:af w {w with drawn:=w.drawn+1}:=Below.drew (ZV _ _);have:=zl (P:=P) (md:=.any) (g:=l.toArray.size - n) (R:=R) (a0:=a) (w0:=w) (Q:=Q) T ha hst
  (fun k o hk ho V w' hG hd=>(W V).1 k o (XM _) hk ho w' hG fun e he hb=>by
   rw [dx V k e.on (T.early k o e hk ho he hb)];exact hd e he hb)
  (fun V w' hG hR=>by
   have:=wpAny_of_seq (P:=P) (md:=.any) (Q':=Q) (l.drop n) n _ (cQ l.toArray V a n) w' (fun j=>by simp [XO]) (by rw [hdl];exact T.tail) ((W V).2 w' hG hR);rwa [hdl] at this) n _ (fun _=>undef) a {w with drawn:=w.drawn+1} hleft inv0
  ⟨rfl,rfl,fun _ _=>rfl,fun k d hk hl=>(by rw [hun k hk] at hl;cases hl),fun k hk hl=>(by rw [hun k hk] at hl;cases hl),hG0⟩
 rw [show n+(l.toArray.size - n)=l.toArray.size by simp;omega] at this;exact this
theorem TN:(∀ l:List Value,[]++l=l)/\(∀ (x:Value) (l m:List Value),x::l++m=x::(l++m))/\(∀ (a:Act) (d:Tmp) (v:Value),a.put (some d) v={a with tmps:=a.tmps.setIfInBounds d v})/\(∀ (a:Act) (v:Value),a.put none v=a)/\(∀ (l:List Value) (i:Nat) (v:Value),l.toArray.setIfInBounds i v=(l.set i v).toArray)/\(∀ (x:Value) (l:List Value) (n:Nat) (v:Value),(x::l).set (n+1) v=x::l.set n v)/\(∀ (x:Value) (l:List Value) (v:Value),(x::l).set 0 v=v::l):=
 ⟨fun _=>rfl,fun _ _ _=>rfl,fun _ _ _=>rfl,fun _ _=>rfl,fun l i v=>List.setIfInBounds_toArray ..,fun _ _ _ _=>rfl,fun _ _ _=>rfl⟩
theorem GD:(∀ (x:Value) (l:List Value) (n:Nat) (d:Value),(x::l).getD (n+1) d=l.getD n d)/\(∀ (x:Value) (l:List Value) (d:Value),(x::l).getD 0 d=x):=⟨fun _ _ _ _=>rfl,fun _ _ _=>rfl⟩
theorem RG {α:Sort _} {x:α} {w:World}:x=x/\af w w:=⟨rfl,af.refl _⟩
theorem CS {a b:ByteArray} {w:World} (h:Hid (a=b)):Value.string a=Value.string b/\af w w:=⟨congrArg Value.string h.out,af.refl _⟩
theorem od (w:World) (y:Nat) (op:Bool) (left:Int) (c3:w.cell? (zq y 3)=op) (c13:w.cell? (zq y 13)=left):
  QD 110 #[zp y] w (.bool (op&&decide (left=0))):=by
 cases op with
 | true=>
  by_cases h:left=0
  ·subst h;go_enter func110,ntmps110
   go_wp2;go_ret;exact ⟨by simp,0,rfl⟩
  ·go_enter func110,ntmps110
   go_wp2;go_ret;exact ⟨by simp [h],0,rfl⟩
 | false=>
  go_enter func110,ntmps110
  go_wp2;go_ret;exact ⟨by simp,0,rfl⟩
theorem rI (w:World) (y:Nat) (cl:Bool) (c15:w.cell? (zq y 15)=cl):
  QE 64 #[zp y] w (.int .i64 (if cl then 2 else 0)):=by
 cases cl with
 | true=>
   go_enter func64,ntmps64
   go_wp2;go_ret;exact ⟨rfl,rfl⟩
 | false=>
  go_enter func64,ntmps64
  go_wp2;go_ret;exact ⟨rfl,rfl⟩
theorem pG (w:World) (y:Nat) (HD:Hid (QD 110 #[zp y] w false)):
  QD 65 #[zp y] w (2:Int):=by
 go_enter func65,ntmps65
 go_wp2_with fail
 refine HD.out.mono ?_;rintro e w1 ⟨rfl,q,rfl⟩;go_wp2;go_ret;exact ⟨rfl,_,rfl⟩
theorem pA (w:World) (y:Nat) (c3:w.cell? (zq y 3)=true) (f3:w.frozen? (zq y 3)=false) (HD:Hid (QD 110 #[zp y] w true)):
  CP 65 #[zp y] w fun e w'=>e=.returned (0:Int)/\∃ q,w'=(w.drewN q).setCell (zq y 3) false:=by
 go_enter func65,ntmps65
 go_wp2_with fail
 refine HD.out.mono ?_;rintro e w1 ⟨rfl,q,rfl⟩;go_wp2;go_ret;exact ⟨rfl,_,rfl⟩
theorem tG (w:World) (y:Nat) (op cl:Bool) (h:op=true\/cl=true) (c3:w.cell? (zq y 3)=op) (c15:w.cell? (zq y 15)=cl):
  QD 66 #[zp y] w (2:Int):=by
 cases op with
 | true=>
  go_enter func66,ntmps66
  go_wp2;go_ret;exact ⟨rfl,0,rfl⟩
 | false=>
  have h2:cl=true:=by simpa using h
  subst h2;go_enter func66,ntmps66
  go_wp2;go_ret;exact ⟨rfl,0,rfl⟩
theorem ug (w:World) (y:Nat) (c3:w.cell? (zq y 3)=false) (c15:w.cell? (zq y 15)=false) (f15:w.frozen? (zq y 15)=false):
  CP 66 #[zp y] w fun e w'=>e=.returned (0:Int)/\∃ q,w'=(w.drewN q).setCell (zq y 15) true:=by
 go_enter func66,ntmps66
 go_wp2;go_ret;exact ⟨rfl,0,rfl⟩
theorem rU (w:World) (y:Nat) (cl:Bool) (t o:ByteArray) (ht:t.size<=9223372036854775807) (c0:w.cell? y=o) (f0:w.frozen? y=false) (c15:w.cell? (zq y 15)=cl):
  CP 63 #[zp y,t] w fun e w'=>e=.returned (.int .i64 (if cl then 2 else if 100 < t.size then 1 else 0))/\w'=if cl\/100 < t.size then w else w.setCell y t:=by
 cases cl with
 | true=>
  go_enter func63,ntmps63
  go_wp2;go_ret;exact ⟨rfl,rfl⟩
 | false=>
  by_cases h:100 < t.size
  ·have d1:decide (100 < (t.size:Int))=true:=by simp;omega
   go_enter func63,ntmps63
   go_wp2;go_ret;simp [h]
  ·have d1:decide (100 < (t.size:Int))=false:=by simp;omega
   go_enter func63,ntmps63
   go_wp2;go_ret;simp [h]
section
variable {P:Program} {ops:Array Oper} {md:Region.Mode}
structure Told.AtG (ops:Array Oper) (n t:Nat) (G:World->World->Prop) (R:Nat->Value->World->Prop) (a0:Act) (w0:World) (listed:Array Bool) (V:Nat->Value) (a:Act) (w:World):Prop where
 size:a.tmps.size=a0.tmps.size
 defers:a.defers=a0.defers
 other:∀ t,(∀ k,k < n->listed.getD k true=true->dB ops k≠some t)->a.tmps[t]? =a0.tmps[t]?
 here:∀ k d,k < n->listed.getD k true=true->dB ops k=some d->a.tmps[d]? =some (V k)
 told:∀ k,k < n->listed.getD k true=true->R k (V k) w
 grows:G w0 w
 un:listed.getD t true=false->af w0 w
theorem Told.AtG.at {n t:Nat} {G:World->World->Prop} {R:Nat->Value->World->Prop} {a0 a:Act} {w0 w:World} {listed:Array Bool} {V:Nat->Value} (A:Told.AtG ops n t G R a0 w0 listed V a w):Told.At ops n (fun _ _ _=>True) a0 w0 listed V a w0:=⟨A.size,A.defers,A.other,A.here,fun _ _ _=>trivial,af.refl _⟩
theorem w_ {n m g t:Nat} {G:World->World->Prop} {R:Nat->Value->World->Prop} {a0:Act} {w0:World} {Q:Exit->Act->World->Prop} (T:Told md ops n m) (hm:a0.tmps.size=m)
  (hGr:∀ w w' w'',G w w'->af w' w''->G w w'') (hGt:∀ w w' w'',af w w'->G w' w''->G w w'')
  (hst:∀ k v w w',k < n->R k v w->af w w'->R k v w') (hst2:∀ k v w w',k < n->k≠t->R k v w->G w w'->R k v w')
  (hstep:∀ k o,k < n->k≠t->ops[k]? =some o->∀ V w',G w0 w'->(∀ e∈o.after,Region.binds md e=true->R e.on (V e.on) w')->
   wpList P ops (fun e b w''=>e=.normal/\b.defers=(cQ ops V a0 k).defers/\(R k (dS o b) w''/\af w' w'')) [o] (cQ ops V a0 k) w')
  (hturn:∀ o,t < n->ops[t]? =some o->∀ V w',af w0 w'->(∀ e∈o.after,Region.binds md e=true->R e.on (V e.on) w')->
   wpList P ops (fun e b w''=>e=.normal/\b.defers=(cQ ops V a0 t).defers/\(R t (dS o b) w''/\G w' w'')) [o] (cQ ops V a0 t) w')
  (hend:∀ V w',G w0 w'->(∀ k,k < n->R k (V k) w')->wpAny P md ops Q g ((Array.range ops.size).map fun i=>decide (i < n)) (cQ ops V a0 n) w') (f:Nat):
  ∀ (listed:Array Bool) (V:Nat->Value) (a:Act) (w:World),left n listed=f->HeadInv md ops n listed->Told.AtG ops n t G R a0 w0 listed V a w->wpAny P md ops Q (f+g) listed a w:=by
 induction f with
 | zero=>
  intro listed V a w hf inv A;have hl:∀ k,k < n->listed.getD k true=true:=fun k hk=>by
   have:=List.countP_eq_zero.1 hf k (Yo.2 hk);simpa using this
  rw [mf inv hl,T.all hm A.at hl,Zc];exact hend V w A.grows fun k hk=>A.told k hk (hl k hk)
 | succ f ih=>
  intro listed V a w hf inv A;obtain ⟨k0,hk0,hun0⟩:∃ k,k < n/\listed.getD k true=false:=by
   have:0 < (List.range n).countP fun i=>!listed.getD i true:=by show 0 < left n listed;omega
   obtain ⟨k,hk,hp⟩:=List.countP_pos_iff.1 this;exact ⟨k,Yo.1 hk,by simpa using hp⟩
  rw [show f+1+g=(f+g)+1 by omega];refine ⟨fun h0=>absurd h0 (T.ready inv k0 k0 rfl hk0 hun0),fun i hi=>?_⟩;have hin:i < n:=XD fun h=>tail_waits T.sink T.chain T.lt inv _ k0 rfl hk0 hun0 i h hi
  obtain ⟨hun,o,ho,hall⟩:=mem_ready.1 hi;have hdst:dB ops i=o.dst:=by unfold dB;rw [ho];rfl
  have hS:=nM (ops:=ops) o (Region.noSelect_spec T.sel i o · · ho) a (cQ ops V a0 i) (T.same hm inv A.at hin hi ho);have hlt:∀ d,o.dst=some d->d < a0.tmps.size:=fun d hd=>by rw [hm];exact T.dst i o d hin ho hd
  have hdep:∀ e∈o.after,Region.binds md e=true->R e.on (V e.on) w:=fun e he hb=>A.told e.on (Xs (T.early i o e hin ho he hb) hin) (ql (hall e he hb))
  have hil:i < listed.size:=by rw [inv.size];exact Xs hin T.lt
  have hset:(listed.setIfInBounds i true).getD i true=true:=by simp
  have go:∀ (v:Value) (w':World),R i (match o.dst with | some _=>v | none=>undef) w'->(i≠t->af w w')->(i=t->G w w')->wpAny P md ops Q (f+g) (listed.setIfInBounds i true) (a.put o.dst v) w':=by
   intro v w' hR hG1 hG2;have hGG:G w0 w':=by
    by_cases hit:i=t
    ·exact hGt _ _ _ (A.un (by rw [<-hit];exact hun)) (hG2 hit)
    ·exact hGr _ _ _ A.grows (hG1 hit)
   refine ih _ (fun k=>if k=i then (match o.dst with | some _=>v | none=>undef) else V k) _ w' ?_ (inv.set hi hin) ⟨?_,?_,?_,?_,?_,hGG,?_⟩
   ·have:=lD (fun j=>!listed.getD j true) (fun j=>!(listed.setIfInBounds i true).getD j true) i n hin (by simp only [hun];rfl) (by simp only [hset];rfl) (fun j hj=>by simp only [Yg true (Xz hj)]);unfold left at hf ⊢;omega
   ·rw [nj,A.size]
   ·rw [fq,A.defers]
   ·intro t ht;rw [e_ _ _ _ _ (by rw [<-hdst];exact ht i hin hset)];refine A.other t fun k hk hl=>ht k hk ?_
    by_cases hki:i=k
    ·subst hki;exact hset
    ·rw [Yg true hki];exact hl
   ·intro k d hk hl hd;by_cases hki:k=i
    ·subst hki;have hod:o.dst=some d:=by rw [<-hdst];exact hd
     rw [hod,kC _ _ _ (by rw [A.size];exact hlt d hod)];simp
    ·rw [e_ _ _ _ _ (by rw [<-hdst];exact fun h=>hki (T.uniq hk hin hd h))];rw [Yg true (Xz hki)] at hl;simp only [hki,if_false];exact A.here k d hk hl hd
   ·intro k hk hl;by_cases hki:k=i
    ·subst hki;simp only [if_true];exact hR
    ·rw [Yg true (Xz hki)] at hl;simp only [hki,if_false];by_cases hit:i=t
     ·exact hst2 k _ w w' hk (fun e=>hki (e.trans hit.symm)) (A.told k hk hl) (hG2 hit)
     ·exact hst k _ w w' hk (A.told k hk hl) (hG1 hit)
   ·intro hl;by_cases hit:i=t
    ·rw [<-hit,hset] at hl
     cases hl
    ·rw [Yg true hit] at hl;exact (A.un hl).trans (hG1 hit)
  by_cases hit:i=t
  ·subst hit;have h1:=hturn o hin ho V w (A.un hun) hdep;have h2:=kN (Q:=Q) (i:=i) (a:=a) (X:=fun v w''=>R i v w''/\G w w'') ho hS.1 hS.2 (fun d hd=>by rw [A.size];exact hlt d hd) (fun d hd=>by rw [jq];exact hlt d hd) h1;refine wpOp_mono ?_ h2;rintro a' w' ⟨v,rfl,hR,hG⟩;exact go v w' hR (fun h=>absurd rfl h) (fun _=>hG)
  ·have h1:=hstep i o hin hit ho V w A.grows hdep;have h2:=kN (Q:=Q) (i:=i) (a:=a) (X:=fun v w''=>R i v w''/\af w w'') ho hS.1 hS.2 (fun d hd=>by rw [A.size];exact hlt d hd) (fun d hd=>by rw [jq];exact hlt d hd) h1;refine wpOp_mono ?_ h2;rintro a' w' ⟨v,rfl,hR,hG⟩;exact go v w' hR (fun _=>hG) (fun h=>absurd h hit)
def gL (P:Program) (ops:Array Oper) (n t:Nat) (G:World->World->Prop) (Q:Exit->Act->World->Prop) (R:Nat->Value->World->Prop) (w0:World) (tl:List Oper):Nat->List Value->List Oper->Act->Prop
 | _,vs,[],a=>∀ w',G w0 w'->(∀ k,k < n->R k (vs.getD k undef) w')->wpList P ops Q tl a w'
 | k,vs,o::l,a=>(if k=t then (∀ w',af w0 w'->(∀ e∈o.after,Region.binds .any e=true->R e.on (vs.getD e.on undef) w')->
   wpList P ops (fun e b w''=>e=.normal/\b.defers=a.defers/\(R k (dS o b) w''/\G w' w'')) [o] a w')
   else (∀ w',G w0 w'->(∀ e∈o.after,Region.binds .any e=true->R e.on (vs.getD e.on undef) w')->
   wpList P ops (fun e b w''=>e=.normal/\b.defers=a.defers/\(R k (dS o b) w''/\af w' w'')) [o] a w'))/\∀ v,gL P ops n t G Q R w0 tl (k+1) (vs++[v]) l (a.put o.dst v)
theorem aB {k t:Nat} {A B:Prop} (h:k≠t) (b:B):if k=t then A else B:=by rw [ZU h];exact b
theorem dO {k t:Nat} {A B:Prop} (h:k=t) (a:A):if k=t then A else B:=by rw [ZO h];exact a
theorem gL.at {n t:Nat} {G:World->World->Prop} {Q:Exit->Act->World->Prop} {R:Nat->Value->World->Prop} {w0:World} {tl:List Oper} (a0:Act) (V:Nat->Value) (l:List Oper):
  ∀ k,(∀ j,j < l.length->l[j]? =ops[k+j]?)->k+l.length=n->gL P ops n t G Q R w0 tl k ((List.range k).map V) l (cQ ops V a0 k)->
  (∀ j o,k<=j->j < n->ops[j]? =some o->(if j=t then (∀ w',af w0 w'->(∀ e∈o.after,Region.binds .any e=true->R e.on (((List.range j).map V).getD e.on undef) w')->
   wpList P ops (fun e b w''=>e=.normal/\b.defers=(cQ ops V a0 j).defers/\(R j (dS o b) w''/\G w' w'')) [o] (cQ ops V a0 j) w')
   else (∀ w',G w0 w'->(∀ e∈o.after,Region.binds .any e=true->R e.on (((List.range j).map V).getD e.on undef) w')->
   wpList P ops (fun e b w''=>e=.normal/\b.defers=(cQ ops V a0 j).defers/\(R j (dS o b) w''/\af w' w'')) [o] (cQ ops V a0 j) w')))/\
  (∀ w',G w0 w'->(∀ j,j < n->R j (V j) w')->wpList P ops Q tl (cQ ops V a0 n) w'):=by
 induction l with
 | nil=>
  intro k _ hk h;obtain rfl:k=n:=by simpa using hk
  refine ⟨fun j o h1 h2=>by omega,fun w' hG hR=>h w' hG fun j hj=>?_⟩;rw [dx V k j hj];exact hR j hj
 | cons o l ih=>
  intro k hl hk h;have h0:ops[k]? =some o:=by simpa using (hl 0 (by simp)).symm
  have hn:(List.range k).map V++[V k]=(List.range (k+1)).map V:=by rw [List.range_succ,XQ];rfl
  have hp:(cQ ops V a0 k).put o.dst (V k)=cQ ops V a0 (k+1):=by rw [cQ];unfold dB;rw [h0];rfl
  have h2:=h.2 (V k);rw [hn,hp] at h2;have:=ih (k+1) (fun j hj=>by
   have:=hl (j+1) (by simp;omega);simpa [Zn,Nat.add_comm 1 j] using this) (by simp only [ZY] at hk;omega) h2
  refine ⟨fun j o' h1 h3 ho=>?_,this.2⟩;by_cases hjk:j=k
  ·subst hjk;obtain rfl:o'=o:=Zd (ho.symm.trans h0);exact h.1
  ·exact this.1 j o' (by omega) h3 ho
end
theorem cW {P:Program} {id:Nat} {Q:Exit->Act->World->Prop} {a:Act} {w:World} {l:List Oper} (n m t:Nat) (G:World->World->Prop) (R:Nat->Value->World->Prop) (hm:P.follows .mixedOrders=true) (ha:a.tmps.size=m)
  (hB:Region.toldB .any l.toArray n m=true)
  (hG0:∀ w,G w w) (hGr:∀ w w' w'',G w w'->af w' w''->G w w'') (hGt:∀ w w' w'',af w w'->G w' w''->G w w'')
  (hst:∀ k v w w',k < n->R k v w->af w w'->R k v w') (hst2:∀ k v w w',k < n->k≠t->R k v w->G w w'->R k v w')
  (h:gL P l.toArray n t G Q R w (l.drop n) 0 [] (l.take n) a):(Code.region id l.toArray true).wp P Q a w:=by
 have T:=uO hB;have hn:n < l.length:=by simpa using T.lt
 have htl:(l.take n).length=n:=by simp;omega
 have hdl:(l.drop n).length=l.toArray.size - n:=by simp
 have inv0:HeadInv .any l.toArray n (Array.replicate l.toArray.size false):=
  ⟨by simp,fun j oj _ hl=>absurd hl (by rw [getD_replicate_false];exact Xp),fun t _ ht=>getD_in (by simpa using ht) (getD_replicate_false _ _)⟩
 have hun:∀ k,k < n->(Array.replicate l.toArray.size false).getD k true=false:=fun k hk=>getD_in (by simp;omega) (getD_replicate_false _ _)
 have W:=fun V=>gL.at a V (l.take n) 0 (fun j hj=>by
  have hj':j < n:=by rw [htl] at hj;exact hj
  simp [hj']) (by simpa using htl) h
 refine wp_region_any hm ?_;have hleft:left n (Array.replicate l.toArray.size false)=n:=by
  unfold left;rw [List.countP_eq_length.2 fun k hk=>by rw [hun k (Yo.1 hk)];rfl,List.length_range]
 have hG1:af w {w with drawn:=w.drawn+1}:=Below.drew (ZV _ _);have:=w_ (P:=P) (md:=.any) (g:=l.toArray.size - n) (t:=t) (G:=G) (R:=R) (a0:=a) (w0:=w) (Q:=Q) T ha hGr hGt hst hst2
  (fun k o hk hkt ho V w' hG hd=>by
   have h9:=(W V).1 k o (XM _) hk ho;rw [ZU hkt] at h9;exact h9 w' hG fun e he hb=>by
    rw [dx V k e.on (T.early k o e hk ho he hb)];exact hd e he hb)
  (fun o hk ho V w' hG hd=>by
   have h9:=(W V).1 t o (XM _) hk ho;rw [ZO rfl] at h9;exact h9 w' hG fun e he hb=>by
    rw [dx V t e.on (T.early t o e hk ho he hb)];exact hd e he hb)
  (fun V w' hG hR=>by
   have:=wpAny_of_seq (P:=P) (md:=.any) (Q':=Q) (l.drop n) n _ (cQ l.toArray V a n) w' (fun j=>by simp [XO]) (by rw [hdl];exact T.tail) ((W V).2 w' hG hR);rwa [hdl] at this) n _ (fun _=>undef) a {w with drawn:=w.drawn+1} hleft inv0
  ⟨rfl,rfl,fun _ _=>rfl,fun k d hk hl=>(by rw [hun k hk] at hl;cases hl),fun k hk hl=>(by rw [hun k hk] at hl;cases hl),hGr _ _ _ (hG0 _) hG1,fun _=>hG1⟩
 rw [show n+(l.toArray.size - n)=l.toArray.size by simp;omega] at this;exact this
namespace Pm
def bq (p:Nat):Nat:=(p+7) / 8*8
def cO (l:List UInt8) (p:Nat) (out:List UInt8):Option (Nat×List UInt8):=
 if am l p (bq p - p)≠0 then none
 else if 8*l.length < bq p+32 then none
 else if am l (bq p+16) 16≠65535 - am l (bq p) 16 then none
 else if l.length < bq p / 8+4+am l (bq p) 16 then none
 else if 1048576 < out.length+am l (bq p) 16 then none
 else some (bq p+32+8*am l (bq p) 16,out++(l.drop (bq p / 8+4)).take (am l (bq p) 16))
theorem eO {l:List UInt8} {p:Nat} {out:List UInt8} (h:am l p (bq p - p)≠0\/8*l.length < bq p+32\/am l (bq p+16) 16≠65535 - am l (bq p) 16\/l.length < bq p / 8+4+am l (bq p) 16\/1048576 < out.length+am l (bq p) 16):cO l p out=none:=by
 unfold cO;by_cases h1:am l p (bq p - p)≠0
 ·rw [ZO h1]
 rw [ZU h1];by_cases h2:8*l.length < bq p+32
 ·rw [ZO h2]
 rw [ZU h2];by_cases h3:am l (bq p+16) 16≠65535 - am l (bq p) 16
 ·rw [ZO h3]
 rw [ZU h3];by_cases h4:l.length < bq p / 8+4+am l (bq p) 16
 ·rw [ZO h4]
 rw [ZU h4];by_cases h5:1048576 < out.length+am l (bq p) 16
 ·rw [ZO h5]
 exfalso;rcases h with h | h | h | h | h
 ·exact h1 h
 ·exact h2 h
 ·exact h3 h
 ·exact h4 h
 ·exact h5 h
theorem rc {l:List UInt8} {p:Nat} {out:List UInt8} (h1:am l p (bq p - p)=0) (h2:bq p+32<=8*l.length) (h3:am l (bq p+16) 16=65535 - am l (bq p) 16) (h4:bq p / 8+4+am l (bq p) 16<=l.length) (h5:out.length+am l (bq p) 16<=1048576):
  cO l p out=some (bq p+32+8*am l (bq p) 16,out++(l.drop (bq p / 8+4)).take (am l (bq p) 16)):=by
 unfold cO;rw [ZU (by omega),ZU (by omega),ZU (by omega),ZU (by omega),ZU (by omega)]
theorem yz {l:List UInt8} {p P L:Nat} {out:List UInt8} {bad:Bool} (hL:L=8*l.length) (hP:bq p=P) (hle:P<=L)
  (h:(bad||decide (am l p (P - p)≠0)||decide (L < P+16)||decide (L < min (P+16) L+16))=true\/am l (min (P+16) L) 16≠65535 - am l P 16\/l.length < min (min (P+16) L+16) L / 8+am l P 16):
  (if bad=true then none else cO l p out)=none:=by
 subst hP
 cases bad
 ·rw [ZU (by decide)];have h8:bq p % 8=0:=by unfold bq;omega
  by_cases a1:am l p (bq p - p)≠0
  ·exact eO (Zg a1)
  by_cases a2:L < bq p+32
  ·have k2:8*l.length < bq p+32:=by omega
   exact eO (Zo (Zg k2))
  have e1:min (bq p+16) L=bq p+16:=by omega
  have e2:min (bq p+16+16) L=bq p+32:=by omega
  rw [e1,e2] at h;rcases h with h | h | h
  ·exfalso;simp only [Bool.false_or,Bool.or_eq_true,Zt] at h;rcases h with (h | h) | h
   ·exact a1 h
   ·omega
   ·omega
  ·exact eO (Zo (Zo (Zg h)))
  ·have k4:l.length < bq p / 8+4+am l (bq p) 16:=by omega
   exact eO (Zo (Zo (Zo (Zg k4))))
 ·rw [ZO rfl]
theorem uS {l:List UInt8} {p P L:Nat} {out:List UInt8} {bad:Bool} (hL:L=8*l.length) (hP:bq p=P)
  (h:(bad||decide (am l p (P - p)≠0)||decide (L < P+16)||decide (L < min (P+16) L+16))=false) (h2:am l (min (P+16) L) 16=65535 - am l P 16) (h3:min (min (P+16) L+16) L / 8+am l P 16<=l.length):
  (out.length+am l P 16<=1048576->(if bad=true then none else cO l p out)=some (min (min (P+16) L+16) L+8*am l P 16,out++(l.drop (min (min (P+16) L+16) L / 8)).take (am l P 16)))/\
  (1048576 < out.length+am l P 16->(if bad=true then none else cO l p out)=none):=by
 subst hP;have h8:bq p % 8=0:=by unfold bq;omega
 simp only [Bool.or_eq_false_iff,decide_eq_false_iff_not,Nat.not_lt,ne_eq,Ya] at h;obtain ⟨⟨⟨rfl,a1⟩,a2⟩,a3⟩:=h;have e1:min (bq p+16) L=bq p+16:=by omega
 rw [e1] at h2 h3 a3 ⊢;have e2:min (bq p+16+16) L=bq p+32:=by omega
 rw [e2] at h3 ⊢;have e3:(bq p+32) / 8=bq p / 8+4:=by omega
 rw [e3] at h3 ⊢;rw [ZU (by decide)];constructor
 ·intro hh;have k2:bq p+32<=8*l.length:=by omega
  exact rc a1 k2 h2 h3 hh
 ·intro hh;exact eO (Zo (Zo (Zo (Zo hh))))
theorem eX (s:ByteArray) (a n:Nat):(s.extract a (a+n)).data.toList=(s.data.toList.drop a).take n:=by
 rw [YA,XZ];simp [List.extract]
def bF (l:List UInt8):Nat->Nat->List UInt8->Option (Nat×List UInt8)
 | 0,_,_=>none
 | f+1,p,out=>
  if 8*l.length < p+3 then none
  else match (if am l (p+1) 2=0 then cO l (p+3) out else if am l (p+1) 2=1 then bn l (8*l.length+1) (p+3) out else none) with
   | none=>none
   | some (q,o)=>if am l p 1=1 then some (q,o) else bF l f q o
def uK (l:List UInt8) (a:Nat):Nat:=256*(256*(256*(l.getD a 0).toNat+(l.getD (a+1) 0).toNat)+(l.getD (a+2) 0).toNat)+(l.getD (a+3) 0).toNat
def iI (l:List UInt8) (q:Nat) (o:List UInt8):Option (List UInt8×Nat):=
 if am l q (bq q - q)≠0 then none
 else if l.length < bq q / 8+4 then none
 else if uK l (bq q / 8)≠65536*(cB o (1,0)).2+(cB o (1,0)).1 then none
 else some (o,bq q / 8+4)
def cm (l:List UInt8):Bool:=decide (2<=l.length/\(l.getD 0 0).toNat=120/\(30720+(l.getD 1 0).toNat) % 31=0/\(l.getD 1 0).toNat / 32 % 2=0)
def bP (l:List UInt8):Option (List UInt8×Nat):=
 if cm l=true then (match bF l (8*l.length+1) 16 [] with
  | none=>none
  | some (q,o)=>iI l q o)
 else none
theorem rW {l:List UInt8} (h:bF l (8*l.length+1) 16 []=none):bP l=none:=by
 unfold bP;rw [h];split <;> rfl
theorem iM {l:List UInt8} {q:Nat} {o:List UInt8} (hh:cm l=true) (h:bF l (8*l.length+1) 16 []=some (q,o)):bP l=iI l q o:=by
 unfold bP;rw [ZO hh,h]
theorem qT {l:List UInt8} (hh:cm l=false):bP l=none:=by
 unfold bP;rw [ZU (by rw [hh];decide)]
def ie (l:List UInt8) (p:Nat) (out:List UInt8):Option (Nat×List UInt8):=
 if am l (p+1) 2=0 then cO l (p+3) out else if am l (p+1) 2=1 then bn l (8*l.length+1) (p+3) out else none
theorem u' {l:List UInt8} {p:Nat} {out:List UInt8} {q:Nat} {o:List UInt8} (h:cO l p out=some (q,o)):p<=q/\q<=8*l.length/\o.length<=1048576:=by
 have hu:p<=bq p/\bq p % 8=0:=by unfold bq;omega
 unfold cO at h;by_cases h1:am l p (bq p - p)≠0
 ·rw [ZO h1] at h;cases h
 rw [ZU h1] at h;by_cases h2:8*l.length < bq p+32
 ·rw [ZO h2] at h;cases h
 rw [ZU h2] at h;by_cases h3:am l (bq p+16) 16≠65535 - am l (bq p) 16
 ·rw [ZO h3] at h;cases h
 rw [ZU h3] at h;by_cases h4:l.length < bq p / 8+4+am l (bq p) 16
 ·rw [ZO h4] at h;cases h
 rw [ZU h4] at h;by_cases h5:1048576 < out.length+am l (bq p) 16
 ·rw [ZO h5] at h;cases h
 rw [ZU h5] at h;simp only [Yb,XB] at h;obtain ⟨rfl,rfl⟩:=h;refine ⟨by omega,by omega,?_⟩;rw [ZZ,Zx];omega
theorem ph {l:List UInt8} {p:Nat} {out:List UInt8} {q:Nat} {o:List UInt8} (h:ie l p out=some (q,o)) (ho:out.length<=1048576):p < q/\q<=8*l.length/\o.length<=1048576:=by
 unfold ie at h;by_cases h1:am l (p+1) 2=0
 ·rw [ZO h1] at h;have:=u' h;exact ⟨by omega,this.2⟩
 rw [ZU h1] at h;by_cases h2:am l (p+1) 2=1
 ·rw [ZO h2] at h;have:=rr h ho;exact ⟨by omega,this.2⟩
 rw [ZU h2] at h;cases h
theorem tQ {l:List UInt8} {q:Nat} {o:List UInt8} {L:Nat} {res:Option (Nat×List UInt8)} (hL:L=8*l.length) (hq:q<=L) (h:∃ f,L < q+f/\bF l f q o=res) (hb:L < q+3):res=none:=by
 obtain ⟨f,hf,rfl⟩:=h;obtain ⟨f,rfl⟩:∃ g,f=g+1:=⟨f - 1,by omega⟩;rw [bF,ZO (by omega)]
theorem rG {l:List UInt8} {q:Nat} {o:List UInt8} {L:Nat} {res:Option (Nat×List UInt8)} (hq:q<=L) (h:∃ f,L < q+f/\bF l f q o=res) (hb:ie l q o=none):res=none:=by
 obtain ⟨f,hf,rfl⟩:=h;obtain ⟨f,rfl⟩:∃ g,f=g+1:=⟨f - 1,by omega⟩;unfold ie at hb;rw [bF];by_cases h3:8*l.length < q+3
 ·rw [ZO h3]
 rw [ZU h3,hb]
theorem rv {l:List UInt8} {q:Nat} {o:List UInt8} {L:Nat} {res:Option (Nat×List UInt8)} {q':Nat} {o':List UInt8} (hL:L=8*l.length) (hq:q+3<=L) (h:∃ f,L < q+f/\bF l f q o=res) (hb:ie l q o=some (q',o')) (hl:am l q 1=1):res=some (q',o'):=by
 obtain ⟨f,hf,rfl⟩:=h;obtain ⟨f,rfl⟩:∃ g,f=g+1:=⟨f - 1,by omega⟩;unfold ie at hb;rw [bF,ZU (by omega),hb];show (if am l q 1=1 then some (q',o') else bF l f q' o')=_
 rw [ZO hl]
theorem wR {l:List UInt8} {q:Nat} {o:List UInt8} {L:Nat} {res:Option (Nat×List UInt8)} {q':Nat} {o':List UInt8} (hL:L=8*l.length) (hq:q+3<=L) (h:∃ f,L < q+f/\bF l f q o=res) (hb:ie l q o=some (q',o')) (hl:am l q 1≠1) (ho:o.length<=1048576):∃ f,L < q'+f/\bF l f q' o'=res:=by
 obtain ⟨f,hf,rfl⟩:=h;obtain ⟨f,rfl⟩:∃ g,f=g+1:=⟨f - 1,by omega⟩;have hlt:=(ph hb ho).1;refine ⟨f,by omega,?_⟩;unfold ie at hb;rw [bF,ZU (by omega),hb];show _=(if am l q 1=1 then some (q',o') else bF l f q' o')
 rw [ZU hl]
theorem vJ {l:List UInt8} {q:Nat} {o:List UInt8} (h:am l q (bq q - q)≠0\/l.length < bq q / 8+4\/uK l (bq q / 8)≠65536*(cB o (1,0)).2+(cB o (1,0)).1):iI l q o=none:=by
 unfold iI;by_cases h1:am l q (bq q - q)≠0
 ·rw [ZO h1]
 rw [ZU h1];by_cases h2:l.length < bq q / 8+4
 ·rw [ZO h2]
 rw [ZU h2];by_cases h3:uK l (bq q / 8)≠65536*(cB o (1,0)).2+(cB o (1,0)).1
 ·rw [ZO h3]
 ·exfalso;rcases h with h | h | h
  ·exact h1 h
  ·exact h2 h
  ·exact h3 h
theorem oU {l:List UInt8} {q:Nat} {o:List UInt8} (h1:am l q (bq q - q)=0) (h2:bq q / 8+4<=l.length) (h3:uK l (bq q / 8)=65536*(cB o (1,0)).2+(cB o (1,0)).1):iI l q o=some (o,bq q / 8+4):=by
 unfold iI;rw [ZU (by simpa using h1),ZU (by omega),ZU (by simpa using h3)]
end Pm
namespace Pm
theorem gY (a b:List UInt8):eB (a++b)=eB a+2 ^ (8*a.length)*eB b:=by
 induction a with
 | nil=>simp [eB]
 | cons c r ih=>
  simp only [Zy,eB,ZY,ih];rw [show 8*(r.length+1)=8+8*r.length from by omega,Ze,Yj];have:(2:Nat) ^ 8=256:=by decide
  rw [this,XL];omega
def xi (l:List UInt8) (N n:Nat):Prop:=n<=8*l.length/\eB l % 2 ^ n=N
theorem xi.split {l:List UInt8} {N n v k:Nat} (hN:N < 2 ^ n) (hv:v < 2 ^ k) (h:xi l (N+v*2 ^ n) (n+k)):xi l N n/\am l n k=v:=by
 obtain ⟨h1,h2⟩:=h;rw [Ze,Nat.mod_mul] at h2;have e1:eB l % 2 ^ n < 2 ^ n:=Yl _ (YH n);have h3:eB l % 2 ^ n+2 ^ n*(eB l / 2 ^ n % 2 ^ k)=N+2 ^ n*v:=by rw [h2,XX v]
 have h4:eB l % 2 ^ n=N:=by
  have:=congrArg (· % 2 ^ n) h3;simp only [Nat.add_mul_mod_self_left] at this;rw [XF e1,XF hN] at this;exact this
 have h5:eB l / 2 ^ n % 2 ^ k=v:=by
  have h6:2 ^ n*(eB l / 2 ^ n % 2 ^ k)=2 ^ n*v:=by omega
  exact Nat.eq_of_mul_eq_mul_left (YH n) h6
 exact ⟨⟨by omega,h4⟩,h5⟩
theorem dk {N n v k:Nat} (hN:N < 2 ^ n) (hv:v < 2 ^ k):N+v*2 ^ n < 2 ^ (n+k):=by
 rw [Ze,XX (2 ^ n)];have h1:(v+1)*2 ^ n<=2 ^ k*2 ^ n:=Nat.mul_le_mul_right _ hv;rw [Nat.succ_mul] at h1;omega
theorem je:∀ k:Nat,k < 10->∀ v:Nat,v < 512->v < 2 ^ k->ee k (ee k v)=v/\ee k v < 2 ^ k:=by decide+kernel
def aI (c:Nat):Nat×Nat:=
 if c < 144 then (48+c,8) else if c < 256 then (400+c - 144,9) else if c < 280 then (c - 256,7) else (192+c - 280,8)
def AS (x:Nat):Nat×Nat:=
 if ee 7 x<=23 then (256+ee 7 x,7)
 else if 2*ee 7 x+x / 2 ^ 7 % 2<=191 then (2*ee 7 x+x / 2 ^ 7 % 2 - 48,8)
 else if 2*ee 7 x+x / 2 ^ 7 % 2<=199 then (2*ee 7 x+x / 2 ^ 7 % 2+88,8)
 else (2*(2*ee 7 x+x / 2 ^ 7 % 2)+x / 2 ^ 8 % 2 - 256,9)
theorem Ba (l:List UInt8) (p:Nat):bC l p=AS (am l p 9):=by
 unfold bC AS;rw [jh l p 9 7 (by decide),jU l p 9 7 (by decide),jU l p 9 8 (by decide)]
theorem yL:∀ c:Nat,c < 288->∀ r:Nat,r < 4->r < 2 ^ (9 - (aI c).2)->AS (ee (aI c).2 (aI c).1+2 ^ (aI c).2*r)=(c,(aI c).2):=by decide+kernel
theorem dY:∀ c:Nat,c < 288->(aI c).1 < 2 ^ (aI c).2/\(aI c).1 < 512/\7<=(aI c).2/\(aI c).2<=9:=by decide+kernel
theorem pM {l:List UInt8} {p c:Nat} (hc:c < 288) (h:am l p (aI c).2=ee (aI c).2 (aI c).1):bC l p=(c,(aI c).2):=by
 have hw:=dY c hc;rw [Ba];have e:9=(aI c).2+(9 - (aI c).2):=by omega
 rw [e,gh,h];have hr:=cJ l (p+(aI c).2) (9 - (aI c).2);have h4:2 ^ (9 - (aI c).2)<=2 ^ 2:=YX (by decide) (by omega);exact yL c hc _ (by
  have:(2:Nat) ^ 2=4:=by decide
  omega) hr
def bl:Nat->Nat->Nat
 | 0,_=>0
 | f+1,m=>if m=0 then 0 else bl f (m / 2)+1
def bN (n:Nat):Nat×Nat×Nat:=
 if n=258 then (285,0,0) else if n - 3 < 8 then (257+(n - 3),0,0)
 else (257+4*(bl 16 (n - 3) - 3)+(n - 3) / 2 ^ (bl 16 (n - 3) - 3),(n - 3) % 2 ^ (bl 16 (n - 3) - 3),bl 16 (n - 3) - 3)
def bB (d:Nat):Nat×Nat×Nat:=
 if d - 1 < 4 then (d - 1,0,0)
 else (2*(bl 16 (d - 1) - 2)+(d - 1) / 2 ^ (bl 16 (d - 1) - 2),(d - 1) % 2 ^ (bl 16 (d - 1) - 2),bl 16 (d - 1) - 2)
theorem j_:∀ n:Nat,n < 259->3<=n->257<=(bN n).1/\(bN n).1<=285/\(bN n).2.2=al (bN n).1/\(bN n).2.1 < 2 ^ (bN n).2.2/\a_ (bN n).1+(bN n).2.1=n/\¬ (258<=n/\(bN n).1≠285):=by decide+kernel
theorem xe:∀ a:Nat,a < 256->∀ b:Nat,b < 128->(bB (128*a+b+1)).1<=29/\(bB (128*a+b+1)).2.2=aH (bB (128*a+b+1)).1/\(bB (128*a+b+1)).2.1 < 2 ^ (bB (128*a+b+1)).2.2/\bD (bB (128*a+b+1)).1+(bB (128*a+b+1)).2.1=128*a+b+1:=by decide+kernel
theorem iN (d:Nat) (h:d < 32769) (h1:1<=d):(bB d).1<=29/\(bB d).2.2=aH (bB d).1/\(bB d).2.1 < 2 ^ (bB d).2.2/\bD (bB d).1+(bB d).2.1=d:=by
 have:=xe ((d - 1) / 128) (by omega) ((d - 1) % 128) (by omega);have e:128*((d - 1) / 128)+(d - 1) % 128+1=d:=by omega
 rwa [e] at this
end Pm
namespace Pm
def Reach (l:List UInt8) (p:Nat) (o:List UInt8) (p':Nat) (o':List UInt8):Prop:=∃ k,∀ f,bn l (f+k) p o=bn l f p' o'
theorem Reach.refl (l:List UInt8) (p:Nat) (o:List UInt8):Reach l p o p o:=⟨0,fun _=>rfl⟩
theorem Reach.trans {l:List UInt8} {p p' p'':Nat} {o o' o'':List UInt8} (h:Reach l p o p' o') (g:Reach l p' o' p'' o''):Reach l p o p'' o'':=by
 obtain ⟨k,hk⟩:=h;obtain ⟨j,hj⟩:=g;refine ⟨j+k,fun f=>?_⟩;rw [<-Zn,hk,hj]
theorem Reach.step {l:List UInt8} {p q:Nat} {o o':List UInt8} (h:cY l p o=some (false,q,o')):Reach l p o q o':=by
 refine ⟨1,fun f=>?_⟩;rw [bn,h]
def sg (N n:Nat) (o:List UInt8):Prop:=N < 2 ^ n/\∀ l,xi l N n->Reach l 19 [] n o
def sb (c:Nat):Nat:=ee (aI c).2 (aI c).1
theorem oV (c:Nat) (hc:c < 288):sb c < 2 ^ (aI c).2:=by
 have h:=dY c hc;exact (je (aI c).2 (by omega) (aI c).1 h.2.1 h.1).2
theorem sg.lit {N n:Nat} {o:List UInt8} (h:sg N n o) (c:UInt8) (ho:o.length+1<=1048576):sg (N+sb c.toNat*2 ^ n) (n+(aI c.toNat).2) (o++[c]):=by
 have hc:c.toNat < 256:=c.toNat_lt;have hlt:=oV c.toNat (by omega);refine ⟨dk h.1 hlt,fun l hp=>?_⟩;have hle:=hp.1;obtain ⟨h1,h2⟩:=hp.split h.1 hlt;have hs:=pM (c:=c.toNat) (by omega) h2;refine (h.2 l h1).trans (Reach.step ?_);have hst:=mC (l:=l) (p:=n) (out:=o) (by rw [hs];exact hle) (by rw [hs];exact hc) ho;rw [hst,hs];have e:UInt8.ofNat c.toNat=c:=by simp
 simp only [e]
def mw (n d:Nat):Nat:=(aI (bN n).1).2+(bN n).2.2+5+(bB d).2.2
def mv (n d:Nat):Nat:=sb (bN n).1+((bN n).2.1+(ee 5 (bB d).1+(bB d).2.1*2 ^ 5)*2 ^ (bN n).2.2)*2 ^ (aI (bN n).1).2
theorem sg.again {N n:Nat} {o:List UInt8} (h:sg N n o) (k d:Nat) (hk:3<=k/\k<=258) (hd:1<=d/\d<=32768) (hdo:d<=o.length) (ho:o.length+k<=1048576):
  sg (((N+sb (bN k).1*2 ^ n+(bN k).2.1*2 ^ (n+(aI (bN k).1).2))+ee 5 (bB d).1*2 ^ (n+(aI (bN k).1).2+(bN k).2.2))+(bB d).2.1*2 ^ (n+(aI (bN k).1).2+(bN k).2.2+5))
   (n+(aI (bN k).1).2+(bN k).2.2+5+(bB d).2.2) (eQ o d k):=by
 obtain ⟨l1,l2,l3,l4,l5,l6⟩:=j_ k (by omega) hk.1;obtain ⟨d1,d2,d3,d4⟩:=iN d (by omega) hd.1;generalize (bN k).1=c at*;generalize (bN k).2.1=m at*;generalize (bN k).2.2=w at*;generalize (bB d).1=dc at*;generalize (bB d).2.1=dm at*;generalize (bB d).2.2=dw at*;have a1:=oV c (by omega);have h32:dc < 2 ^ 5:=XP d1 (by decide);have a2:ee 5 dc < 2 ^ 5:=(je 5 (by omega) dc (by omega) h32).2;have hr5:=(je 5 (by omega) dc (by omega) h32).1;have g1:=dk h.1 a1;have g2:=dk g1 l4;have g3:=dk g2 a2;have g4:=dk g3 d3;refine ⟨g4,fun l hp=>?_⟩;have hle:=hp.1;obtain ⟨p3,v4⟩:=hp.split g3 d3;obtain ⟨p2,v3⟩:=p3.split g2 a2;obtain ⟨p1,v2⟩:=p2.split g1 l4;obtain ⟨p0,v1⟩:=p1.split h.1 a1;have hs:=pM (c:=c) (by omega) v1;have hh:aR l (n+(aI c).2+w) 5=dc:=by
  rw [jh l _ 5 5 (by omega),v3,hr5]
 have v2':am l (n+(aI c).2) (al c)=m:=by rw [<-l3];exact v2
 have v4':am l (n+(aI c).2+al c+5) (aH dc)=dm:=by rw [<-l3, <-d2];exact v4
 have hh':aR l (n+(aI c).2+al c) 5=dc:=by rw [<-l3];exact hh
 have ha:=po (l:=l) (q:=n+(aI c).2) (c:=c) (out:=o) l2 (by omega) (by rw [v2',l5];exact l6) (by rw [v2',l5];exact ho) (by omega) (by rw [hh'];exact d1) (by rw [hh', <-d2];omega) (by rw [hh',v4',d4];exact hdo);rw [hh',v4',v2',d4,l5] at ha;refine (h.2 l p0).trans (Reach.step ?_);have hst:=lk (l:=l) (p:=n) (out:=o) (by rw [hs];show n+(aI c).2<=_;omega) (by rw [hs];show 256 < c;omega) (r:=(_,_)) (by rw [hs];exact ha);rw [hst];simp only [l3,d2]
theorem sg.start:sg (120+1*2 ^ 8+1*2 ^ 16+1*2 ^ 17) 19 []:=⟨by decide,fun l _=>Reach.refl l 19 []⟩
end Pm
structure BW (w:World) (P base:Nat) (vf:Value) (F:List UInt8) (H n:Nat):Prop where
 c1:w.cell? (zq P 1)=some vf
 c2:w.cell? (zq P 2)=some (.int .u32 H)
 c3:w.cell? (zq P 3)=n
 f1:w.frozen? (zq P 1)=false
 f2:w.frozen? (zq P 2)=false
 f3:w.frozen? (zq P 3)=false
 own:w.ownsRow base 5 1 vf F.length (bo F)
 ne:vf.ownBlock≠some P
 hb:base<=w.heap.size
 hH:H < 2 ^ n
structure cd (P:Nat) (vf:Value) (w:World) (vf':Value) (w':World):Prop where
 os:w'.os=w.os
 tape:w'.tape=w.tape
 output:w'.output=w.output
 size:w.heap.size<=w'.heap.size
 keep:∀ k,k < w.heap.size->k≠P->some k≠vf.ownBlock->w'.heap[k]? =w.heap[k]?
 cell:∀ o,o≠1->o≠2->o≠3->w'.cell? (zq P o)=w.cell? (zq P o)
 frz:∀ o,w'.frozen? (zq P o)=w.frozen? (zq P o)
 blk:vf'.ownBlock=vf.ownBlock\/∃ g,vf'.ownBlock=some g/\w.heap.size<=g
theorem cd.refl (P:Nat) (vf:Value) (w:World):cd P vf w vf w:=⟨rfl,rfl,rfl,ZX _,fun _ _ _ _=>rfl,fun _ _ _ _=>rfl,fun _=>rfl,Zg rfl⟩
theorem cd.trans {P:Nat} {v0 v1 v2:Value} {w0 w1 w2:World} (h:cd P v0 w0 v1 w1) (g:cd P v1 w1 v2 w2):cd P v0 w0 v2 w2:=by
 refine ⟨g.os.trans h.os,g.tape.trans h.tape,g.output.trans h.output,ZN h.size g.size,?_,fun o a b c=>(g.cell o a b c).trans (h.cell o a b c),fun o=>(g.frz o).trans (h.frz o),?_⟩
 ·intro k hk hP hv;have h2:some k≠v1.ownBlock:=by
   rcases h.blk with e | ⟨x,e,hx⟩
   ·rw [e];exact hv
   ·rw [e];intro hh;cases hh;omega
  exact (g.keep k (ZR hk h.size) hP h2).trans (h.keep k hk hP hv)
 ·rcases g.blk with e | ⟨x,e,hx⟩
  ·rcases h.blk with e2 | ⟨y,e2,hy⟩
   ·exact Zg (e.trans e2)
   ·exact Zo ⟨y,e.trans e2,hy⟩
  ·exact Zo ⟨x,e,ZN h.size hx⟩
theorem cd.setCell {P:Nat} {v0 v1:Value} {w0 w1:World} (h:cd P v0 w0 v1 w1) (o:Nat) (x:Value) (ho:o=1\/o=2\/o=3):cd P v0 w0 v1 (w1.setCell (zq P o) x):=by
 refine ⟨h.os,h.tape,h.output,by have:=h.size;simpa [World.setCell] using this,?_,?_,?_,h.blk⟩
 ·intro k hk hP hv;rw [YP _ _ _ _ hP];exact h.keep k hk hP hv
 ·intro k a b c;rw [ZT _ _ _ _ (by intro e;cases e;omega)];exact h.cell k a b c
 ·intro k;rw [ZG];exact h.frz k
theorem cd.drew {P:Nat} {v0 v1:Value} {w0 w1:World} (h:cd P v0 w0 v1 w1):cd P v0 w0 v1 w1.drew:=⟨h.os,h.tape,h.output,h.size,h.keep,h.cell,h.frz,h.blk⟩
theorem cd.drewN {P:Nat} {v0 v1:Value} {w0 w1:World} (h:cd P v0 w0 v1 w1) (n:Nat):cd P v0 w0 v1 (w1.drewN n):=⟨h.os,h.tape,h.output,h.size,h.keep,h.cell,h.frz,h.blk⟩
theorem rV (w:World) (t ty:TypeId) (ht:Tryz.prog.underlying t=some (.slice 5)) {base:Nat} {v:Value} {out:List UInt8} (h:w.ownsRow base 5 1 v out.length (bo out)) (hb:base<=w.heap.size)
  (ad:Addr) (m:Nat) (c:UInt8) (hc:w.cell? ad=some (.int .u8 (c.toNat:Nat))) (hs:ad.spot=none) (hl:out.length+1<=100000000):
  ∃ v' w',(Builtin.append_ #[t,t] ty #[v,.slice (some ad) 1 m]).run prog w=.ok v' w'/\w'.ownsRow base 5 1 v' (out++[c]).length (bo (out++[c]))/\w.grownBy w' v.ownBlock/\(v'.ownBlock=v.ownBlock\/v'.ownBlock=some w.heap.size):=by
 obtain ⟨i0,hi,hz0,hz1,hz2⟩:=Xn Tryz.info5;obtain ⟨v',w',hr,ho,hg,_,hat⟩:=run_append_own_at (P:=prog) w base t ty 5 i0 (.int .u8 0) 1 1 ht hi hz0 hz1 hz2 rfl (by decide) v out.length (bo out) h ad 1 m [.int .u8 (c.toNat:Nat)] rfl
  (by
   intro j u hj
   match j,hj with
   | 0,hj=>
    simp at hj;subst hj;have e:ad.add 0=ad:=by unfold Addr.add;split <;> simp_all
    rw [e];exact hc
   | (j+1),hj=>simp at hj)
  (by intro u hu;simp at hu;subst hu;rfl) (by unfold maxLen;omega) (by omega) hb
 refine ⟨v',w',hr,?_,hg,hat⟩;rw [eV,ZZ];exact ho
theorem pr {ops:Array Oper} {o:Oper} {a:Act} {w:World} {K:Act->World->Prop} {Q:Exit->Act->World->Prop} {E:Prop} (hgd:o.guard=none) (sl x:Operand) (t:TypeId)
  (ho:o.op=.call {callee:=.builtin .append,args:=#[sl,x],argTypes:=#[t,t]}) (ht:Tryz.prog.underlying t=some (.slice 5))
  (base:Nat) (v:Value) (out:List UInt8) (hs:a.eval sl=v) (h:w.ownsRow base 5 1 v out.length (bo out)) (hb:base<=w.heap.size) (ad:Addr) (m:Nat) (hx:a.eval x=.slice (some ad) 1 m) (c:UInt8) (hc:w.cell? ad=some (.int .u8 (c.toNat:Nat))) (hsp:ad.spot=none)
  (hl:out.length+1<=100000000)
  (hk:∀ v' w',w'.ownsRow base 5 1 v' (out++[c]).length (bo (out++[c]))->w.grownBy w' v.ownBlock->(v'.ownBlock=v.ownBlock\/v'.ownBlock=some w.heap.size)->K (a.put o.dst v') w'):
  if Region.wanted o (yielded ops a.tmps)=true then Oper.wp prog o a w K Q else E:=by
 have hw:Region.wanted o (yielded ops a.tmps)=true:=by simp [Region.wanted,hgd]
 rw [ZO hw];obtain ⟨v',w',hr,h2,h3,h4⟩:=rV w t o.type ht h hb ad m c hc hsp hl;unfold Oper.wp execOp;simp only [ho,resolve,invoke,builtin,Xt,Xu,Yc,XU,YC,XT,hs,hx,hr];exact hk v' w' h2 h3 h4
theorem A8 (H v n:Nat) (hH:H < 2 ^ n) (hv:v < 65536) (hn:n < 8):bits BinOp.or IntKind.u32 (H:Int) ((v:Int)*2 ^ n % 4294967296)=((H+v*2 ^ n:Nat):Int):=by
 have hF:2 ^ n<=128:=ZN (YX (by decide) (show n<=7 by omega)) (by decide);have hP:v*2 ^ n < 8388608:=by
  have:v*2 ^ n<=65535*128:=XJ (by omega) hF;omega
 have e1:(v:Int)*2 ^ n % 4294967296=((v*2 ^ n:Nat):Int):=by
  have e2:(v:Int)*2 ^ n=((v*2 ^ n:Nat):Int):=by push_cast;rfl
  rw [e2];omega
 rw [e1,u32_or_nat _ _ (by omega) (by omega),Nat.or_comm,nat_join n _ _ (Nat.mul_mod_left _ _) hH];congr 1;omega
def dt (F:List UInt8) (H:Nat):Nat:=Pm.eB F+H*2 ^ (8*F.length)
theorem vD (F:List UInt8) (H:Nat) (c:UInt8) (hc:c.toNat=H % 256):dt (F++[c]) (H / 256)=dt F H:=by
 unfold dt;rw [Pm.gY];simp only [Pm.eB,ZZ,Yn,Nat.mul_zero,Yp,hc];rw [show 8*(F.length+1)=8*F.length+8 from by omega,Ze];have e8:(2:Nat) ^ 8=256:=by decide
 rw [e8];have hd:=Nat.div_add_mod H 256;have key:2 ^ (8*F.length)*(H % 256)+H / 256*(2 ^ (8*F.length)*256)=H*2 ^ (8*F.length):=by
  refine Eq.trans (b:=(256*(H / 256)+H % 256)*2 ^ (8*F.length)) ?_ (by rw [hd]);rw [Nat.add_mul,XX (2 ^ (8*F.length)) (H % 256),XX 256 (H / 256),Yj,XX 256 (2 ^ (8*F.length)),Nat.add_comm]
 omega
theorem BW.drewN {w:World} {P base:Nat} {vf:Value} {F:List UInt8} {H n:Nat} (h:BW w P base vf F H n) (q:Nat):BW (w.drewN q) P base vf F H n:=⟨h.c1,h.c2,h.c3,h.f1,h.f2,h.f3,h.own,h.ne,h.hb,h.hH⟩
theorem BW.drew {w:World} {P base:Nat} {vf:Value} {F:List UInt8} {H n:Nat} (h:BW w P base vf F H n):BW w.drew P base vf F H n:=⟨h.c1,h.c2,h.c3,h.f1,h.f2,h.f3,h.own,h.ne,h.hb,h.hH⟩
theorem cr {w:World} {P base:Nat} {v:Value} {n:Nat} {e:TypeId} {xs:List Value} (h:w.ownsRow base e 1 v n xs) (ne:v.ownBlock≠some P) (o:Nat) (x:Value):(w.setCell (zq P o) x).ownsRow base e 1 v n xs:=
 h.kept (bT.setCell (bT.refl P w) o x) (Zo ne)
theorem BW.bits {w:World} {P base:Nat} {vf:Value} {F:List UInt8} {H n:Nat} (h:BW w P base vf F H n) (H' n':Nat) {z y:Value} (hH:H' < 2 ^ n') (hz:z=.int .u32 H') (hy:y=.int .i64 n'):
  BW ((w.setCell (zq P 2) z).setCell (zq P 3) y) P base vf F H' n':=by
 subst hz hy;refine ⟨?_,?_,?_,?_,?_,?_,cr (cr h.own h.ne _ _) h.ne _ _,h.ne,by have:=h.hb;simpa [World.setCell] using this,hH⟩
 ·rw [ZT _ _ _ _ (by simp),ZT _ _ _ _ (by simp)];exact h.c1
 ·rw [ZT _ _ _ _ (by simp)];exact ZA _ _ _ h.c2
 ·exact ZA (u:=.int .i64 n) _ _ _ (by rw [ZT _ _ _ _ (by simp)];exact h.c3)
 ·rw [ZG,ZG];exact h.f1
 ·rw [ZG,ZG];exact h.f2
 ·rw [ZG,ZG];exact h.f3
theorem BW.byte {w w':World} {P base:Nat} {vf v':Value} {F F':List UInt8} {H n:Nat} (h:BW w P base vf F H n) (hP:P < w.heap.size) (hk:w.grownBy w' vf.ownBlock) (ho:w'.ownsRow base 5 1 v' F'.length (bo F')) (hat:v'.ownBlock=vf.ownBlock\/∃ g,v'.ownBlock=some g/\w.heap.size<=g):
  BW (w'.setCell (zq P 1) v') P base v' F' H n/\cd P vf w v' (w'.setCell (zq P 1) v'):=by
 have hblk:w'.heap[P]? =w.heap[P]? :=hk.block P hP (fun e=>h.ne e.symm);have hcell:∀ o,w'.cell? (zq P o)=w.cell? (zq P o):=fun o=>ZS (a:=zq P o) hblk
 have hfrz:∀ o,w'.frozen? (zq P o)=w.frozen? (zq P o):=fun o=>ZJ (a:=zq P o) hblk
 have hne:v'.ownBlock≠some P:=by
  rcases hat with e | ⟨g,e,hg⟩
  ·rw [e];exact h.ne
  ·rw [e];intro hh;cases hh;omega
 constructor
 ·refine ⟨ZA _ _ _ ((hcell 1).trans h.c1),?_,?_,?_,?_,?_,cr ho hne _ _,hne,?_,h.hH⟩
  ·rw [ZT _ _ _ _ (by simp)];exact (hcell 2).trans h.c2
  ·rw [ZT _ _ _ _ (by simp)];exact (hcell 3).trans h.c3
  ·rw [ZG];exact (hfrz 1).trans h.f1
  ·rw [ZG];exact (hfrz 2).trans h.f2
  ·rw [ZG];exact (hfrz 3).trans h.f3
  ·have h1:=h.hb;have h2:=hk.size;simp [World.setCell];omega
 ·refine cd.setCell ⟨hk.os,hk.tape,hk.output,hk.size,fun k h1 _ h3=>hk.block k h1 h3,fun o _ _ _=>hcell o,hfrz,hat⟩ 1 v' (Zg rfl)
theorem du {u v w:World} {row:Option Nat} (h:u.grownBy v row) (k:v.grownBy w row):u.grownBy w row:=
 ⟨k.os.trans h.os,k.tape.trans h.tape,k.output.trans h.output,ZN h.size k.size,fun i hi hn=>(k.block i (ZR hi h.size) hn).trans (h.block i hi hn)⟩
theorem mN (w:World) (row:Option Nat):w.grownBy w.drew row:=⟨rfl,rfl,rfl,ZX _,fun _ _ _=>rfl⟩
theorem wV (w:World) (v:Value) (t:TypeId):(w.alloc (.cells #[v] t)).cell? w=some v:=by simp
theorem eU (w:World) (P base:Nat) (vf:Value) (F:List UInt8) (H n v k:Nat) (h:BW w P base vf F H n) (hP:P < w.heap.size) (hn:n < 8) (hv:v < 2 ^ k) (hk:k<=16) (hF:F.length<=50000000):
  CP 196 #[zq P 1,v,k] w fun e w'=>e=.returned (.tuple #[])/\∃ vf' F' H' n',BW w' P base vf' F' H' n'/\n' < 8/\dt F' H'=dt F H+v*2 ^ (8*F.length+n)/\8*F'.length+n'=8*F.length+n+k/\cd P vf w vf' w':=by
 have hv16:v < 65536:=ZR hv (ZN (YX (by decide) hk) (by decide));have HOr:=aa (A8 H v n h.hH hv16 hn);have hG:=Pm.dk h.hH hv;have HBW:=aa (fun (z y:Value) hz hy=>h.bits (H+v*2 ^ n) (n+k) (z:=z) (y:=y) hG hz hy);have HST:Hid (dt F (H+v*2 ^ n)=dt F H+v*2 ^ (8*F.length+n)):=by
  show _=_
  unfold dt;rw [Nat.add_mul,Yj, <-Ze,Nat.add_comm n,Zn]
 have c1:=h.c1;have c2:=h.c2;have c3:=h.c3;have f2:=h.f2;have f3:=h.f3;clear hG hv;go_enter func196,ntmps196
 go_wp2;go_region
 go_wp2;go_loopg [32] 30 (fun g _ wr=>∃ u G A m,BW wr P base u G A m/\m<=23/\dt G A=dt F (H+v*2 ^ n)/\8*G.length+m=8*F.length+n+k/\cd P vf w u wr/\m < g)
 case atStart=>
  refine ⟨vf,F,H+v*2 ^ n,n+k,(HBW.out _ _ (by rw [HOr.out]) (by go_num)).drew,by omega,rfl,by omega,?_,by omega⟩;exact (((cd.refl P vf w).setCell 2 _ (by omega)).setCell 3 _ (by omega)).drew
 case round=>
  clear HBW HOr c1 c2 c3 f2 f3 h;obtain ⟨u,G,A,m,hB,hm,hS,hT,hFr,hg⟩:=hrel;have c1:=hB.c1;have c2:=hB.c2;have c3:=hB.c3;have f1:=hB.f1;have f2:=hB.f2;have f3:=hB.f3;have HS:=aa hS;clear hS;by_cases h8:8<=m
  ·have hPr:P < wr.heap.size:=ZR hP hFr.size;have hA:=hB.hH;have hA2:A < 16777216:=ZR hA (ZN (YX (by decide) (show m<=24 by omega)) (by decide));have hA3:A / 256 < 2 ^ (m - 8):=by
    have e:2 ^ m=2 ^ (m - 8)*256:=by
     rw [show (256:Nat)=2 ^ 8 from by decide, <-Ze];congr 1;omega
    rw [e] at hA;omega
   have hub:(UInt8.ofNat A).toNat=A % 256:=by simp
   have HSt:=aa (vD G A (UInt8.ofNat A) hub);have HCell:Hid ((wr.drew.alloc (.cells #[.int .u8 ((A:Int) % 256)] 5)).cell? wr=some (.int .u8 ((UInt8.ofNat A).toNat:Nat))):=by
    have e:((UInt8.ofNat A).toNat:Int)=(A:Int) % 256:=by rw [hub];omega
    show _=_
    rw [e];exact wV wr.drew _ _
   have hOd:=hB.own.drew.alloc (.cells #[.int .u8 ((A:Int) % 256)] 5);have HGr:=aa (du (mN wr u.ownBlock) (World.grownBy_alloc wr.drew (.cells #[.int .u8 ((A:Int) % 256)] 5) u.ownBlock));have hbd:base<=(wr.drew.alloc (.cells #[.int .u8 ((A:Int) % 256)] 5)).heap.size:=by have:=hB.hb;simp;omega
   have HBd:=aa hbd;have c1a:∀ ob:Obj,(wr.alloc ob).cell? (zq P 1)=some u:=fun ob=>(((ZV (P+1) wr).alloc hPr ob).cell (p:=zq P 1) (YW P)).trans c1
   have hGl:G.length<=60000000:=by omega
   clear hub hA hbd;obtain ⟨adu,capu,hform⟩:∃ ad cap,u=.slice ad G.length cap:=by
    rcases hB.own.2 with ⟨hu,hz⟩ | ⟨gg,cap,cur,hu,_⟩
    ·exact ⟨none,0,by rw [hu,hz]⟩
    ·exact ⟨_,_,hu⟩
   subst hform;go_wp2;go_region_law ((refine pr rfl (.tmp 37) (.tmp 43) 66 rfl underlying66 base _ G (by simp [Act.eval,Act.put]) hOd HBd.out ⟨wr,0,none⟩ 1 (by simp [Act.eval,Act.put]) (UInt8.ofNat A) HCell.out rfl (by omega) ?_;intro v7 w7 hO7 hg7 hat7;have hform7:∃ ad L cap,v7=.slice ad L cap:=(by rcases hO7.2 with ⟨hu,_⟩ | ⟨gg,cap,cur,hu,_⟩;exact ⟨_,_,_,hu⟩;exact ⟨_,_,_,hu⟩);obtain ⟨ad7,L7,cap7,hv7⟩:=hform7;rw [hv7] at hO7 hat7 ⊢;clear hv7;have kb:=(du HGr.out hg7).block P hPr (fun e=>hB.ne e.symm);have k1:=(ZS (a:=zq P 1) kb).trans c1;have k2:=(ZS (a:=zq P 2) kb).trans c2;have k3:=(ZS (a:=zq P 3) kb).trans c3;have kf1:=(ZJ (a:=zq P 1) kb).trans f1;have kf2:=(ZJ (a:=zq P 2) kb).trans f2;have kf3:=(ZJ (a:=zq P 3) kb).trans f3))
   all_goals
    have hby:=hB.byte hPr (du HGr.out hg7) hO7 (by
     rcases hat7 with e | e
     ·exact Zg e
     ·exact Zo ⟨_,e,by simp⟩)
    have HBy:=aa hby;clear hby hO7 hg7 hat7;go_wp2;go_roundg (gk - 1)
    case measure=>omega
    case rel=>
     refine ⟨_,G++[UInt8.ofNat A],A / 256,m - 8,HBy.out.1.bits (A / 256) (m - 8) hA3 (by simp) (by go_num),by omega,HSt.out.trans HS.out,by simp;omega,?_,by omega⟩;exact ((hFr.trans HBy.out.2).setCell 2 _ (by omega)).setCell 3 _ (by omega)
  ·go_wp2;go_end0;exact ⟨rfl,u,G,A,m,hB,by omega,HS.out.trans HST.out,hT,hFr⟩
theorem pW {a b c d:Int} (h:a=b) (g:c=d):Ending.returned (.tuple #[a,c])=.returned (.tuple #[b,d]):=by rw [h,g]
theorem v_:∀ x:Nat,x < 512->bits BinOp.or IntKind.u16 (IntKind.u16.wrap (Lib.rev8 ((x:Int) / 256))) (IntKind.u16.wrap (IntKind.u16.wrap (Lib.rev8 ((x:Int) % 256))*256))=((Pm.ee 16 x:Nat):Int):=by decide+kernel
theorem z_:∀ k:Nat,k < 10->∀ x:Nat,x < 512->x < 2 ^ k->Pm.ee 16 x / 2 ^ (16 - k)=Pm.ee k x/\Pm.ee 16 x < 65536:=by decide+kernel
theorem nZ (w:World) (x:Nat) (hx:x < 512):
  CP 301 #[.int .u16 x] w fun e w'=>e=.returned (.int .u16 (Pm.ee 16 x:Nat))/\∃ n,w'=w.drewN n:=by
 have e1:bits BinOp.and IntKind.u16 (x:Int) 255=(x:Int) % 256:=by
  have:=u16_and_nat x 255 (by omega) (by omega);rw [nat_mask8] at this;simpa using this
 have h1:0<=(x:Int) / 256:=by omega
 have h2:(x:Int) / 256<=255:=by omega
 have h3:0<=(x:Int) % 256:=by omega
 have h4:(x:Int) % 256<=255:=by omega
 go_enter func301,ntmps301
 go_wp2;go_quiet (fail)
 go_wp2;go_ret;exact ⟨bI (v_ x hx),_,rfl⟩
theorem oA (w:World) (v k:Nat) (hk:k < 10) (hv:v < 2 ^ k):
  CP 267 #[v,k] w fun e w'=>e=.returned (Pm.ee k v:Nat)/\∃ n,w'=w.drewN n:=by
 have hv5:v < 512:=ZR hv (ZN (YX (by decide) (show k<=9 by omega)) (by decide));have HC:=aa (z_ k hk v hv5 hv);have hlt:=HC.out.2;clear hv;go_enter func267,ntmps267
 go_wp2_with fail
 refine (nZ w v hv5).mono ?_;rintro e w1 ⟨rfl,n,rfl⟩;generalize hR:Pm.ee 16 v=R at*;clear hR;go_wp2;go_ret;refine ⟨bI ?_,_,rfl⟩;have e1:(R:Int) / 2 ^ (16 - k)=((R / 2 ^ (16 - k):Nat):Int):=by push_cast;rfl
 have h2:R / 2 ^ (16 - k)<=R:=Nat.div_le_self _ _;have h3:=HC.out.1;rw [e1];generalize R / 2 ^ (16 - k)=D at*;rw [YS _ (by omega),h3]
theorem eA (f m:Nat) (h:m≠0):Pm.bl (f+1) m=Pm.bl f (m / 2)+1:=by rw [Pm.bl,ZU h]
theorem BN:∀ a:Nat,a < 256->Pm.bl 8 a=Pm.bl 16 a:=by decide+kernel
theorem A5 (x:Nat) (h:256<=x) (h2:x < 65536):Pm.bl 16 x=Pm.bl 16 (x / 256)+8:=by
 rw [eA 15 x (by omega),eA 14 _ (by omega),eA 13 _ (by omega),eA 12 _ (by omega),eA 11 _ (by omega),eA 10 _ (by omega),eA 9 _ (by omega),eA 8 _ (by omega)];have e:x / 2 / 2 / 2 / 2 / 2 / 2 / 2 / 2=x / 256:=by omega
 rw [e,BN _ (by omega)]
theorem uD:∀ x:Nat,x < 256->Lib.len8 (x:Int)=((Pm.bl 16 x:Nat):Int):=by decide+kernel
theorem Ar:∀ x:Nat,x < 256->Pm.bl 16 x<=8:=by decide+kernel
theorem xw (w:World) (X:Int) (B:Nat) (h0:0<=X) (h1:X<=255) (HL:Hid (Lib.len8 X=(B:Int))) (hB:B<=8):
  QE 272 #[.int .u64 X] w B:=by
 have g1:¬ (4294967296:Int)<=X:=by omega
 have g2:¬ (65536:Int)<=X:=by omega
 have g3:¬ (256:Int)<=X:=by omega
 go_enter func272,ntmps272
 go_wp2;go_ret;refine ⟨bI ?_,rfl⟩;rw [HL.out];rw [YS (B:Int) (by omega),YS (B:Int) (by omega)]
theorem xo (w:World) (X:Int) (B:Nat) (h1:256<=X) (hx:X < 65536) (HL:Hid (Lib.len8 (X / 256)=(B:Int))) (hB:B<=8):
  QE 272 #[.int .u64 X] w (B+8:Nat):=by
 have g1:¬ (4294967296:Int)<=X:=by omega
 have g2:¬ (65536:Int)<=X:=by omega
 have h0:0<=X / 256:=by omega
 have h2:X / 256<=255:=by omega
 go_enter func272,ntmps272
 go_wp2;go_ret;refine ⟨bI ?_,rfl⟩;rw [HL.out]
 first | omega | (rw [YS (B:Int) (by omega)];first | done | omega | (rw [YS _ (by omega)];omega))
theorem wZ (w:World) (x:Nat) (hx:x < 65536):
  QE 272 #[.int .u64 x] w (Pm.bl 16 x:Nat):=by
 by_cases h:x < 256
 ·exact xw w (x:Int) _ (by omega) (by omega) (uD x h) (Ar x h)
 ·rw [A5 x (by omega) hx];have e1:((x / 256:Nat):Int)=(x:Int) / 256:=by omega
  exact xo w (x:Int) _ (by omega) (by omega) (by show _=_;rw [<-e1];exact uD (x / 256) (by omega)) (Ar (x / 256) (by omega))
theorem uC (w:World) (x:Nat) (hx:x < 65536):
  QE 266 #[.int .u64 x] w (Pm.bl 16 x:Nat):=by
 go_enter func266,ntmps266
 go_wp2_with fail
 refine (wZ w x hx).mono ?_;rintro e w1 ⟨rfl,rfl⟩;go_wp2;go_ret;exact ⟨rfl,rfl⟩
theorem lX {a b c d e f:Int} (h:a=b) (g:c=d) (k:e=f):Ending.returned (.tuple #[a,c,e])=.returned (.tuple #[b,d,f]):=by rw [h,g,k]
theorem mU (w:World) (c:Nat) (hc:c < 288):
  QE 235 #[c] w (.tuple #[((Pm.aI c).1:Nat),((Pm.aI c).2:Nat)]):=by
 by_cases h1:c < 144
 ·have e:Pm.aI c=(48+c,8):=by unfold Pm.aI;rw [ZO h1]
  rw [e];clear e;go_enter func235,ntmps235
  go_wp2;go_ret2;exact ⟨pW (by simp) rfl,rfl⟩
 ·by_cases h2:c < 256
  ·have e:Pm.aI c=(400+c - 144,9):=by unfold Pm.aI;rw [ZU h1,ZO h2]
   rw [e];clear e;go_enter func235,ntmps235
   go_wp2;go_ret2;exact ⟨pW (by first | omega | (simp;omega)) rfl,rfl⟩
  ·by_cases h3:c < 280
   ·have e:Pm.aI c=(c - 256,7):=by unfold Pm.aI;rw [ZU h1,ZU h2,ZO h3]
    rw [e];clear e;go_enter func235,ntmps235
    go_wp2;go_ret2;exact ⟨pW (by first | omega | (simp;omega)) rfl,rfl⟩
   ·have e:Pm.aI c=(192+c - 280,8):=by unfold Pm.aI;rw [ZU h1,ZU h2,ZU h3]
    rw [e];clear e;go_enter func235,ntmps235
    go_wp2;go_ret2;exact ⟨pW (by first | omega | (simp;omega)) rfl,rfl⟩
end Go.Proofs.YtbklfkpjoinofaaGreatDoor
