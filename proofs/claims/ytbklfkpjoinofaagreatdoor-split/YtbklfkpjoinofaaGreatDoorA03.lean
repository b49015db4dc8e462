import Derived.Lib.Tables
import Derived.Test.YtbklfkpjoinofaaGreatDoorA00
set_option linter.all false
set_option maxRecDepth 100000
set_option maxHeartbeats 8000000
namespace Go.Proofs.YtbklfkpjoinofaaGreatDoor
open Go.RowKit Go.Proofs.Tryz
namespace Pm
def cL:List UInt8->Nat
 | []=>0
 | c::r=>c.toNat+256*cL r
def ao (l:List UInt8) (p n:Nat):Nat:=cL l / 2 ^ p % 2 ^ n
def aR (l:List UInt8) (p:Nat):Nat->Nat
 | 0=>0
 | n+1=>2*aR l p n+ao l (p+n) 1
def ee:Nat->Nat->Nat
 | 0,_=>0
 | n+1,v=>2*ee n v+v / 2 ^ n % 2
theorem cJ (l:List UInt8) (p n:Nat):ao l p n < 2 ^ n:=Yy _ (YH n)
theorem o6 (l:List UInt8) (p:Nat):ao l p 0=0:=by simp [ao,Nat.mod_one]
theorem gh (l:List UInt8) (p a b:Nat):ao l p (a+b)=ao l p a+2 ^ a*ao l (p+a) b:=by
 unfold ao;rw [YL 2 a b,Nat.mod_mul,YL 2 p a,XD]
theorem jU (l:List UInt8) (p m k:Nat) (h:k < m):ao l p m / 2 ^ k % 2=ao l (p+k) 1:=by
 have e:m=k+(1+(m - k - 1)):=by omega
 rw [e,gh,gh];have h1:=cJ l p k;have h2:=cJ l (p+k) 1;rw [Nat.add_mul_div_left _ _ (YH k),XC h1];omega
theorem jh (l:List UInt8) (p m n:Nat) (h:n<=m):aR l p n=ee n (ao l p m):=by
 induction n with
 | zero=>rfl
 | succ n ih=>rw [aR,ee,ih (by omega),jU l p m n (by omega)]
theorem pJ (l:List UInt8) (p n:Nat):aR l p n < 2 ^ n:=by
 induction n with
 | zero=>simp [aR]
 | succ n ih=>
  have:=cJ l (p+n) 1;rw [aR,Nat.pow_succ];omega
theorem mI (l:List UInt8) (i:Nat):ao l (8*i) 8=(l.getD i 0).toNat:=by
 induction l generalizing i with
 | nil=>simp [ao,cL]
 | cons c r ih=>
  have hc:c.toNat < 256:=c.toNat_lt
  cases i with
  | zero=>simp [ao,cL]
  | succ i=>
   have h2:=ih i;unfold ao at h2 ⊢;rw [show 8*(i+1)=8+8*i from by omega,YL, <-XD];have e:cL (c::r) / 2 ^ 8=cL r:=by simp only [cL];omega
   rw [e,h2];simp
theorem ym (l:List UInt8):cL l < 2 ^ (8*l.length):=by
 induction l with
 | nil=>simp [cL]
 | cons c r ih=>
  have hc:c.toNat < 256:=c.toNat_lt;simp only [cL,ZX];rw [show 8*(r.length+1)=8+8*r.length from by omega,YL];have:(2:Nat) ^ 8=256:=by decide+kernel
  rw [this];omega
def ak (c:Nat):Nat:=if c < 265\/c=285 then 0 else (c - 261) / 4
def a_ (c:Nat):Nat:=if c=285 then 258 else if c < 265 then c - 254 else 3+(4+(c - 257) % 4)*2 ^ ((c - 261) / 4)
def aH (c:Nat):Nat:=if c < 4 then 0 else (c - 2) / 2
def bD (c:Nat):Nat:=if c < 4 then 1+c else 1+(2+c % 2)*2 ^ ((c - 2) / 2)
theorem fh:∀ c,c < 286->257<=c->ak c<=5/\3<=a_ c/\a_ c+2 ^ ak c<=259:=by decide+kernel
theorem eN:∀ c,c < 30->aH c<=13/\1<=bD c/\bD c+2 ^ aH c<=32769:=by decide+kernel
def bC (l:List UInt8) (p:Nat):Nat×Nat:=
 if aR l p 7<=23 then (256+aR l p 7,7)
 else if 2*aR l p 7+ao l (p+7) 1<=191 then (2*aR l p 7+ao l (p+7) 1 - 48,8)
 else if 2*aR l p 7+ao l (p+7) 1<=199 then (2*aR l p 7+ao l (p+7) 1+88,8)
 else (2*(2*aR l p 7+ao l (p+7) 1)+ao l (p+8) 1 - 256,9)
def cB:List UInt8->Nat×Nat->Nat×Nat
 | [],r=>r
 | c::r,(a,b)=>cB r ((a+c.toNat) % 65521,(b+(a+c.toNat) % 65521) % 65521)
theorem oT (l:List UInt8) (c:UInt8) (r:Nat×Nat):cB (l++[c]) r=(((cB l r).1+c.toNat) % 65521,((cB l r).2+((cB l r).1+c.toNat) % 65521) % 65521):=by
 induction l generalizing r with
 | nil=>rfl
 | cons d l ih=>exact ih _
theorem qd (l:List UInt8) (r:Nat×Nat) (h:r.1 < 65521/\r.2 < 65521):(cB l r).1 < 65521/\(cB l r).2 < 65521:=by
 induction l generalizing r with
 | nil=>exact h
 | cons c l ih=>exact ih _ ⟨Yy _ (by decide),Yy _ (by decide)⟩
def eQ (out:List UInt8) (d:Nat):Nat->List UInt8
 | 0=>out
 | n+1=>eQ (out++[out.getD (out.length - d) 0]) d n
theorem ig (out:List UInt8) (d n:Nat):(eQ out d n).length=out.length+n:=by
 induction n generalizing out with
 | zero=>rfl
 | succ n ih=>rw [eQ,ih];simp;omega
theorem sH (out:List UInt8) (d n:Nat):eQ out d (n+1)=eQ out d n++[(eQ out d n).getD ((eQ out d n).length - d) 0]:=by
 induction n generalizing out with
 | zero=>rfl
 | succ n ih=>rw [eQ,ih];rfl
def gH (l:List UInt8) (q c:Nat) (out:List UInt8):Option (Nat×List UInt8):=
 if 285 < c then none
 else if 8*l.length < q+ak c then none
 else if 258<=a_ c+ao l q (ak c)/\c≠285 then none
 else if 1048576 < out.length+(a_ c+ao l q (ak c)) then none
 else if 8*l.length < q+ak c+5 then none
 else if 29 < aR l (q+ak c) 5 then none
 else if 8*l.length < q+ak c+5+aH (aR l (q+ak c) 5) then none
 else if out.length < bD (aR l (q+ak c) 5)+ao l (q+ak c+5) (aH (aR l (q+ak c) 5)) then none
 else some (q+ak c+5+aH (aR l (q+ak c) 5),
  eQ out (bD (aR l (q+ak c) 5)+ao l (q+ak c+5) (aH (aR l (q+ak c) 5))) (a_ c+ao l q (ak c)))
def cY (l:List UInt8) (p:Nat) (out:List UInt8):Option (Bool×Nat×List UInt8):=
 if 8*l.length < p+(bC l p).2 then none
 else if (bC l p).1=256 then some (true,p+(bC l p).2,out)
 else if (bC l p).1 < 256 then
  if 1048576 < out.length+1 then none else some (false,p+(bC l p).2,out++[UInt8.ofNat (bC l p).1])
 else match gH l (p+(bC l p).2) (bC l p).1 out with
  | none=>none
  | some (q,o)=>some (false,q,o)
def bn (l:List UInt8):Nat->Nat->List UInt8->Option (Nat×List UInt8)
 | 0,_,_=>none
 | f+1,p,out=>match cY l p out with
  | none=>none
  | some (true,q,o)=>some (q,o)
  | some (false,q,o)=>bn l f q o
theorem tJ (l:List UInt8) (p:Nat):7<=(bC l p).2/\(bC l p).2<=9:=by
 unfold bC
 repeat' split
 all_goals simp
theorem AW (l:List UInt8) (p:Nat):(bC l p).1<=287:=by
 have h1:=pJ l p 7;have h2:=cJ l (p+7) 1;have h3:=cJ l (p+8) 1;unfold bC
 repeat' split
 all_goals simp only []
 all_goals omega
theorem lg {l:List UInt8} {q c:Nat} {out:List UInt8} {q':Nat} {o:List UInt8} (h:gH l q c out=some (q',o)):q<=q'/\q'<=8*l.length/\o.length<=1048576:=by
 unfold gH at h
 repeat' split at h
 all_goals first | (cases h;done) | skip
 simp only [Yh,XT] at h;obtain ⟨rfl,rfl⟩:=h;rw [ig];omega
theorem pA {l:List UInt8} {p:Nat} {out:List UInt8} {e:Bool} {q:Nat} {o:List UInt8} (h:cY l p out=some (e,q,o)) (ho:out.length<=1048576):p < q/\q<=8*l.length/\o.length<=1048576:=by
 have hw:=tJ l p;unfold cY at h;split at h
 ·cases h
 ·split at h
  ·simp only [Yh,XT] at h;obtain ⟨_,rfl,rfl⟩:=h;exact ⟨by omega,by omega,ho⟩
  ·split at h
   ·split at h
    ·cases h
    ·simp only [Yh,XT] at h;obtain ⟨_,rfl,rfl⟩:=h;refine ⟨by omega,by omega,?_⟩;simp;omega
   ·split at h
    ·cases h
    ·rename_i q' o' ha
     simp only [Yh,XT] at h;obtain ⟨_,rfl,rfl⟩:=h;have:=lg ha;exact ⟨by omega,by omega,by omega⟩
theorem rr {l:List UInt8} {f p:Nat} {out:List UInt8} {q:Nat} {o:List UInt8} (h:bn l f p out=some (q,o)) (ho:out.length<=1048576):p < q/\q<=8*l.length/\o.length<=1048576:=by
 induction f generalizing p out with
 | zero=>cases h
 | succ f ih=>
  rw [bn] at h;split at h
  ·cases h
  ·rename_i q' o' hs
   simp only [Yh,XT] at h;obtain ⟨rfl,rfl⟩:=h;exact pA hs ho
  ·rename_i q' o' hs
   have h1:=pA hs ho;have h2:=ih h h1.2.2;exact ⟨by omega,h2.2⟩
theorem jC {l:List UInt8} {q:Nat} {o:List UInt8} {L:Nat} {res:Option (Nat×List UInt8)} (hq:q<=L) (h:∃ f,L < q+f/\bn l f q o=res) (hs:cY l q o=none):res=none:=by
 obtain ⟨f,hf,rfl⟩:=h;obtain ⟨f,rfl⟩:∃ g,f=g+1:=⟨f - 1,by omega⟩;rw [bn,hs]
theorem vF {l:List UInt8} {q:Nat} {o:List UInt8} {L:Nat} {res:Option (Nat×List UInt8)} {q':Nat} {o':List UInt8} (hq:q<=L) (h:∃ f,L < q+f/\bn l f q o=res) (hs:cY l q o=some (true,q',o')):res=some (q',o'):=by
 obtain ⟨f,hf,rfl⟩:=h;obtain ⟨f,rfl⟩:∃ g,f=g+1:=⟨f - 1,by omega⟩;rw [bn,hs]
theorem qQ {l:List UInt8} {q:Nat} {o:List UInt8} {L:Nat} {res:Option (Nat×List UInt8)} {q':Nat} {o':List UInt8} (hq:q<=L) (h:∃ f,L < q+f/\bn l f q o=res) (hs:cY l q o=some (false,q',o')) (hlt:q < q'):∃ f,L < q'+f/\bn l f q' o'=res:=by
 obtain ⟨f,hf,rfl⟩:=h;obtain ⟨f,rfl⟩:∃ g,f=g+1:=⟨f - 1,by omega⟩;refine ⟨f,by omega,?_⟩;rw [bn,hs]
theorem gU {l:List UInt8} {q c:Nat} {out:List UInt8} (h:gH l q c out≠none):
  c<=285/\q+ak c<=8*l.length/\¬ (258<=a_ c+ao l q (ak c)/\c≠285)/\out.length+(a_ c+ao l q (ak c))<=1048576/\q+ak c+5<=8*l.length/\
  aR l (q+ak c) 5<=29/\q+ak c+5+aH (aR l (q+ak c) 5)<=8*l.length/\
  bD (aR l (q+ak c) 5)+ao l (q+ak c+5) (aH (aR l (q+ak c) 5))<=out.length:=by
 unfold gH at h
 repeat' split at h
 all_goals first | (exact absurd rfl h) | skip
 refine ⟨?_,?_,?_,?_,?_,?_,?_,?_⟩ <;> first | assumption | omega
theorem po {l:List UInt8} {q c:Nat} {out:List UInt8} (h1:c<=285) (h2:q+ak c<=8*l.length) (h3:¬ (258<=a_ c+ao l q (ak c)/\c≠285)) (h4:out.length+(a_ c+ao l q (ak c))<=1048576)
  (h5:q+ak c+5<=8*l.length) (h6:aR l (q+ak c) 5<=29) (h7:q+ak c+5+aH (aR l (q+ak c) 5)<=8*l.length)
  (h8:bD (aR l (q+ak c) 5)+ao l (q+ak c+5) (aH (aR l (q+ak c) 5))<=out.length):
  gH l q c out=some (q+ak c+5+aH (aR l (q+ak c) 5),
   eQ out (bD (aR l (q+ak c) 5)+ao l (q+ak c+5) (aH (aR l (q+ak c) 5))) (a_ c+ao l q (ak c))):=by
 unfold gH;rw [ZO (by omega),ZO (by omega),ZO h3,ZO (by omega),ZO (by omega),ZO (by omega),ZO (by omega),ZO (by omega)]
theorem wO {l:List UInt8} {p:Nat} {out:List UInt8} (h:8*l.length < p+(bC l p).2):cY l p out=none:=by unfold cY;rw [ZN h]
theorem pj {l:List UInt8} {p:Nat} {out:List UInt8} (h:p+(bC l p).2<=8*l.length) (hc:(bC l p).1=256):cY l p out=some (true,p+(bC l p).2,out):=by
 unfold cY;rw [ZO (by omega),ZN hc]
theorem mC {l:List UInt8} {p:Nat} {out:List UInt8} (h:p+(bC l p).2<=8*l.length) (hc:(bC l p).1 < 256) (ho:out.length+1<=1048576):cY l p out=some (false,p+(bC l p).2,out++[UInt8.ofNat (bC l p).1]):=by
 unfold cY;rw [ZO (by omega),ZO (by omega),ZN hc,ZO (by omega)]
theorem uf {l:List UInt8} {p:Nat} {out:List UInt8} (hc:(bC l p).1 < 256) (ho:1048576 < out.length+1):cY l p out=none:=by
 unfold cY;by_cases h:8*l.length < p+(bC l p).2
 ·rw [ZN h]
 ·rw [ZO h,ZO (by omega),ZN hc,ZN ho]
theorem rj {l:List UInt8} {p:Nat} {out:List UInt8} (h:p+(bC l p).2<=8*l.length) (hc:256 < (bC l p).1) {r:Nat×List UInt8} (ha:gH l (p+(bC l p).2) (bC l p).1 out=some r):cY l p out=some (false,r.1,r.2):=by
 unfold cY;rw [ZO (by omega),ZO (by omega),ZO (by omega),ha]
theorem uV {l:List UInt8} {p:Nat} {out:List UInt8} (hc:256 < (bC l p).1) (ha:gH l (p+(bC l p).2) (bC l p).1 out=none):cY l p out=none:=by
 unfold cY;by_cases h:8*l.length < p+(bC l p).2
 ·rw [ZN h]
 ·rw [ZO h,ZO (by omega),ZO (by omega),ha]
end Pm
theorem ai {p:Prop} (h:p):Hid p:=h
theorem bI {k:IntKind} {a b:Int} (h:a=b):Ending.returned (.int k a)=.returned (.int k b):=by rw [h]
theorem bY (c:UInt8):wrap64 (c.toNat:Int)=(c.toNat:Int):=by
 have:=c.toNat_lt;exact YU _ (by omega)
abbrev bT (b:Nat) (w w':World):Prop:=w.grownBy w' (some b)
theorem bT.refl (b:Nat) (w:World):bT b w w:=⟨rfl,rfl,rfl,ZW _,fun _ _ _=>rfl⟩
theorem bT.trans {b:Nat} {u v w:World} (h:bT b u v) (k:bT b v w):bT b u w:=
 ⟨k.os.trans h.os,k.tape.trans h.tape,k.output.trans h.output,ZU h.size k.size,fun i hi hn=>(k.block i (ZK hi h.size) hn).trans (h.block i hi hn)⟩
theorem bT.drewN {b:Nat} {u w:World} (h:bT b u w) (n:Nat):bT b u (w.drewN n):=⟨h.os,h.tape,h.output,h.size,h.block⟩
theorem bT.setCell {b:Nat} {u w:World} (h:bT b u w) (o:Nat) (v:Value):bT b u (w.setCell (zq b o) v):=
 h.trans ⟨rfl,rfl,rfl,by simp [World.setCell],fun k _ hn=>YX _ _ _ _ (by intro e;exact hn (by rw [e]))⟩
theorem bT.below {b:Nat} {w w':World} (h:bT b w w') (hb:b < w.heap.size):Below b w w':=
 ⟨h.os,h.tape,h.output,h.size,fun k hk=>h.block k (by omega) (by intro e;cases e;omega)⟩
theorem bT.owns {b:Nat} {w w':World} (h:bT b w w') {base:Nat} {e:TypeId} {size:Nat} {v:Value} {n:Nat} {xs:List Value} (ho:w.ownsRow base e size v n xs) (hb:b < base):w'.ownsRow base e size v n xs:=by
 refine ho.kept h ?_;right;intro he;have:=(ho.lt b he).1;omega
def cells (l:List UInt8):List Value:=l.map fun c=>Value.int .u8 c.toNat
theorem jT (l:List UInt8):(cells l).length=l.length:=by simp [cells]
theorem eV (l m:List UInt8):cells (l++m)=cells l++cells m:=by simp [cells]
theorem Tryz.info5:(Tryz.prog.info? 5).map (fun i=>(i.zero,i.size,i.bytes))=some (some (.int .u8 0),1,1):=by kernel_rfl
structure gZ (w:World) (b:Nat) (v:Value) (out:List UInt8):Prop where
 own:w.ownsRow (b+1) 5 1 v out.length (cells out)
 base:b < w.heap.size
theorem gZ.drewN {w:World} {b:Nat} {v:Value} {out:List UInt8} (h:gZ w b v out) (n:Nat):gZ (w.drewN n) b v out:=⟨h.own,h.base⟩
theorem gZ.drew {w:World} {b:Nat} {v:Value} {out:List UInt8} (h:gZ w b v out):gZ w.drew b v out:=⟨h.own,h.base⟩
theorem gZ.alloc {w:World} {b:Nat} {v:Value} {out:List UInt8} (h:gZ w b v out) (o:Obj):gZ (w.alloc o) b v out:=⟨h.own.alloc o,by have:=h.base;simp;omega⟩
theorem gZ.only {w w':World} {b:Nat} {v:Value} {out:List UInt8} (h:gZ w b v out) (k:bT b w w'):gZ w' b v out:=⟨bT.owns k h.own (Zl b),ZK h.base k.size⟩
theorem gZ.nil (w:World) (b:Nat) (hb:b < w.heap.size):gZ w b (.slice none 0 0) []:=⟨Yj _ _ _ _,hb⟩
theorem gZ.form {w:World} {b:Nat} {v:Value} {out:List UInt8} (h:gZ w b v out):∃ a cap,v=.slice a out.length cap/\(a=none->out.length=0):=by
 rcases h.own.2 with ⟨rfl,hn⟩ | ⟨g,cap,cur,rfl,_⟩
 ·exact ⟨none,0,by rw [hn],fun _=>hn⟩
 ·exact ⟨_,_,rfl,fun e=>by cases e⟩
theorem gZ.at {w:World} {b:Nat} {v:Value} {out:List UInt8} (h:gZ w b v out) (i:Nat) (hi:i < out.length):∃ g cap,v=.slice (zp g) out.length cap/\w.cell? (zq g i)=some (.int .u8 ((out.getD i 0).toNat:Nat))/\b < g:=by
 rcases h.own.2 with ⟨rfl,hn⟩ | ⟨g,cap,cur,rfl,hb,_⟩
 ·omega
 ·refine ⟨g,cap,rfl,?_,by omega⟩;have hx:(cells out)[i]? =some (.int .u8 ((out.getD i 0).toNat:Nat)):=by
   simp [cells,ZM hi]
  have:=h.own.cells (g:=g) rfl i _ hx;have hadd:(⟨g,0,none⟩:Addr).add i=⟨g,i,none⟩:=by unfold Addr.add;split <;> simp_all
  rwa [hadd] at this
theorem gZ.kept {w w':World} {b:Nat} {v:Value} {out:List UInt8} (h:gZ w b v out) (hg:w.grownBy w' v.ownBlock):Below (b+1) w w':=
 (ZT (b+1) w).grown hg h.base (fun k hk=>(h.own.lt k hk).1)
section
variable {P:Program}
theorem lS (w:World) (t ty:TypeId) (ht:Tryz.prog.underlying t=some (.slice 5)) {b:Nat} {v:Value} {out:List UInt8} (h:gZ w b v out)
  (ad:Addr) (m:Nat) (c:UInt8) (hc:w.cell? ad=some (.int .u8 (c.toNat:Nat))) (hs:ad.spot=none) (hl:out.length+1<=100000000):
  ∃ v' w',(Builtin.append_ #[t,t] ty #[v,.slice (some ad) 1 m]).run prog w=.ok v' w'/\gZ w' b v' (out++[c])/\Below (b+1) w w':=by
 obtain ⟨i0,hi,hz0,hz1,hz2⟩:=XQ Tryz.info5;obtain ⟨v',w',hr,ho,hg,_⟩:=run_append_own (P:=prog) w (b+1) t ty 5 i0 (.int .u8 0) 1 1 ht hi hz0 hz1 hz2 rfl (by decide) v out.length (cells out) h.own ad 1 m [.int .u8 (c.toNat:Nat)] rfl
  (by
   intro j u hj
   match j,hj with
   | 0,hj=>
    simp at hj;subst hj;have e:ad.add 0=ad:=by unfold Addr.add;split <;> simp_all
    rw [e];exact hc
   | (j+1),hj=>simp at hj)
  (by intro u hu;simp at hu;subst hu;rfl) (by unfold maxLen;omega) (by omega) h.base
 refine ⟨v',w',hr,⟨?_,ZK h.base hg.size⟩,h.kept hg⟩;rw [eV,ZY];exact ho
theorem lP (w:World) (t u ty:TypeId) (ht:Tryz.prog.underlying t=some (.slice 5)) (hu:Tryz.prog.underlying u=some .string) {b:Nat} {v:Value} {out:List UInt8} (h:gZ w b v out)
  (s:ByteArray) (hl:out.length+s.size<=100000000):
  ∃ v' w',(Builtin.append_ #[t,u] ty #[v,s]).run prog w=.ok v' w'/\gZ w' b v' (out++s.data.toList)/\Below (b+1) w w':=by
 obtain ⟨i0,hi,hz0,hz1,hz2⟩:=XQ Tryz.info5;obtain ⟨v',w',hr,ho,hg,_⟩:=Lib.run_append_own_string (P:=prog) w (b+1) t u ty 5 i0 ht hu hi hz0 hz1 hz2 v out.length (cells out) h.own s (by unfold maxLen;omega) (by omega) h.base;refine ⟨v',w',hr,⟨?_,ZK h.base hg.size⟩,h.kept hg⟩;rw [eV,ZY];exact ho
theorem kX {ops:Array Oper} {rest:List Oper} {o:Oper} {a:Act} {w:World} {Q:Exit->Act->World->Prop} (hgd:o.guard=none) (sl x:Operand) (t:TypeId)
  (ho:o.op=.call {callee:=.builtin .append,args:=#[sl,x],argTypes:=#[t,t]}) (ht:Tryz.prog.underlying t=some (.slice 5))
  (b:Nat) (v:Value) (out:List UInt8) (hs:a.eval sl=v) (h:gZ w b v out) (ad:Addr) (m:Nat) (hx:a.eval x=.slice (some ad) 1 m) (c:UInt8) (hc:w.cell? ad=some (.int .u8 (c.toNat:Nat))) (hsp:ad.spot=none)
  (hl:out.length+1<=100000000)
  (hk:∀ v' w',gZ w' b v' (out++[c])->Below (b+1) w w'->wpList prog ops Q rest (a.put o.dst v') w'):wpList prog ops Q (o::rest) a w:=by
 refine wpList_plain hgd fun K hK=>?_
 obtain ⟨v',w',hr,h2,h3⟩:=lS w t o.type ht h ad m c hc hsp hl;unfold Oper.wp execOp;simp only [ho,resolve,invoke,builtin,XL,XX,Yi,Yf,Yo,XZ,hs,hx,hr];exact hK _ _ (hk v' w' h2 h3)
theorem rx {ops:Array Oper} {rest:List Oper} {o:Oper} {a:Act} {w:World} {Q:Exit->Act->World->Prop} (hgd:o.guard=none) (sl x:Operand) (t u:TypeId)
  (ho:o.op=.call {callee:=.builtin .append,args:=#[sl,x],argTypes:=#[t,u]}) (ht:Tryz.prog.underlying t=some (.slice 5)) (hu:Tryz.prog.underlying u=some .string)
  (b:Nat) (v:Value) (out:List UInt8) (hs:a.eval sl=v) (h:gZ w b v out) (s:ByteArray) (hx:a.eval x=.string s)
  (hl:out.length+s.size<=100000000)
  (hk:∀ v' w',gZ w' b v' (out++s.data.toList)->Below (b+1) w w'->wpList prog ops Q rest (a.put o.dst v') w'):wpList prog ops Q (o::rest) a w:=by
 refine wpList_plain hgd fun K hK=>?_
 obtain ⟨v',w',hr,h2,h3⟩:=lP w t u o.type ht hu h s hl;unfold Oper.wp execOp;simp only [ho,resolve,invoke,builtin,XL,XX,Yi,Yf,Yo,XZ,hs,hx,hr];exact hK _ _ (hk v' w' h2 h3)
theorem Dn {ops:Array Oper} {o:Oper} {a:Act} {w:World} {K:Act->World->Prop} {Q:Exit->Act->World->Prop} {E:Prop} (hgd:o.guard=none) (sl x:Operand) (t:TypeId)
  (ho:o.op=.call {callee:=.builtin .append,args:=#[sl,x],argTypes:=#[t,t]}) (ht:Tryz.prog.underlying t=some (.slice 5))
  (b:Nat) (v:Value) (out:List UInt8) (hs:a.eval sl=v) (h:gZ w b v out) (ad:Addr) (m:Nat) (hx:a.eval x=.slice (some ad) 1 m) (c:UInt8) (hc:w.cell? ad=some (.int .u8 (c.toNat:Nat))) (hsp:ad.spot=none)
  (hl:out.length+1<=100000000)
  (hk:∀ v' w',gZ w' b v' (out++[c])->Below (b+1) w w'->K (a.put o.dst v') w'):
  if Region.wanted o (yielded ops a.tmps)=true then Oper.wp prog o a w K Q else E:=by
 have hw:Region.wanted o (yielded ops a.tmps)=true:=by simp [Region.wanted,hgd]
 rw [ZN hw];obtain ⟨v',w',hr,h2,h3⟩:=lS w t o.type ht h ad m c hc hsp hl;unfold Oper.wp execOp;simp only [ho,resolve,invoke,builtin,XL,XX,Yi,Yf,Yo,XZ,hs,hx,hr];exact hk v' w' h2 h3
end
namespace Pm
def bq (p:Nat):Nat:=(p+7) / 8*8
def cO (l:List UInt8) (p:Nat) (out:List UInt8):Option (Nat×List UInt8):=
 if ao l p (bq p - p)≠0 then none
 else if 8*l.length < bq p+32 then none
 else if ao l (bq p+16) 16≠65535 - ao l (bq p) 16 then none
 else if l.length < bq p / 8+4+ao l (bq p) 16 then none
 else if 1048576 < out.length+ao l (bq p) 16 then none
 else some (bq p+32+8*ao l (bq p) 16,out++(l.drop (bq p / 8+4)).take (ao l (bq p) 16))
theorem eO {l:List UInt8} {p:Nat} {out:List UInt8} (h:ao l p (bq p - p)≠0\/8*l.length < bq p+32\/ao l (bq p+16) 16≠65535 - ao l (bq p) 16\/l.length < bq p / 8+4+ao l (bq p) 16\/1048576 < out.length+ao l (bq p) 16):cO l p out=none:=by
 unfold cO;by_cases h1:ao l p (bq p - p)≠0
 ·rw [ZN h1]
 rw [ZO h1];by_cases h2:8*l.length < bq p+32
 ·rw [ZN h2]
 rw [ZO h2];by_cases h3:ao l (bq p+16) 16≠65535 - ao l (bq p) 16
 ·rw [ZN h3]
 rw [ZO h3];by_cases h4:l.length < bq p / 8+4+ao l (bq p) 16
 ·rw [ZN h4]
 rw [ZO h4];by_cases h5:1048576 < out.length+ao l (bq p) 16
 ·rw [ZN h5]
 exfalso;rcases h with h | h | h | h | h
 ·exact h1 h
 ·exact h2 h
 ·exact h3 h
 ·exact h4 h
 ·exact h5 h
theorem rc {l:List UInt8} {p:Nat} {out:List UInt8} (h1:ao l p (bq p - p)=0) (h2:bq p+32<=8*l.length) (h3:ao l (bq p+16) 16=65535 - ao l (bq p) 16) (h4:bq p / 8+4+ao l (bq p) 16<=l.length) (h5:out.length+ao l (bq p) 16<=1048576):
  cO l p out=some (bq p+32+8*ao l (bq p) 16,out++(l.drop (bq p / 8+4)).take (ao l (bq p) 16)):=by
 unfold cO;rw [ZO (by omega),ZO (by omega),ZO (by omega),ZO (by omega),ZO (by omega)]
theorem iP (s:ByteArray) (a n:Nat):(s.extract a (a+n)).data.toList=(s.data.toList.drop a).take n:=by
 rw [Zg,YV];simp [List.extract]
def bF (l:List UInt8):Nat->Nat->List UInt8->Option (Nat×List UInt8)
 | 0,_,_=>none
 | f+1,p,out=>
  if 8*l.length < p+3 then none
  else match (if ao l (p+1) 2=0 then cO l (p+3) out else if ao l (p+1) 2=1 then bn l (8*l.length+1) (p+3) out else none) with
   | none=>none
   | some (q,o)=>if ao l p 1=1 then some (q,o) else bF l f q o
def uK (l:List UInt8) (a:Nat):Nat:=256*(256*(256*(l.getD a 0).toNat+(l.getD (a+1) 0).toNat)+(l.getD (a+2) 0).toNat)+(l.getD (a+3) 0).toNat
def iI (l:List UInt8) (q:Nat) (o:List UInt8):Option (List UInt8×Nat):=
 if ao l q (bq q - q)≠0 then none
 else if l.length < bq q / 8+4 then none
 else if uK l (bq q / 8)≠65536*(cB o (1,0)).2+(cB o (1,0)).1 then none
 else some (o,bq q / 8+4)
def bi (l:List UInt8):Bool:=decide (2<=l.length/\(l.getD 0 0).toNat=120/\(30720+(l.getD 1 0).toNat) % 31=0/\(l.getD 1 0).toNat / 32 % 2=0)
def bP (l:List UInt8):Option (List UInt8×Nat):=
 if bi l=true then (match bF l (8*l.length+1) 16 [] with
  | none=>none
  | some (q,o)=>iI l q o)
 else none
theorem rW {l:List UInt8} (h:bF l (8*l.length+1) 16 []=none):bP l=none:=by
 unfold bP;rw [h];split <;> rfl
theorem iM {l:List UInt8} {q:Nat} {o:List UInt8} (hh:bi l=true) (h:bF l (8*l.length+1) 16 []=some (q,o)):bP l=iI l q o:=by
 unfold bP;rw [ZN hh,h]
theorem qT {l:List UInt8} (hh:bi l=false):bP l=none:=by
 unfold bP;rw [ZO (by rw [hh];decide)]
def ie (l:List UInt8) (p:Nat) (out:List UInt8):Option (Nat×List UInt8):=
 if ao l (p+1) 2=0 then cO l (p+3) out else if ao l (p+1) 2=1 then bn l (8*l.length+1) (p+3) out else none
theorem u' {l:List UInt8} {p:Nat} {out:List UInt8} {q:Nat} {o:List UInt8} (h:cO l p out=some (q,o)):p<=q/\q<=8*l.length/\o.length<=1048576:=by
 have hu:p<=bq p/\bq p % 8=0:=by unfold bq;omega
 unfold cO at h;by_cases h1:ao l p (bq p - p)≠0
 ·rw [ZN h1] at h;cases h
 rw [ZO h1] at h;by_cases h2:8*l.length < bq p+32
 ·rw [ZN h2] at h;cases h
 rw [ZO h2] at h;by_cases h3:ao l (bq p+16) 16≠65535 - ao l (bq p) 16
 ·rw [ZN h3] at h;cases h
 rw [ZO h3] at h;by_cases h4:l.length < bq p / 8+4+ao l (bq p) 16
 ·rw [ZN h4] at h;cases h
 rw [ZO h4] at h;by_cases h5:1048576 < out.length+ao l (bq p) 16
 ·rw [ZN h5] at h;cases h
 rw [ZO h5] at h;simp only [Yh,XT] at h;obtain ⟨rfl,rfl⟩:=h;refine ⟨by omega,by omega,?_⟩;rw [ZY,Ze];omega
theorem ph {l:List UInt8} {p:Nat} {out:List UInt8} {q:Nat} {o:List UInt8} (h:ie l p out=some (q,o)) (ho:out.length<=1048576):p < q/\q<=8*l.length/\o.length<=1048576:=by
 unfold ie at h;by_cases h1:ao l (p+1) 2=0
 ·rw [ZN h1] at h;have:=u' h;exact ⟨by omega,this.2⟩
 rw [ZO h1] at h;by_cases h2:ao l (p+1) 2=1
 ·rw [ZN h2] at h;have:=rr h ho;exact ⟨by omega,this.2⟩
 rw [ZO h2] at h;cases h
theorem tQ {l:List UInt8} {q:Nat} {o:List UInt8} {L:Nat} {res:Option (Nat×List UInt8)} (hL:L=8*l.length) (hq:q<=L) (h:∃ f,L < q+f/\bF l f q o=res) (hb:L < q+3):res=none:=by
 obtain ⟨f,hf,rfl⟩:=h;obtain ⟨f,rfl⟩:∃ g,f=g+1:=⟨f - 1,by omega⟩;rw [bF,ZN (by omega)]
theorem rG {l:List UInt8} {q:Nat} {o:List UInt8} {L:Nat} {res:Option (Nat×List UInt8)} (hq:q<=L) (h:∃ f,L < q+f/\bF l f q o=res) (hb:ie l q o=none):res=none:=by
 obtain ⟨f,hf,rfl⟩:=h;obtain ⟨f,rfl⟩:∃ g,f=g+1:=⟨f - 1,by omega⟩;unfold ie at hb;rw [bF];by_cases h3:8*l.length < q+3
 ·rw [ZN h3]
 rw [ZO h3,hb]
theorem rv {l:List UInt8} {q:Nat} {o:List UInt8} {L:Nat} {res:Option (Nat×List UInt8)} {q':Nat} {o':List UInt8} (hL:L=8*l.length) (hq:q+3<=L) (h:∃ f,L < q+f/\bF l f q o=res) (hb:ie l q o=some (q',o')) (hl:ao l q 1=1):res=some (q',o'):=by
 obtain ⟨f,hf,rfl⟩:=h;obtain ⟨f,rfl⟩:∃ g,f=g+1:=⟨f - 1,by omega⟩;unfold ie at hb;rw [bF,ZO (by omega),hb];show (if ao l q 1=1 then some (q',o') else bF l f q' o')=_
 rw [ZN hl]
theorem wR {l:List UInt8} {q:Nat} {o:List UInt8} {L:Nat} {res:Option (Nat×List UInt8)} {q':Nat} {o':List UInt8} (hL:L=8*l.length) (hq:q+3<=L) (h:∃ f,L < q+f/\bF l f q o=res) (hb:ie l q o=some (q',o')) (hl:ao l q 1≠1) (ho:o.length<=1048576):∃ f,L < q'+f/\bF l f q' o'=res:=by
 obtain ⟨f,hf,rfl⟩:=h;obtain ⟨f,rfl⟩:∃ g,f=g+1:=⟨f - 1,by omega⟩;have hlt:=(ph hb ho).1;refine ⟨f,by omega,?_⟩;unfold ie at hb;rw [bF,ZO (by omega),hb];show _=(if ao l q 1=1 then some (q',o') else bF l f q' o')
 rw [ZO hl]
theorem vJ {l:List UInt8} {q:Nat} {o:List UInt8} (h:ao l q (bq q - q)≠0\/l.length < bq q / 8+4\/uK l (bq q / 8)≠65536*(cB o (1,0)).2+(cB o (1,0)).1):iI l q o=none:=by
 unfold iI;by_cases h1:ao l q (bq q - q)≠0
 ·rw [ZN h1]
 rw [ZO h1];by_cases h2:l.length < bq q / 8+4
 ·rw [ZN h2]
 rw [ZO h2];by_cases h3:uK l (bq q / 8)≠65536*(cB o (1,0)).2+(cB o (1,0)).1
 ·rw [ZN h3]
 ·exfalso;rcases h with h | h | h
  ·exact h1 h
  ·exact h2 h
  ·exact h3 h
theorem oU {l:List UInt8} {q:Nat} {o:List UInt8} (h1:ao l q (bq q - q)=0) (h2:bq q / 8+4<=l.length) (h3:uK l (bq q / 8)=65536*(cB o (1,0)).2+(cB o (1,0)).1):iI l q o=some (o,bq q / 8+4):=by
 unfold iI;rw [ZO (by simpa using h1),ZO (by omega),ZO (by simpa using h3)]
end Pm
namespace Pm
theorem gY (a b:List UInt8):cL (a++b)=cL a+2 ^ (8*a.length)*cL b:=by
 induction a with
 | nil=>simp [cL]
 | cons c r ih=>
  simp only [ZE,cL,ZX,ih];rw [show 8*(r.length+1)=8+8*r.length from by omega,YL,XU];have:(2:Nat) ^ 8=256:=by decide
  rw [this,XO];omega
def xi (l:List UInt8) (N n:Nat):Prop:=n<=8*l.length/\cL l % 2 ^ n=N
theorem xi.split {l:List UInt8} {N n v k:Nat} (hN:N < 2 ^ n) (hv:v < 2 ^ k) (h:xi l (N+v*2 ^ n) (n+k)):xi l N n/\ao l n k=v:=by
 obtain ⟨h1,h2⟩:=h;rw [YL,Nat.mod_mul] at h2;have e1:cL l % 2 ^ n < 2 ^ n:=Yy _ (YH n);have h3:cL l % 2 ^ n+2 ^ n*(cL l / 2 ^ n % 2 ^ k)=N+2 ^ n*v:=by rw [h2,Ye v]
 have h4:cL l % 2 ^ n=N:=by
  have:=congrArg (· % 2 ^ n) h3;simp only [Nat.add_mul_mod_self_left] at this;rw [XK e1,XK hN] at this;exact this
 have h5:cL l / 2 ^ n % 2 ^ k=v:=by
  have h6:2 ^ n*(cL l / 2 ^ n % 2 ^ k)=2 ^ n*v:=by omega
  exact Nat.eq_of_mul_eq_mul_left (YH n) h6
 exact ⟨⟨by omega,h4⟩,h5⟩
theorem dk {N n v k:Nat} (hN:N < 2 ^ n) (hv:v < 2 ^ k):N+v*2 ^ n < 2 ^ (n+k):=by
 rw [YL,Ye (2 ^ n)];have h1:(v+1)*2 ^ n<=2 ^ k*2 ^ n:=Nat.mul_le_mul_right _ hv;rw [Nat.succ_mul] at h1;omega
theorem je:∀ k:Nat,k < 10->∀ v:Nat,v < 512->v < 2 ^ k->ee k (ee k v)=v/\ee k v < 2 ^ k:=by decide+kernel
def aI (c:Nat):Nat×Nat:=
 if c < 144 then (48+c,8) else if c < 256 then (400+c - 144,9) else if c < 280 then (c - 256,7) else (192+c - 280,8)
def AS (x:Nat):Nat×Nat:=
 if ee 7 x<=23 then (256+ee 7 x,7)
 else if 2*ee 7 x+x / 2 ^ 7 % 2<=191 then (2*ee 7 x+x / 2 ^ 7 % 2 - 48,8)
 else if 2*ee 7 x+x / 2 ^ 7 % 2<=199 then (2*ee 7 x+x / 2 ^ 7 % 2+88,8)
 else (2*(2*ee 7 x+x / 2 ^ 7 % 2)+x / 2 ^ 8 % 2 - 256,9)
theorem Ba (l:List UInt8) (p:Nat):bC l p=AS (ao l p 9):=by
 unfold bC AS;rw [jh l p 9 7 (by decide),jU l p 9 7 (by decide),jU l p 9 8 (by decide)]
theorem yL:∀ c:Nat,c < 288->∀ r:Nat,r < 4->r < 2 ^ (9 - (aI c).2)->AS (ee (aI c).2 (aI c).1+2 ^ (aI c).2*r)=(c,(aI c).2):=by decide+kernel
theorem dY:∀ c:Nat,c < 288->(aI c).1 < 2 ^ (aI c).2/\(aI c).1 < 512/\7<=(aI c).2/\(aI c).2<=9:=by decide+kernel
theorem pM {l:List UInt8} {p c:Nat} (hc:c < 288) (h:ao l p (aI c).2=ee (aI c).2 (aI c).1):bC l p=(c,(aI c).2):=by
 have hw:=dY c hc;rw [Ba];have e:9=(aI c).2+(9 - (aI c).2):=by omega
 rw [e,gh,h];have hr:=cJ l (p+(aI c).2) (9 - (aI c).2);have h4:2 ^ (9 - (aI c).2)<=2 ^ 2:=YM (by decide) (by omega);exact yL c hc _ (by
  have:(2:Nat) ^ 2=4:=by decide
  omega) hr
def bl:Nat->Nat->Nat
 | 0,_=>0
 | f+1,m=>if m=0 then 0 else bl f (m / 2)+1
def bN (n:Nat):Nat×Nat×Nat:=
 if n=258 then (285,0,0) else if n - 3 < 8 then (257+(n - 3),0,0)
 else (257+4*(bl 16 (n - 3) - 3)+(n - 3) / 2 ^ (bl 16 (n - 3) - 3),(n - 3) % 2 ^ (bl 16 (n - 3) - 3),bl 16 (n - 3) - 3)
def bB (d:Nat):Nat×Nat×Nat:=
 if d - 1 < 4 then (d - 1,0,0)
 else (2*(bl 16 (d - 1) - 2)+(d - 1) / 2 ^ (bl 16 (d - 1) - 2),(d - 1) % 2 ^ (bl 16 (d - 1) - 2),bl 16 (d - 1) - 2)
theorem j_:∀ n:Nat,n < 259->3<=n->257<=(bN n).1/\(bN n).1<=285/\(bN n).2.2=ak (bN n).1/\(bN n).2.1 < 2 ^ (bN n).2.2/\a_ (bN n).1+(bN n).2.1=n/\¬ (258<=n/\(bN n).1≠285):=by decide+kernel
theorem xe:∀ a:Nat,a < 256->∀ b:Nat,b < 128->(bB (128*a+b+1)).1<=29/\(bB (128*a+b+1)).2.2=aH (bB (128*a+b+1)).1/\(bB (128*a+b+1)).2.1 < 2 ^ (bB (128*a+b+1)).2.2/\bD (bB (128*a+b+1)).1+(bB (128*a+b+1)).2.1=128*a+b+1:=by decide+kernel
theorem iN (d:Nat) (h:d < 32769) (h1:1<=d):(bB d).1<=29/\(bB d).2.2=aH (bB d).1/\(bB d).2.1 < 2 ^ (bB d).2.2/\bD (bB d).1+(bB d).2.1=d:=by
 have:=xe ((d - 1) / 128) (by omega) ((d - 1) % 128) (by omega);have e:128*((d - 1) / 128)+(d - 1) % 128+1=d:=by omega
 rwa [e] at this
end Pm
namespace Pm
def Reach (l:List UInt8) (p:Nat) (o:List UInt8) (p':Nat) (o':List UInt8):Prop:=∃ k,∀ f,bn l (f+k) p o=bn l f p' o'
theorem Reach.refl (l:List UInt8) (p:Nat) (o:List UInt8):Reach l p o p o:=⟨0,fun _=>rfl⟩
theorem Reach.trans {l:List UInt8} {p p' p'':Nat} {o o' o'':List UInt8} (h:Reach l p o p' o') (g:Reach l p' o' p'' o''):Reach l p o p'' o'':=by
 obtain ⟨k,hk⟩:=h;obtain ⟨j,hj⟩:=g;refine ⟨j+k,fun f=>?_⟩;rw [<-YS,hk,hj]
theorem Reach.step {l:List UInt8} {p q:Nat} {o o':List UInt8} (h:cY l p o=some (false,q,o')):Reach l p o q o':=by
 refine ⟨1,fun f=>?_⟩;rw [bn,h]
def sg (N n:Nat) (o:List UInt8):Prop:=N < 2 ^ n/\∀ l,xi l N n->Reach l 19 [] n o
def sb (c:Nat):Nat:=ee (aI c).2 (aI c).1
theorem oV (c:Nat) (hc:c < 288):sb c < 2 ^ (aI c).2:=by
 have h:=dY c hc;exact (je (aI c).2 (by omega) (aI c).1 h.2.1 h.1).2
theorem sg.lit {N n:Nat} {o:List UInt8} (h:sg N n o) (c:UInt8) (ho:o.length+1<=1048576):sg (N+sb c.toNat*2 ^ n) (n+(aI c.toNat).2) (o++[c]):=by
 have hc:c.toNat < 256:=c.toNat_lt;have hlt:=oV c.toNat (by omega);refine ⟨dk h.1 hlt,fun l hp=>?_⟩;have hle:=hp.1;obtain ⟨h1,h2⟩:=hp.split h.1 hlt;have hs:=pM (c:=c.toNat) (by omega) h2;refine (h.2 l h1).trans (Reach.step ?_);have hst:=mC (l:=l) (p:=n) (out:=o) (by rw [hs];exact hle) (by rw [hs];exact hc) ho;rw [hst,hs];have e:UInt8.ofNat c.toNat=c:=by simp
 simp only [e]
def mw (n d:Nat):Nat:=(aI (bN n).1).2+(bN n).2.2+5+(bB d).2.2
def mv (n d:Nat):Nat:=sb (bN n).1+((bN n).2.1+(ee 5 (bB d).1+(bB d).2.1*2 ^ 5)*2 ^ (bN n).2.2)*2 ^ (aI (bN n).1).2
theorem sg.again {N n:Nat} {o:List UInt8} (h:sg N n o) (k d:Nat) (hk:3<=k/\k<=258) (hd:1<=d/\d<=32768) (hdo:d<=o.length) (ho:o.length+k<=1048576):
  sg (((N+sb (bN k).1*2 ^ n+(bN k).2.1*2 ^ (n+(aI (bN k).1).2))+ee 5 (bB d).1*2 ^ (n+(aI (bN k).1).2+(bN k).2.2))+(bB d).2.1*2 ^ (n+(aI (bN k).1).2+(bN k).2.2+5))
   (n+(aI (bN k).1).2+(bN k).2.2+5+(bB d).2.2) (eQ o d k):=by
 obtain ⟨l1,l2,l3,l4,l5,l6⟩:=j_ k (by omega) hk.1;obtain ⟨d1,d2,d3,d4⟩:=iN d (by omega) hd.1;generalize (bN k).1=c at*;generalize (bN k).2.1=m at*;generalize (bN k).2.2=w at*;generalize (bB d).1=dc at*;generalize (bB d).2.1=dm at*;generalize (bB d).2.2=dw at*;have a1:=oV c (by omega);have h32:dc < 2 ^ 5:=XS d1 (by decide);have a2:ee 5 dc < 2 ^ 5:=(je 5 (by omega) dc (by omega) h32).2;have hr5:=(je 5 (by omega) dc (by omega) h32).1;have g1:=dk h.1 a1;have g2:=dk g1 l4;have g3:=dk g2 a2;have g4:=dk g3 d3;refine ⟨g4,fun l hp=>?_⟩;have hle:=hp.1;obtain ⟨p3,v4⟩:=hp.split g3 d3;obtain ⟨p2,v3⟩:=p3.split g2 a2;obtain ⟨p1,v2⟩:=p2.split g1 l4;obtain ⟨p0,v1⟩:=p1.split h.1 a1;have hs:=pM (c:=c) (by omega) v1;have hh:aR l (n+(aI c).2+w) 5=dc:=by
  rw [jh l _ 5 5 (by omega),v3,hr5]
 have v2':ao l (n+(aI c).2) (ak c)=m:=by rw [<-l3];exact v2
 have v4':ao l (n+(aI c).2+ak c+5) (aH dc)=dm:=by rw [<-l3, <-d2];exact v4
 have hh':aR l (n+(aI c).2+ak c) 5=dc:=by rw [<-l3];exact hh
 have ha:=po (l:=l) (q:=n+(aI c).2) (c:=c) (out:=o) l2 (by omega) (by rw [v2',l5];exact l6) (by rw [v2',l5];exact ho) (by omega) (by rw [hh'];exact d1) (by rw [hh', <-d2];omega) (by rw [hh',v4',d4];exact hdo);rw [hh',v4',v2',d4,l5] at ha;refine (h.2 l p0).trans (Reach.step ?_);have hst:=rj (l:=l) (p:=n) (out:=o) (by rw [hs];show n+(aI c).2<=_;omega) (by rw [hs];show 256 < c;omega) (r:=(_,_)) (by rw [hs];exact ha);rw [hst];simp only [l3,d2]
theorem sg.start:sg (120+1*2 ^ 8+1*2 ^ 16+1*2 ^ 17) 19 []:=⟨by decide,fun l _=>Reach.refl l 19 []⟩
end Pm
structure BW (w:World) (P base:Nat) (vf:Value) (F:List UInt8) (H n:Nat):Prop where
 c1:w.cell? (zq P 1)=some vf
 c2:w.cell? (zq P 2)=some (.int .u32 H)
 c3:w.cell? (zq P 3)=n
 f1:w.frozen? (zq P 1)=false
 f2:w.frozen? (zq P 2)=false
 f3:w.frozen? (zq P 3)=false
 own:w.ownsRow base 5 1 vf F.length (cells F)
 ne:vf.ownBlock≠some P
 hb:base<=w.heap.size
 hH:H < 2 ^ n
structure cd (P:Nat) (vf:Value) (w:World) (vf':Value) (w':World):Prop where
 os:w'.os=w.os
 tape:w'.tape=w.tape
 output:w'.output=w.output
 size:w.heap.size<=w'.heap.size
 keep:∀ k,k < w.heap.size->k≠P->some k≠vf.ownBlock->w'.heap[k]? =w.heap[k]?
 cell:∀ o,o≠1->o≠2->o≠3->w'.cell? (zq P o)=w.cell? (zq P o)
 frz:∀ o,w'.frozen? (zq P o)=w.frozen? (zq P o)
 blk:vf'.ownBlock=vf.ownBlock\/∃ g,vf'.ownBlock=some g/\w.heap.size<=g
theorem cd.refl (P:Nat) (vf:Value) (w:World):cd P vf w vf w:=⟨rfl,rfl,rfl,ZW _,fun _ _ _ _=>rfl,fun _ _ _ _=>rfl,fun _=>rfl,YJ rfl⟩
theorem cd.trans {P:Nat} {v0 v1 v2:Value} {w0 w1 w2:World} (h:cd P v0 w0 v1 w1) (g:cd P v1 w1 v2 w2):cd P v0 w0 v2 w2:=by
 refine ⟨g.os.trans h.os,g.tape.trans h.tape,g.output.trans h.output,ZU h.size g.size,?_,fun o a b c=>(g.cell o a b c).trans (h.cell o a b c),fun o=>(g.frz o).trans (h.frz o),?_⟩
 ·intro k hk hP hv;have h2:some k≠v1.ownBlock:=by
   rcases h.blk with e | ⟨x,e,hx⟩
   ·rw [e];exact hv
   ·rw [e];intro hh;cases hh;omega
  exact (g.keep k (ZK hk h.size) hP h2).trans (h.keep k hk hP hv)
 ·rcases g.blk with e | ⟨x,e,hx⟩
  ·rcases h.blk with e2 | ⟨y,e2,hy⟩
   ·exact YJ (e.trans e2)
   ·exact YB ⟨y,e.trans e2,hy⟩
  ·exact YB ⟨x,e,ZU h.size hx⟩
theorem cd.setCell {P:Nat} {v0 v1:Value} {w0 w1:World} (h:cd P v0 w0 v1 w1) (o:Nat) (x:Value) (ho:o=1\/o=2\/o=3):cd P v0 w0 v1 (w1.setCell (zq P o) x):=by
 refine ⟨h.os,h.tape,h.output,by have:=h.size;simpa [World.setCell] using this,?_,?_,?_,h.blk⟩
 ·intro k hk hP hv;rw [YX _ _ _ _ hP];exact h.keep k hk hP hv
 ·intro k a b c;rw [ZV _ _ _ _ (by intro e;cases e;omega)];exact h.cell k a b c
 ·intro k;rw [ZL];exact h.frz k
theorem cd.drew {P:Nat} {v0 v1:Value} {w0 w1:World} (h:cd P v0 w0 v1 w1):cd P v0 w0 v1 w1.drew:=⟨h.os,h.tape,h.output,h.size,h.keep,h.cell,h.frz,h.blk⟩
theorem cd.drewN {P:Nat} {v0 v1:Value} {w0 w1:World} (h:cd P v0 w0 v1 w1) (n:Nat):cd P v0 w0 v1 (w1.drewN n):=⟨h.os,h.tape,h.output,h.size,h.keep,h.cell,h.frz,h.blk⟩
theorem rV (w:World) (t ty:TypeId) (ht:Tryz.prog.underlying t=some (.slice 5)) {base:Nat} {v:Value} {out:List UInt8} (h:w.ownsRow base 5 1 v out.length (cells out)) (hb:base<=w.heap.size)
  (ad:Addr) (m:Nat) (c:UInt8) (hc:w.cell? ad=some (.int .u8 (c.toNat:Nat))) (hs:ad.spot=none) (hl:out.length+1<=100000000):
  ∃ v' w',(Builtin.append_ #[t,t] ty #[v,.slice (some ad) 1 m]).run prog w=.ok v' w'/\w'.ownsRow base 5 1 v' (out++[c]).length (cells (out++[c]))/\w.grownBy w' v.ownBlock/\(v'.ownBlock=v.ownBlock\/v'.ownBlock=some w.heap.size):=by
 obtain ⟨i0,hi,hz0,hz1,hz2⟩:=XQ Tryz.info5;obtain ⟨v',w',hr,ho,hg,_,hat⟩:=run_append_own_at (P:=prog) w base t ty 5 i0 (.int .u8 0) 1 1 ht hi hz0 hz1 hz2 rfl (by decide) v out.length (cells out) h ad 1 m [.int .u8 (c.toNat:Nat)] rfl
  (by
   intro j u hj
   match j,hj with
   | 0,hj=>
    simp at hj;subst hj;have e:ad.add 0=ad:=by unfold Addr.add;split <;> simp_all
    rw [e];exact hc
   | (j+1),hj=>simp at hj)
  (by intro u hu;simp at hu;subst hu;rfl) (by unfold maxLen;omega) (by omega) hb
 refine ⟨v',w',hr,?_,hg,hat⟩;rw [eV,ZY];exact ho
theorem wG {ops:Array Oper} {o:Oper} {a:Act} {w:World} {K:Act->World->Prop} {Q:Exit->Act->World->Prop} {E:Prop} (hgd:o.guard=none) (sl x:Operand) (t:TypeId)
  (ho:o.op=.call {callee:=.builtin .append,args:=#[sl,x],argTypes:=#[t,t]}) (ht:Tryz.prog.underlying t=some (.slice 5))
  (base:Nat) (v:Value) (out:List UInt8) (hs:a.eval sl=v) (h:w.ownsRow base 5 1 v out.length (cells out)) (hb:base<=w.heap.size) (ad:Addr) (m:Nat) (hx:a.eval x=.slice (some ad) 1 m) (c:UInt8) (hc:w.cell? ad=some (.int .u8 (c.toNat:Nat))) (hsp:ad.spot=none)
  (hl:out.length+1<=100000000)
  (hk:∀ v' w',w'.ownsRow base 5 1 v' (out++[c]).length (cells (out++[c]))->w.grownBy w' v.ownBlock->(v'.ownBlock=v.ownBlock\/v'.ownBlock=some w.heap.size)->K (a.put o.dst v') w'):
  if Region.wanted o (yielded ops a.tmps)=true then Oper.wp prog o a w K Q else E:=by
 have hw:Region.wanted o (yielded ops a.tmps)=true:=by simp [Region.wanted,hgd]
 rw [ZN hw];obtain ⟨v',w',hr,h2,h3,h4⟩:=rV w t o.type ht h hb ad m c hc hsp hl;unfold Oper.wp execOp;simp only [ho,resolve,invoke,builtin,XL,XX,Yi,Yf,Yo,XZ,hs,hx,hr];exact hk v' w' h2 h3 h4
theorem A8 (H v n:Nat) (hH:H < 2 ^ n) (hv:v < 65536) (hn:n < 8):bits BinOp.or IntKind.u32 (H:Int) ((v:Int)*2 ^ n % 4294967296)=((H+v*2 ^ n:Nat):Int):=by
 have hF:2 ^ n<=128:=ZU (YM (by decide) (show n<=7 by omega)) (by decide);have hP:v*2 ^ n < 8388608:=by
  have:v*2 ^ n<=65535*128:=XF (by omega) hF;omega
 have e1:(v:Int)*2 ^ n % 4294967296=((v*2 ^ n:Nat):Int):=by
  have e2:(v:Int)*2 ^ n=((v*2 ^ n:Nat):Int):=by push_cast;rfl
  rw [e2];omega
 rw [e1,u32_or_nat _ _ (by omega) (by omega),Nat.or_comm,nat_join n _ _ (Nat.mul_mod_left _ _) hH];congr 1;omega
def dt (F:List UInt8) (H:Nat):Nat:=Pm.cL F+H*2 ^ (8*F.length)
theorem vD (F:List UInt8) (H:Nat) (c:UInt8) (hc:c.toNat=H % 256):dt (F++[c]) (H / 256)=dt F H:=by
 unfold dt;rw [Pm.gY];simp only [Pm.cL,ZY,XN,Nat.mul_zero,Yb,hc];rw [show 8*(F.length+1)=8*F.length+8 from by omega,YL];have e8:(2:Nat) ^ 8=256:=by decide
 rw [e8];have hd:=Nat.div_add_mod H 256;have key:2 ^ (8*F.length)*(H % 256)+H / 256*(2 ^ (8*F.length)*256)=H*2 ^ (8*F.length):=by
  refine Eq.trans (b:=(256*(H / 256)+H % 256)*2 ^ (8*F.length)) ?_ (by rw [hd]);rw [Nat.add_mul,Ye (2 ^ (8*F.length)) (H % 256),Ye 256 (H / 256),XU,Ye 256 (2 ^ (8*F.length)),Nat.add_comm]
 omega
theorem BW.drewN {w:World} {P base:Nat} {vf:Value} {F:List UInt8} {H n:Nat} (h:BW w P base vf F H n) (q:Nat):BW (w.drewN q) P base vf F H n:=⟨h.c1,h.c2,h.c3,h.f1,h.f2,h.f3,h.own,h.ne,h.hb,h.hH⟩
theorem BW.drew {w:World} {P base:Nat} {vf:Value} {F:List UInt8} {H n:Nat} (h:BW w P base vf F H n):BW w.drew P base vf F H n:=⟨h.c1,h.c2,h.c3,h.f1,h.f2,h.f3,h.own,h.ne,h.hb,h.hH⟩
theorem cr {w:World} {P base:Nat} {v:Value} {n:Nat} {e:TypeId} {xs:List Value} (h:w.ownsRow base e 1 v n xs) (ne:v.ownBlock≠some P) (o:Nat) (x:Value):(w.setCell (zq P o) x).ownsRow base e 1 v n xs:=
 h.kept (bT.setCell (bT.refl P w) o x) (YB ne)
theorem BW.bits {w:World} {P base:Nat} {vf:Value} {F:List UInt8} {H n:Nat} (h:BW w P base vf F H n) (H' n':Nat) {z y:Value} (hH:H' < 2 ^ n') (hz:z=.int .u32 H') (hy:y=.int .i64 n'):
  BW ((w.setCell (zq P 2) z).setCell (zq P 3) y) P base vf F H' n':=by
 subst hz hy;refine ⟨?_,?_,?_,?_,?_,?_,cr (cr h.own h.ne _ _) h.ne _ _,h.ne,by have:=h.hb;simpa [World.setCell] using this,hH⟩
 ·rw [ZV _ _ _ _ (by simp),ZV _ _ _ _ (by simp)];exact h.c1
 ·rw [ZV _ _ _ _ (by simp)];exact ZC _ _ _ h.c2
 ·exact ZC (u:=.int .i64 n) _ _ _ (by rw [ZV _ _ _ _ (by simp)];exact h.c3)
 ·rw [ZL,ZL];exact h.f1
 ·rw [ZL,ZL];exact h.f2
 ·rw [ZL,ZL];exact h.f3
theorem BW.byte {w w':World} {P base:Nat} {vf v':Value} {F F':List UInt8} {H n:Nat} (h:BW w P base vf F H n) (hP:P < w.heap.size) (hk:w.grownBy w' vf.ownBlock) (ho:w'.ownsRow base 5 1 v' F'.length (cells F')) (hat:v'.ownBlock=vf.ownBlock\/∃ g,v'.ownBlock=some g/\w.heap.size<=g):
  BW (w'.setCell (zq P 1) v') P base v' F' H n/\cd P vf w v' (w'.setCell (zq P 1) v'):=by
 have hblk:w'.heap[P]? =w.heap[P]? :=hk.block P hP (fun e=>h.ne e.symm);have hcell:∀ o,w'.cell? (zq P o)=w.cell? (zq P o):=fun o=>ZQ (a:=zq P o) hblk
 have hfrz:∀ o,w'.frozen? (zq P o)=w.frozen? (zq P o):=fun o=>ZH (a:=zq P o) hblk
 have hne:v'.ownBlock≠some P:=by
  rcases hat with e | ⟨g,e,hg⟩
  ·rw [e];exact h.ne
  ·rw [e];intro hh;cases hh;omega
 constructor
 ·refine ⟨ZC _ _ _ ((hcell 1).trans h.c1),?_,?_,?_,?_,?_,cr ho hne _ _,hne,?_,h.hH⟩
  ·rw [ZV _ _ _ _ (by simp)];exact (hcell 2).trans h.c2
  ·rw [ZV _ _ _ _ (by simp)];exact (hcell 3).trans h.c3
  ·rw [ZL];exact (hfrz 1).trans h.f1
  ·rw [ZL];exact (hfrz 2).trans h.f2
  ·rw [ZL];exact (hfrz 3).trans h.f3
  ·have h1:=h.hb;have h2:=hk.size;simp [World.setCell];omega
 ·refine cd.setCell ⟨hk.os,hk.tape,hk.output,hk.size,fun k h1 _ h3=>hk.block k h1 h3,fun o _ _ _=>hcell o,hfrz,hat⟩ 1 v' (YJ rfl)
theorem fv {u v w:World} {row:Option Nat} (h:u.grownBy v row) (k:v.grownBy w row):u.grownBy w row:=
 ⟨k.os.trans h.os,k.tape.trans h.tape,k.output.trans h.output,ZU h.size k.size,fun i hi hn=>(k.block i (ZK hi h.size) hn).trans (h.block i hi hn)⟩
theorem mN (w:World) (row:Option Nat):w.grownBy w.drew row:=⟨rfl,rfl,rfl,ZW _,fun _ _ _=>rfl⟩
theorem wV (w:World) (v:Value) (t:TypeId):(w.alloc (.cells #[v] t)).cell? w=some v:=by simp
theorem iR (w:World) (P base:Nat) (vf:Value) (F:List UInt8) (H n v k:Nat) (h:BW w P base vf F H n) (hP:P < w.heap.size) (hn:n < 8) (hv:v < 2 ^ k) (hk:k<=16) (hF:F.length<=50000000):
  CP 196 #[zq P 1,v,k] w fun e w'=>e=.returned (.tuple #[])/\∃ vf' F' H' n',BW w' P base vf' F' H' n'/\n' < 8/\dt F' H'=dt F H+v*2 ^ (8*F.length+n)/\8*F'.length+n'=8*F.length+n+k/\cd P vf w vf' w':=by
 have hv16:v < 65536:=ZK hv (ZU (YM (by decide) hk) (by decide));have HOr:=ai (A8 H v n h.hH hv16 hn);have hG:=Pm.dk h.hH hv;have HBW:=ai (fun (z y:Value) hz hy=>h.bits (H+v*2 ^ n) (n+k) (z:=z) (y:=y) hG hz hy);have HST:Hid (dt F (H+v*2 ^ n)=dt F H+v*2 ^ (8*F.length+n)):=by
  show _=_
  unfold dt;rw [Nat.add_mul,XU, <-YL,Nat.add_comm n,YS]
 have c1:=h.c1;have c2:=h.c2;have c3:=h.c3;have f2:=h.f2;have f3:=h.f3;clear hG hv;go_enter func196,ntmps196
 go_wp2;go_region
 go_wp2;go_loopg [32] 30 (fun g _ wr=>∃ u G A m,BW wr P base u G A m/\m<=23/\dt G A=dt F (H+v*2 ^ n)/\8*G.length+m=8*F.length+n+k/\cd P vf w u wr/\m < g)
 case atStart=>
  refine ⟨vf,F,H+v*2 ^ n,n+k,(HBW.out _ _ (by rw [HOr.out]) (by go_num)).drew,by omega,rfl,by omega,?_,by omega⟩;exact (((cd.refl P vf w).setCell 2 _ (by omega)).setCell 3 _ (by omega)).drew
 case round=>
  clear HBW HOr c1 c2 c3 f2 f3 h;obtain ⟨u,G,A,m,hB,hm,hS,hT,hFr,hg⟩:=hrel;have c1:=hB.c1;have c2:=hB.c2;have c3:=hB.c3;have f1:=hB.f1;have f2:=hB.f2;have f3:=hB.f3;have HS:=ai hS;clear hS;by_cases h8:8<=m
  ·have hPr:P < wr.heap.size:=ZK hP hFr.size;have hA:=hB.hH;have hA2:A < 16777216:=ZK hA (ZU (YM (by decide) (show m<=24 by omega)) (by decide));have hA3:A / 256 < 2 ^ (m - 8):=by
    have e:2 ^ m=2 ^ (m - 8)*256:=by
     rw [show (256:Nat)=2 ^ 8 from by decide, <-YL];congr 1;omega
    rw [e] at hA;omega
   have hub:(UInt8.ofNat A).toNat=A % 256:=by simp
   have HSt:=ai (vD G A (UInt8.ofNat A) hub);have HCell:Hid ((wr.drew.alloc (.cells #[.int .u8 ((A:Int) % 256)] 5)).cell? wr=some (.int .u8 ((UInt8.ofNat A).toNat:Nat))):=by
    have e:((UInt8.ofNat A).toNat:Int)=(A:Int) % 256:=by rw [hub];omega
    show _=_
    rw [e];exact wV wr.drew _ _
   have hOd:=hB.own.drew.alloc (.cells #[.int .u8 ((A:Int) % 256)] 5);have HGr:=ai (fv (mN wr u.ownBlock) (World.grownBy_alloc wr.drew (.cells #[.int .u8 ((A:Int) % 256)] 5) u.ownBlock));have hbd:base<=(wr.drew.alloc (.cells #[.int .u8 ((A:Int) % 256)] 5)).heap.size:=by have:=hB.hb;simp;omega
   have HBd:=ai hbd;have c1a:∀ ob:Obj,(wr.alloc ob).cell? (zq P 1)=some u:=fun ob=>(((ZT (P+1) wr).alloc hPr ob).cell (p:=zq P 1) (Zl P)).trans c1
   have hGl:G.length<=60000000:=by omega
   clear hub hA hbd;obtain ⟨adu,capu,hform⟩:∃ ad cap,u=.slice ad G.length cap:=by
    rcases hB.own.2 with ⟨hu,hz⟩ | ⟨gg,cap,cur,hu,_⟩
    ·exact ⟨none,0,by rw [hu,hz]⟩
    ·exact ⟨_,_,hu⟩
   subst hform;go_wp2;go_region_law ((refine wG rfl (.tmp 37) (.tmp 43) 66 rfl underlying66 base _ G (by simp [Act.eval,Act.put]) hOd HBd.out ⟨wr,0,none⟩ 1 (by simp [Act.eval,Act.put]) (UInt8.ofNat A) HCell.out rfl (by omega) ?_;intro v7 w7 hO7 hg7 hat7;have hform7:∃ ad L cap,v7=.slice ad L cap:=(by rcases hO7.2 with ⟨hu,_⟩ | ⟨gg,cap,cur,hu,_⟩;exact ⟨_,_,_,hu⟩;exact ⟨_,_,_,hu⟩);obtain ⟨ad7,L7,cap7,hv7⟩:=hform7;rw [hv7] at hO7 hat7 ⊢;clear hv7;have kb:=(fv HGr.out hg7).block P hPr (fun e=>hB.ne e.symm);have k1:=(ZQ (a:=zq P 1) kb).trans c1;have k2:=(ZQ (a:=zq P 2) kb).trans c2;have k3:=(ZQ (a:=zq P 3) kb).trans c3;have kf1:=(ZH (a:=zq P 1) kb).trans f1;have kf2:=(ZH (a:=zq P 2) kb).trans f2;have kf3:=(ZH (a:=zq P 3) kb).trans f3))
   all_goals
    have hby:=hB.byte hPr (fv HGr.out hg7) hO7 (by
     rcases hat7 with e | e
     ·exact YJ e
     ·exact YB ⟨_,e,by simp⟩)
    have HBy:=ai hby;clear hby hO7 hg7 hat7;go_wp2;go_roundg (gk - 1)
    case measure=>omega
    case rel=>
     refine ⟨_,G++[UInt8.ofNat A],A / 256,m - 8,HBy.out.1.bits (A / 256) (m - 8) hA3 (by simp) (by go_num),by omega,HSt.out.trans HS.out,by simp;omega,?_,by omega⟩;exact ((hFr.trans HBy.out.2).setCell 2 _ (by omega)).setCell 3 _ (by omega)
  ·go_wp2;go_end0;exact ⟨rfl,u,G,A,m,hB,by omega,HS.out.trans HST.out,hT,hFr⟩
theorem pW {a b c d:Int} (h:a=b) (g:c=d):Ending.returned (.tuple #[a,c])=.returned (.tuple #[b,d]):=by rw [h,g]
theorem v_:∀ x:Nat,x < 512->bits BinOp.or IntKind.u16 (IntKind.u16.wrap (Lib.rev8 ((x:Int) / 256))) (IntKind.u16.wrap (IntKind.u16.wrap (Lib.rev8 ((x:Int) % 256))*256))=((Pm.ee 16 x:Nat):Int):=by decide+kernel
theorem z_:∀ k:Nat,k < 10->∀ x:Nat,x < 512->x < 2 ^ k->Pm.ee 16 x / 2 ^ (16 - k)=Pm.ee k x/\Pm.ee 16 x < 65536:=by decide+kernel
theorem nZ (w:World) (x:Nat) (hx:x < 512):
  CP 301 #[.int .u16 x] w fun e w'=>e=.returned (.int .u16 (Pm.ee 16 x:Nat))/\∃ n,w'=w.drewN n:=by
 have e1:bits BinOp.and IntKind.u16 (x:Int) 255=(x:Int) % 256:=by
  have:=u16_and_nat x 255 (by omega) (by omega);rw [nat_mask8] at this;simpa using this
 have h1:0<=(x:Int) / 256:=by omega
 have h2:(x:Int) / 256<=255:=by omega
 have h3:0<=(x:Int) % 256:=by omega
 have h4:(x:Int) % 256<=255:=by omega
 go_enter func301,ntmps301
 go_wp2;go_quiet (fail)
 go_wp2;go_ret;exact ⟨bI (v_ x hx),_,rfl⟩
theorem oA (w:World) (v k:Nat) (hk:k < 10) (hv:v < 2 ^ k):
  CP 267 #[v,k] w fun e w'=>e=.returned (Pm.ee k v:Nat)/\∃ n,w'=w.drewN n:=by
 have hv5:v < 512:=ZK hv (ZU (YM (by decide) (show k<=9 by omega)) (by decide));have HC:=ai (z_ k hk v hv5 hv);have hlt:=HC.out.2;clear hv;go_enter func267,ntmps267
 go_wp2_with fail
 refine (nZ w v hv5).mono ?_;rintro e w1 ⟨rfl,n,rfl⟩;generalize hR:Pm.ee 16 v=R at*;clear hR;go_wp2;go_ret;refine ⟨bI ?_,_,rfl⟩;have e1:(R:Int) / 2 ^ (16 - k)=((R / 2 ^ (16 - k):Nat):Int):=by push_cast;rfl
 have h2:R / 2 ^ (16 - k)<=R:=Nat.div_le_self _ _;have h3:=HC.out.1;rw [e1];generalize R / 2 ^ (16 - k)=D at*;rw [YU _ (by omega),h3]
theorem eA (f m:Nat) (h:m≠0):Pm.bl (f+1) m=Pm.bl f (m / 2)+1:=by rw [Pm.bl,ZO h]
theorem BN:∀ a:Nat,a < 256->Pm.bl 8 a=Pm.bl 16 a:=by decide+kernel
theorem A5 (x:Nat) (h:256<=x) (h2:x < 65536):Pm.bl 16 x=Pm.bl 16 (x / 256)+8:=by
 rw [eA 15 x (by omega),eA 14 _ (by omega),eA 13 _ (by omega),eA 12 _ (by omega),eA 11 _ (by omega),eA 10 _ (by omega),eA 9 _ (by omega),eA 8 _ (by omega)];have e:x / 2 / 2 / 2 / 2 / 2 / 2 / 2 / 2=x / 256:=by omega
 rw [e,BN _ (by omega)]
theorem uD:∀ x:Nat,x < 256->Lib.len8 (x:Int)=((Pm.bl 16 x:Nat):Int):=by decide+kernel
theorem Ar:∀ x:Nat,x < 256->Pm.bl 16 x<=8:=by decide+kernel
theorem xw (w:World) (X:Int) (B:Nat) (h0:0<=X) (h1:X<=255) (HL:Hid (Lib.len8 X=(B:Int))) (hB:B<=8):
  QE 272 #[.int .u64 X] w B:=by
 have g1:¬ (4294967296:Int)<=X:=by omega
 have g2:¬ (65536:Int)<=X:=by omega
 have g3:¬ (256:Int)<=X:=by omega
 go_enter func272,ntmps272
 go_wp2;go_ret;refine ⟨bI ?_,rfl⟩;rw [HL.out];rw [YU (B:Int) (by omega),YU (B:Int) (by omega)]
theorem xo (w:World) (X:Int) (B:Nat) (h1:256<=X) (hx:X < 65536) (HL:Hid (Lib.len8 (X / 256)=(B:Int))) (hB:B<=8):
  QE 272 #[.int .u64 X] w (B+8:Nat):=by
 have g1:¬ (4294967296:Int)<=X:=by omega
 have g2:¬ (65536:Int)<=X:=by omega
 have h0:0<=X / 256:=by omega
 have h2:X / 256<=255:=by omega
 go_enter func272,ntmps272
 go_wp2;go_ret;refine ⟨bI ?_,rfl⟩;rw [HL.out]
 first | omega | (rw [YU (B:Int) (by omega)];first | done | omega | (rw [YU _ (by omega)];omega))
theorem wZ (w:World) (x:Nat) (hx:x < 65536):
  QE 272 #[.int .u64 x] w (Pm.bl 16 x:Nat):=by
 by_cases h:x < 256
 ·exact xw w (x:Int) _ (by omega) (by omega) (uD x h) (Ar x h)
 ·rw [A5 x (by omega) hx];have e1:((x / 256:Nat):Int)=(x:Int) / 256:=by omega
  exact xo w (x:Int) _ (by omega) (by omega) (by show _=_;rw [<-e1];exact uD (x / 256) (by omega)) (Ar (x / 256) (by omega))
theorem uC (w:World) (x:Nat) (hx:x < 65536):
  QE 266 #[.int .u64 x] w (Pm.bl 16 x:Nat):=by
 go_enter func266,ntmps266
 go_wp2_with fail
 refine (wZ w x hx).mono ?_;rintro e w1 ⟨rfl,rfl⟩;go_wp2;go_ret;exact ⟨rfl,rfl⟩
theorem lX {a b c d e f:Int} (h:a=b) (g:c=d) (k:e=f):Ending.returned (.tuple #[a,c,e])=.returned (.tuple #[b,d,f]):=by rw [h,g,k]
theorem mU (w:World) (c:Nat) (hc:c < 288):
  QE 235 #[c] w (.tuple #[((Pm.aI c).1:Nat),((Pm.aI c).2:Nat)]):=by
 by_cases h1:c < 144
 ·have e:Pm.aI c=(48+c,8):=by unfold Pm.aI;rw [ZN h1]
  rw [e];clear e;go_enter func235,ntmps235
  go_wp2;go_ret2;exact ⟨pW (by simp) rfl,rfl⟩
 ·by_cases h2:c < 256
  ·have e:Pm.aI c=(400+c - 144,9):=by unfold Pm.aI;rw [ZO h1,ZN h2]
   rw [e];clear e;go_enter func235,ntmps235
   go_wp2;go_ret2;exact ⟨pW (by first | omega | (simp;omega)) rfl,rfl⟩
  ·by_cases h3:c < 280
   ·have e:Pm.aI c=(c - 256,7):=by unfold Pm.aI;rw [ZO h1,ZO h2,ZN h3]
    rw [e];clear e;go_enter func235,ntmps235
    go_wp2;go_ret2;exact ⟨pW (by first | omega | (simp;omega)) rfl,rfl⟩
   ·have e:Pm.aI c=(192+c - 280,8):=by unfold Pm.aI;rw [ZO h1,ZO h2,ZO h3]
    rw [e];clear e;go_enter func235,ntmps235
    go_wp2;go_ret2;exact ⟨pW (by first | omega | (simp;omega)) rfl,rfl⟩
theorem tT (m W:Nat) (hW:W<=16) (hm:m < 65536):bits .and .i64 (m:Int) ((2:Int) ^ W - 1)=((m % 2 ^ W:Nat):Int):=by
 have hF:2 ^ W<=65536:=ZU (YM (by decide) hW) (by decide);have h0:=YH W;have e1:((2:Int) ^ W - 1)=((2 ^ W - 1:Nat):Int):=by
  have e2:(2:Int) ^ W=((2 ^ W:Nat):Int):=by push_cast;rfl
  rw [e2];omega
 rw [e1];have key:(BitVec.ofInt 64 (m:Int)&&& BitVec.ofInt 64 ((2 ^ W - 1:Nat):Int)).toNat=m % 2 ^ W:=by
  have a1:(BitVec.ofInt 64 (m:Int)).toNat=m:=by rw [Xx];omega
  have a2:(BitVec.ofInt 64 ((2 ^ W - 1:Nat):Int)).toNat=2 ^ W - 1:=by rw [Xx];omega
  rw [BitVec.toNat_and,a1,a2,XR]
 show IntKind.i64.wrap ((BitVec.ofInt 64 (m:Int)&&& BitVec.ofInt 64 ((2 ^ W - 1:Nat):Int)).toNat:Nat)=_
 rw [key];have:=Yy m h0;exact IntWalk.i64_in _ (by omega)
theorem rz (m W:Nat) (hW:W<=16) (hm:m < 65536):bits .and .i64 (m:Int) (wrap64 (wrap64 (2 ^ W) - 1))=((m % 2 ^ W:Nat):Int):=by
 have hF:2 ^ W<=65536:=ZU (YM (by decide) hW) (by decide);have h0:=YH W;have e2:(2:Int) ^ W=((2 ^ W:Nat):Int):=by push_cast;rfl
 have e3:wrap64 ((2:Int) ^ W)=(2:Int) ^ W:=by rw [e2];exact YU _ (by omega)
 have e4:wrap64 ((2:Int) ^ W - 1)=(2:Int) ^ W - 1:=by rw [e2];exact YU _ (by omega)
 rw [e3,e4];exact tT m W hW hm
theorem rm (K m W:Nat) (hK:K<=1000) (hm:m < 65536):wrap64 ((K:Int)+(m:Int) / 2 ^ W)=((K+m / 2 ^ W:Nat):Int):=by
 have e:(m:Int) / 2 ^ W=((m / 2 ^ W:Nat):Int):=by push_cast;rfl
 have h:=Nat.div_le_self m (2 ^ W);rw [e];generalize m / 2 ^ W=D at*;rw [YU _ (by omega)];omega
theorem Bi:∀ m:Nat,m < 256->8<=m->4<=Pm.bl 16 m/\Pm.bl 16 m<=8:=by decide+kernel
theorem nK (w:World) (n:Nat) (h1:3<=n) (h2:n<=258):
  QD 232 #[n] w (.tuple #[((Pm.bN n).1:Nat),((Pm.bN n).2.1:Nat),((Pm.bN n).2.2:Nat)]):=by
 by_cases h:n=258
 ·subst h;have e:Pm.bN 258=(285,0,0):=by decide
  rw [e];go_enter func232,ntmps232
  go_wp2;go_ret3;exact ⟨rfl,0,rfl⟩
 ·have hq:((n:Int)==258)=false:=by rw [Ys];omega
  by_cases h8:n - 3 < 8
  ·have e:Pm.bN n=(257+(n - 3),0,0):=by unfold Pm.bN;rw [ZO h,ZN h8]
   rw [e];clear e;go_enter func232,ntmps232
   go_wp2;go_ret3;exact ⟨lX (by first | omega | (simp;omega)) rfl rfl,0,rfl⟩
  ·have e:Pm.bN n=(257+4*(Pm.bl 16 (n - 3) - 3)+(n - 3) / 2 ^ (Pm.bl 16 (n - 3) - 3),(n - 3) % 2 ^ (Pm.bl 16 (n - 3) - 3),Pm.bl 16 (n - 3) - 3):=by unfold Pm.bN;rw [ZO h,ZO h8]
   rw [e];clear e;have hb:=Bi (n - 3) (by omega) (by omega);have HLen:=ai (fun wx=>uC wx (n - 3) (by omega));generalize hm:n - 3=m at*;have hnm:(n:Int) - 3=(m:Int):=by omega
   have HM:Hid (n=m+3):=by show _=_;omega
   generalize Pm.bl 16 m=L at*;obtain ⟨W,rfl⟩:∃ W,L=W+3:=⟨L - 3,by omega⟩;have hW:W+3 - 3=W:=by omega
   rw [hW];have HA:=ai (rz m W (by omega) (by omega));have HC:=ai (rm (257+4*W) m W (by omega) (by omega));clear hm hW;go_enter func232,ntmps232
   go_wp2_with fail
   refine (HLen.out _).mono ?_;rintro e w1 ⟨rfl,rfl⟩;go_wp2;go_quiet (fail)
   go_wp2;go_ret3;refine ⟨lX ?_ HA.out rfl,_,rfl⟩;have:=HC.out
   push_cast at this ⊢
   exact this
theorem A_ (f m:Nat):Pm.bl f m<=f:=by
 induction f generalizing m with
 | zero=>simp [Pm.bl]
 | succ f ih=>
  rw [Pm.bl];split
  ·omega
  ·have:=ih (m / 2);omega
theorem AM (m:Nat) (h:4<=m):3<=Pm.bl 16 m:=by
 rw [eA 15 m (by omega),eA 14 _ (by omega),eA 13 _ (by omega)];omega
theorem qy (w:World) (d:Nat) (h1:1<=d) (h2:d<=32768):
  QD 233 #[d] w (.tuple #[((Pm.bB d).1:Nat),((Pm.bB d).2.1:Nat),((Pm.bB d).2.2:Nat)]):=by
 by_cases h8:d - 1 < 4
 ·have e:Pm.bB d=(d - 1,0,0):=by unfold Pm.bB;rw [ZN h8]
  rw [e];clear e;go_enter func233,ntmps233
  go_wp2;go_ret3;exact ⟨lX (by first | omega | (simp;omega)) rfl rfl,0,rfl⟩
 ·have e:Pm.bB d=(2*(Pm.bl 16 (d - 1) - 2)+(d - 1) / 2 ^ (Pm.bl 16 (d - 1) - 2),(d - 1) % 2 ^ (Pm.bl 16 (d - 1) - 2),Pm.bl 16 (d - 1) - 2):=by unfold Pm.bB;rw [ZO h8]
  rw [e];clear e;have hb1:=AM (d - 1) (by omega);have hb2:=A_ 16 (d - 1);have HLen:=ai (fun wx=>uC wx (d - 1) (by omega));generalize hm:d - 1=m at*;have hnm:(d:Int) - 1=(m:Int):=by omega
  generalize Pm.bl 16 m=L at*;obtain ⟨W,rfl⟩:∃ W,L=W+2:=⟨L - 2,by omega⟩;have hW:W+2 - 2=W:=by omega
  rw [hW];have HA:=ai (rz m W (by omega) (by omega));have HC:=ai (rm (2*W) m W (by omega) (by omega));have hm8:4<=m:=by omega
  have hm9:m < 32768:=by omega
  clear hm hW;go_enter func233,ntmps233
  go_wp2_with fail
  refine (HLen.out _).mono ?_;rintro e w1 ⟨rfl,rfl⟩;go_wp2;go_quiet (fail)
  go_wp2;go_ret3;refine ⟨lX ?_ HA.out rfl,_,rfl⟩;have:=HC.out
  push_cast at this ⊢
  exact this
def BK (w:World) (P base:Nat) (vf:Value) (F:List UInt8) (H n:Nat) (v k:Nat) (w':World):Prop:=
 ∃ vf' F' H' n',BW w' P base vf' F' H' n'/\n' < 8/\dt F' H'=dt F H+v*2 ^ (8*F.length+n)/\8*F'.length+n'=8*F.length+n+k/\cd P vf w vf' w'
theorem rh (w:World) (P base:Nat) (vf:Value) (F:List UInt8) (H n v k:Nat) (h:BW w P base vf F H n) (hP:P < w.heap.size) (hn:n < 8) (hk:k < 10) (hv:v < 2 ^ k) (hF:F.length<=50000000):
  CP 234 #[zq P 1,v,k] w fun e w'=>e=.returned (.tuple #[])/\BK w P base vf F H n (Pm.ee k v) k w':=by
 have hv5:v < 512:=ZK hv (ZU (YM (by decide) (show k<=9 by omega)) (by decide));have hr:=(Pm.je k hk v hv5 hv).2;go_enter func234,ntmps234
 go_wp2_with fail
 refine (oA w v k hk hv).mono ?_;rintro e w1 ⟨rfl,z,rfl⟩;go_wp2_with fail
 refine (iR (w.drewN z) P base vf F H n _ k (h.drewN z) hP hn hr (by omega) hF).mono ?_;rintro e w2 ⟨rfl,vf',F',H',n',b1,b2,b3,b4,b5⟩;go_wp2;go_end0;exact ⟨rfl,vf',F',H',n',b1,b2,b3,b4,((cd.refl P vf w).drewN z).trans b5⟩
theorem fR (w:World) (P base:Nat) (vf:Value) (F:List UInt8) (H n c:Nat) (h:BW w P base vf F H n) (hP:P < w.heap.size) (hn:n < 8) (hc:c < 288) (hF:F.length<=50000000):
  CP 201 #[zp P,c] w fun e w'=>e=.returned (.tuple #[])/\BK w P base vf F H n (Pm.sb c) (Pm.aI c).2 w':=by
 have hs:=Pm.dY c hc;unfold Pm.sb;go_enter func201,ntmps201
 go_wp2_with fail
 refine (mU w c hc).mono ?_;rintro e w1 ⟨rfl,rfl⟩;go_wp2_with fail
 refine (rh _ P base vf F H n _ _ h hP hn (by omega) hs.1 hF).mono ?_;rintro e w2 ⟨rfl,hp⟩;go_wp2;go_end0;exact ⟨rfl,hp⟩
theorem yt (w:World) (P base:Nat) (vf:Value) (F:List UInt8) (H n:Nat) (h:BW w P base vf F H n) (hP:P < w.heap.size) (hn:n < 8) (hF:F.length<=50000000):
  CP 202 #[zq P 1] w fun e w'=>e=.returned (.tuple #[])/\BK w P base vf F H n 0 ((8 - n) % 8) w':=by
 have c3:=h.c3;by_cases h0:n=0
 ·subst h0;go_enter func202,ntmps202
  go_wp2;go_end0;exact ⟨rfl,vf,F,H,0,h,by omega,by simp,by omega,cd.refl P vf w⟩
 ·have e8:(8 - n) % 8=8 - n:=by omega
  rw [e8];obtain ⟨k,hk⟩:∃ k,k=8 - n:=⟨_,rfl⟩;have HP:=ai (fun wx (hx:BW wx P base vf F H n) (hp:P < wx.heap.size)=>iR wx P base vf F H n 0 k hx hp hn (YH k) (by omega) hF);have e9:(8:Int) - (n:Int)=(k:Int):=by omega
  rw [<-hk];clear hk e8;go_enter func202,ntmps202
  go_wp2_with fail
  refine (HP.out _ h hP).mono ?_;rintro e w2 ⟨rfl,hp⟩;go_wp2;go_end0;exact ⟨rfl,hp⟩
structure PW (w:World) (P base:Nat) (vw vs:Value) (W:List UInt8) (Sn:List Int) (at_ gone:Nat):Prop where
 c6:w.cell? (zq P 6)=some vw
 c7:w.cell? (zq P 7)=at_
 c8:w.cell? (zq P 8)=gone
 c9:w.cell? (zq P 9)=some vs
 f7:w.frozen? (zq P 7)=false
 ow:w.ownsRow base 5 1 vw W.length (cells W)
 os:w.ownsRow base 3 1 vs 4096 (Sn.map (Value.int .i64))
 nw:vw.ownBlock≠some P
 ns:vs.ownBlock≠some P
 hP:P < w.heap.size
theorem PW.drewN {w:World} {P base:Nat} {vw vs:Value} {W:List UInt8} {Sn:List Int} {at_ gone:Nat} (h:PW w P base vw vs W Sn at_ gone) (q:Nat):PW (w.drewN q) P base vw vs W Sn at_ gone:=⟨h.c6,h.c7,h.c8,h.c9,h.f7,h.ow,h.os,h.nw,h.ns,h.hP⟩
theorem jJ {w:World} {base:Nat} {v:Value} {l:List UInt8} (h:w.ownsRow base 5 1 v l.length (cells l)) (hn:0 < l.length):
  ∃ g cap,v=.slice (zp g) l.length cap/\l.length<=cap/\base<=g/\(∀ i,i < l.length->w.cell? (zq g i)=some (.int .u8 ((l.getD i 0).toNat:Nat))):=by
 rcases h.2 with ⟨_,h0⟩ | ⟨g,cap,cur,rfl,hb,hg,hle,_⟩
 ·omega
 ·refine ⟨g,cap,rfl,hle,hb,fun i hi=>?_⟩;have hx:(cells l)[i]? =some (.int .u8 ((l.getD i 0).toNat:Nat)):=by
   simp [cells,ZM hi]
  have:=h.cells (g:=g) rfl i _ hx;have hadd:(⟨g,0,none⟩:Addr).add i=⟨g,i,none⟩:=by unfold Addr.add;split <;> simp_all
  rwa [hadd] at this
def Ah (b0 b1 b2 b3:UInt8):Int:=bits BinOp.or IntKind.u32 (bits BinOp.or IntKind.u32 (bits BinOp.or IntKind.u32 (b0.toNat:Int) ((b1.toNat:Int)*256)) ((b2.toNat:Int)*65536)) ((b3.toNat:Int)*16777216)*2654435761 % 4294967296 / 1048576
def iG (W:List UInt8) (i:Nat):Nat:=(Ah (W.getD i 0) (W.getD (i+1) 0) (W.getD (i+2) 0) (W.getD (i+3) 0)).toNat
theorem yu (b0 b1 b2 b3:UInt8):0<=Ah b0 b1 b2 b3/\Ah b0 b1 b2 b3 < 4096:=by unfold Ah;omega
theorem uG (W:List UInt8) (i:Nat):iG W i < 4096:=by
 have:=yu (W.getD i 0) (W.getD (i+1) 0) (W.getD (i+2) 0) (W.getD (i+3) 0);unfold iG;omega
theorem uQ (w:World) (P base:Nat) (vw vs:Value) (W:List UInt8) (Sn:List Int) (at_ gone i:Nat) (h:PW w P base vw vs W Sn at_ gone) (hi:i+4<=W.length) (hW:W.length<=10000000):
  QD 265 #[zp P,i] w (iG W i:Nat):=by
 have c6:=h.c6;unfold iG;obtain ⟨g,cap,hv,hle,hb,hcell⟩:=jJ h.ow (by omega);have hcm:cap<=9223372036854775807:=by
  rcases h.ow.2 with ⟨_,h0⟩ | ⟨g',cap',cur,hv',_,_,_,hcm,_⟩
  ·omega
  ·rw [hv] at hv';cases hv';exact hcm
 subst hv;have k0:=hcell i (by omega);have k1:=hcell (i+1) (by omega);have k2:=hcell (i+2) (by omega);have k3:=hcell (i+3) (by omega);clear hcell;generalize W.getD i 0=b0 at*;generalize W.getD (i+1) 0=b1 at*;generalize W.getD (i+2) 0=b2 at*;generalize W.getD (i+3) 0=b3 at*;have h4:i+4 - i=4:=by omega
 have hx0:=b0.toNat_lt;have hx1:=b1.toNat_lt;have hx2:=b2.toNat_lt;have hx3:=b3.toNat_lt;go_enter func265,ntmps265
 go_wp2;go_quiet (fail)
 go_wp2;go_ret;refine ⟨bI ?_,_,rfl⟩;have:=yu b0 b1 b2 b3;rw [XV this.1];rfl
end Go.Proofs.YtbklfkpjoinofaaGreatDoor
