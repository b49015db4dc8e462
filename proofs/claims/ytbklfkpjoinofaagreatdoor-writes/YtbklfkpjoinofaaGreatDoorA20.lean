import Derived.Test.YtbklfkpjoinofaaGreatDoorA15
import Derived.Test.YtbklfkpjoinofaaGreatDoorA16
import Derived.Test.YtbklfkpjoinofaaGreatDoorA17
import Derived.Test.YtbklfkpjoinofaaGreatDoorA18
import Derived.Test.YtbklfkpjoinofaaGreatDoorA19
set_option linter.all false
set_option maxRecDepth 100000
set_option maxHeartbeats 8000000
namespace Go.Proofs.YtbklfkpjoinofaaGreatDoor
open Go.RowKit Go.Proofs.Tryz
theorem aZ.below {B c a:Nat} {s:ByteArray} {w w':World} {S S':Bl} (h:aZ B c s a w S) (m:Mv S w S' w') (hB:B<=w.heap.size):Below B w w':=m.below (fun _ e=>(aS.thing B c _).ge h e) hB
theorem au.first_ne {s:ByteArray} {a:Nat} {c d:UInt8} {t:List UInt8} (h:au s a (c::t)) (hne:c≠d):¬ au s a [d]:=by
 intro g;obtain ⟨_,e1⟩:=h.byte;obtain ⟨_,e2⟩:=g.byte;exact hne (e1.symm.trans e2)
theorem rD (u:Nat):∃ c r,Lib.decDigits u=c::r/\48<=c.toNat/\c.toNat<=57:=by
 cases h:Lib.decDigits u with
 | nil=>have:=Lib.nDigits_pos u;rw [<-Lib.decDigits_length,h] at this;simp at this
 | cons c r=>exact ⟨c,r,rfl,mV u c (by rw [h];simp)⟩
theorem lB (w:World) (B c a:Nat) (s:ByteArray) (S:Bl) (n:Int) (x:UInt8) (h:aZ B c s a w S) (hB:B<=w.heap.size) (ht:bU B w) (hs:s.size<=2000000000) (h0:-100000000<=n) (h1:n<=100000000) (hg:au s a (bJ n++[x])) (hx:x.toNat < 48\/57 < x.toNat) (hx2:x≠46):
  CP 119 #[zp c] w fun e w'=>e=.returned n/\aZ B c s (a+(bJ n).length) w' S/\Mv S w S w':=by
 have hL:∀ wx,Mv S w S wx->QB 161 #[n] wx (.string (s.extract a (a+(bJ n).length))):=fun wx m=>by
  rw [hg.left.ext];exact jw B wx n h0 h1 (ht.on (h.below m hB))
 obtain ⟨q,hq⟩:∃ q,q=n.natAbs / 1000:=⟨_,rfl⟩;obtain ⟨m,hm⟩:∃ m,m=n.natAbs % 1000:=⟨_,rfl⟩;have hle:=hg.le;have hlen:bJ n=(if n < 0 then [45] else [])++Lib.decDigits q++cq m:=by
  unfold bJ;rw [<-hq, <-hm,Lib.itoa_nonneg]
 obtain ⟨fv,fd,fl,fc⟩:=Ai m (by omega);have ft:=vi m (by omega);obtain ⟨d0,dr,hd0,hd1,hd2⟩:=rD q;have hsz:0 < (Lib.decDigits q).length:=by rw [hd0];simp
 simp only [ZZ,Yn] at hle;have h45:d0≠45:=fun e=>by rw [e] at hd1;revert hd1;decide
 by_cases hneg:n < 0
 ·rw [ZO hneg] at hlen;have hg1:au s a ([45]++(Lib.decDigits q++(cq m++[x]))):=by rw [hlen] at hg;simpa using hg
  have hg2:=hg1.right;have H1:=fun wx a0 a1=>iR wx c a s ⟨#[45]⟩ a0 a1 hs (by decide) hg1.left
  by_cases hm0:m=0
  ·subst hm0;have hg3:au s (a+1) (Lib.decDigits q++[x]):=by simpa [cq] using hg2
   have hel:a+(bJ n).length=a+1+(Lib.decDigits q).length:=by rw [hlen];simp [cq];omega
   rw [hel] at hL ⊢;exact zJ w B c a (a+1) q (a+1+(Lib.decDigits q).length) n s S h hs (by omega) (by omega) (by omega) rfl (by omega) (by show n=_;omega) H1
    (fun wx hc=>dQ wx B c (a+1) s S q x hc hs (by omega) hg3 hx)
    (fun wx a0 a1=>lZ wx c _ s ⟨#[46]⟩ a0 a1 hs (by decide) (by omega) (hg3.right.first_ne hx2)) hL
  ·have hf:=fc hm0;have hg3:au s (a+1) (Lib.decDigits q++([46]++((cq m).drop 1++[x]))):=by
    have:au s (a+1) (Lib.decDigits q++(cq m++[x])):=hg2;rw [hf] at this;simpa using this
   have hg4:=hg3.right;have hg5:=hg4.right;have hel:a+(bJ n).length=a+1+(Lib.decDigits q).length+1+((cq m).drop 1).length:=by rw [hlen,hf];simp;omega
   have hle2:=hg5.le;simp only [ZZ,Yn] at hle2;rw [hel] at hL ⊢;exact An w B c a (a+1) q (a+1+(Lib.decDigits q).length) (a+1+(Lib.decDigits q).length+1) _ m ((cq m).drop 1) x n s S h hs (by omega) (by omega) (by omega) rfl (by omega) rfl (by omega) rfl (by omega) (by simp at hle2;omega) fl fd hg5 hx ft fv (by omega) (by show n=_;omega) H1
    (fun wx hc=>dQ wx B c (a+1) s S q 46 hc hs (by omega) (by have:=hg3;rw [<-ZQ] at this;exact this.left) (by decide))
    (fun wx a0 a1=>iR wx c _ s ⟨#[46]⟩ a0 a1 hs (by decide) hg4.left) hL
 ·rw [ZU hneg,Yx] at hlen;have hg2:au s a (Lib.decDigits q++(cq m++[x])):=by rw [hlen] at hg;simpa using hg
  have H1:=fun wx a0 a1=>lZ wx c a s ⟨#[45]⟩ a0 a1 hs (by decide) (by omega) (by rw [hd0] at hg2;exact au.first_ne (t:=dr++(cq m++[x])) hg2 h45)
  by_cases hm0:m=0
  ·subst hm0;have hg3:au s a (Lib.decDigits q++[x]):=by simpa [cq] using hg2
   have hel:a+(bJ n).length=a+(Lib.decDigits q).length:=by rw [hlen];simp [cq]
   rw [hel] at hL ⊢;exact zW w B c a q (a+(Lib.decDigits q).length) n s S h hs (by omega) (by omega) (by omega) (by show n=_;omega) H1
    (fun wx hc=>dQ wx B c a s S q x hc hs (by omega) hg3 hx)
    (fun wx a0 a1=>lZ wx c _ s ⟨#[46]⟩ a0 a1 hs (by decide) (by omega) (hg3.right.first_ne hx2)) hL
  ·have hf:=fc hm0;have hg3:au s a (Lib.decDigits q++([46]++((cq m).drop 1++[x]))):=by
    have:=hg2;rw [hf] at this;simpa using this
   have hg4:=hg3.right;have hg5:=hg4.right;have hel:a+(bJ n).length=a+(Lib.decDigits q).length+1+((cq m).drop 1).length:=by rw [hlen,hf];simp;omega
   have hle2:=hg5.le;simp only [ZZ,Yn] at hle2;rw [hel] at hL ⊢;exact zO w B c a q (a+(Lib.decDigits q).length) (a+(Lib.decDigits q).length+1) _ m ((cq m).drop 1) x n s S h hs (by omega) (by omega) (by omega) rfl (by omega) rfl (by omega) (by simp at hle2;omega) fl fd hg5 hx ft fv (by omega) (by show n=_;omega) H1
    (fun wx hc=>dQ wx B c a s S q 46 hc hs (by omega) (by have:=hg3;rw [<-ZQ] at this;exact this.left) (by decide))
    (fun wx a0 a1=>iR wx c _ s ⟨#[46]⟩ a0 a1 hs (by decide) hg4.left) hL
theorem Mv.shed {S S' T T':Bl} {w w':World} (h:Mv (cT S T) w (cT S' T') w') (hT:∀ k,T k->w.heap.size<=k):Mv S w S' w':=
 ⟨⟨h.fr.os,h.fr.tape,h.fr.output,h.fr.size,fun k hk hs=>h.fr.keep k hk (fun e=>e.elim hs (fun t=>by have:=hT k t;omega))⟩,fun k e=>by
  rcases h.new k (.inl e) with (a | a) | a
  ·exact .inl a
  ·exact .inr (hT k a)
  ·exact .inr a⟩
def jO (ns:List Int) (k:Nat):List Value:=(ns.take k).map (fun z=>Value.int .i64 z)++List.replicate (4 - k) (.int .i64 0)
theorem yX (ns:List Int) (k:Nat) (hk:k<=ns.length) (hn:ns.length<=4):(jO ns k).length=4:=by simp [jO];omega
theorem yW (ns:List Int) (k:Nat) (hk:k < ns.length) (hn:ns.length<=4):(jO ns k).set k (.int .i64 ns[k])=jO ns (k+1):=by
 unfold jO;rw [ZH hk,XH _ _ (by simp;omega)];rw [show 4 - k=(4 - (k+1))+1 by omega,List.replicate_succ,YG,Zx,Zr (Yu hk),Nat.sub_self,List.set_cons_zero,XQ,ZQ];rfl
theorem jZ (ns:List Int) (hn:ns.length<=4) (j:Nat) (hj:j < 4):(jO ns ns.length)[j]? =some (.int .i64 (ns.getD j 0)):=by
 unfold jO;rw [XW];by_cases h:j < ns.length
 ·rw [Za (by simpa using h)];simp [h]
 ·rw [YQ (by simp;omega)];rw [List.getElem?_replicate];simp only [YG];rw [ZO (by omega),ZB,XG (by omega)];rfl
theorem uy (ns:List Int) (k:Nat) (hk:k < ns.length):∃ r,aG ns=aG (ns.take k)++((bJ ns[k]++[32])++r):=by
 have e:ns=ns.take k++(ns[k]::ns.drop (k+1)):=by rw [<-YZ hk,YI]
 have happ:∀ (a b:List Int),aG (a++b)=aG a++aG b:=by
  intro a b;induction a with
  | nil=>rfl
  | cons x r ih=>simp only [Zy,aG,ih,ZQ]
 refine ⟨aG (ns.drop (k+1)),?_⟩;have h2:=happ (ns.take k) (ns[k]::ns.drop (k+1));rw [<-e] at h2;rw [h2];simp [aG]
theorem pJ (w:World) (B c a:Nat) (s:ByteArray) (S:Bl) (ns:List Int) (h:aZ B c s a w S) (hB:B<=w.heap.size) (ht:bU B w) (hs:s.size<=2000000000) (hn:ns.length<=4) (hr:∀ z∈ns,-100000000<=z/\z<=100000000) (hg:au s a (aG ns)):
  CP 238 #[zp c,(ns.length:Int)] w fun e w'=>e=.returned (.agg #[(ns.getD 0 0:Int),(ns.getD 1 0:Int),(ns.getD 2 0:Int),(ns.getD 3 0:Int)])/\aZ B c s (a+(aG ns).length) w' S/\Mv S w S w':=by
 go_enter func238,ntmps238
 go_wp2_with fail
 obtain ⟨L,hL⟩:∃ L,L=w.heap.size+1:=⟨_,rfl⟩;obtain ⟨w0,hw0⟩:∃ w0,w0=(w.alloc (.cells #[oz,oz,oz,oz] 277)).alloc (.cells #[oz,oz,oz,oz] 277):=⟨_,rfl⟩;have hS:S=cC c:=h.1;have hcl:c < w.heap.size:=h.2.2.1;have r0:aZ B c s a w0 S:=by rw [hw0];exact (aS.thing B c _).alloc ((aS.thing B c _).alloc h _) _
 have r1:aS B L (jO ns 0) w0 (cC L):=by
  rw [hw0,hL];have:=aS.alloc (B:=B) (vs:=[.int .i64 0,.int .i64 0,.int .i64 0,.int .i64 0]) (t:=277) (w:=w.alloc (.cells #[oz,oz,oz,oz] 277)) (by simp;omega);have e0:jO ns 0=[.int .i64 0,.int .i64 0,.int .i64 0,.int .i64 0]:=rfl;rw [e0];simpa using this
 have r2:aS B w.heap.size [.int .i64 0,.int .i64 0,.int .i64 0,.int .i64 0] w0 (cC w.heap.size):=by
  rw [hw0];exact (aS.thing B _ _).alloc (aS.alloc hB) _
 have r3:Mv (cT S (cC L)) w (cT S (cC L)) w0:=by
  rw [hw0];exact ⟨⟨rfl,rfl,rfl,by simp;omega,fun k hk _=>by rw [ZC _ _ k (by simp;omega),ZC _ _ k hk]⟩,fun k e=>.inl e⟩
 rw [<-hw0, <-hL];have HS:=aa hS;have HW:=aa hw0;have HL:=aa hL;have hLc:c≠L:=by omega
 have hLR:w.heap.size < L:=by omega
 have HT:=aa ht;have HG:=aa hg;have HR:=aa hr;clear hw0 hg hr ht hL hS;go_loopg [6] 6 (fun g x wr=>∃ k p:Nat,k<=ns.length/\ns.length - k < g/\x=.int .i64 (k:Int)/\Hid (p=a+(aG (ns.take k)).length)/\aZ B c s p wr S/\aS B L (jO ns k) wr (cC L)/\aS B w.heap.size [.int .i64 0,.int .i64 0,.int .i64 0,.int .i64 0] wr (cC w.heap.size)/\Mv (cT S (cC L)) w (cT S (cC L)) wr/\Hid (wr.heap[w.heap.size]? =some (.cells #[oz,oz,oz,oz] 277 (0,0))))
 case atStart=>exact ⟨0,a,by omega,by omega,rfl,rfl,r0,r1,r2,r3,by show _=_;rw [HW.out];exact XR _ _ _⟩
 case round=>
  obtain ⟨k,p,hk,hgk,rfl,HP,hc,hl,hR,hm,HB⟩:=hrel;clear r0 r1 r2 r3;by_cases hlt:k < ns.length
  ·obtain ⟨z,hz⟩:∃ z,ns[k]=z:=⟨_,rfl⟩;obtain ⟨hz0,hz1⟩:=HR.out z (by rw [<-hz];exact YK hlt);obtain ⟨rest,hrest⟩:=uy ns k hlt;have hg1:au s p ((bJ z++[32])++rest):=by
    have:=HG.out;rw [hrest] at this;rw [HP.out, <-hz];exact this.right
   have hTw:bU B wr:=HT.out.on ((hm.shed (fun k e=>by cases e;omega)).below (fun _ e=>(aS.thing B c _).ge hc e) hB);have hBw:B<=wr.heap.size:=ZN hB hm.size;have HN:Hid (p+(bJ z++[32]).length=a+(aG (ns.take (k+1))).length):=by
    show _=_
    rw [ZH hlt,mJ,hz,HP.out];simp only [ZZ];omega
   have HV:Hid ((jO ns k).set k (.int .i64 z)=jO ns (k+1)):=by
    show _=_
    rw [<-hz];exact yW ns k hlt hn
   have HPL:=aa (yX ns k hk hn);have hoL:oo (cC L) S:=by intro j e1 e2;rw [HS.out] at e2;cases e1;exact hLc e2.symm
   have hoR:oo (cC w.heap.size) S:=by intro j e1 e2;rw [HS.out] at e2;cases e1;have:w.heap.size=c:=e2;omega
   have HO:=aa hoL;have HO2:=aa hoR;clear hrest hz hoL hoR;have HC:=aa (lB wr B c p s S z 32 hc hBw hTw hs hz0 hz1 hg1.left (by decide) (by decide));have hk4:k < 4:=by omega
   go_wp2_with fail
   refine HC.out.mono ?_;rintro e w1 ⟨rfl,h1,m1⟩;have l1:=((aS.thing B L _).on hl m1 HO.out).1;have R1:=((aS.thing B w.heap.size _).on hR m1 HO2.out).1;have fL:=l1.fz k;have hLw:L < w1.heap.size:=l1.2.2.1;obtain ⟨uo,huo⟩:∃ uo,(jO ns k)[k]? =some uo:=⟨(jO ns k)[k]'(by rw [HPL.out];exact hk4),ZK _⟩;have cL:=l1.at k uo huo;go_wp2_with fail
   obtain ⟨l2,mL⟩:=l1.set k (.int .i64 z) (by rw [HPL.out];exact hk4);have h2:=((aS.thing B c _).on h1 mL HO.out.symm).1;have R2:=((aS.thing B w.heap.size _).on R1 mL (fun j e1 e2=>by cases e1;have:w.heap.size=L:=e2;omega)).1;refine (bX _ B c (p+(bJ z).length) s ⟨#[32]⟩ S h2 hs hg1.left.right).mono ?_;rintro e w3 ⟨rfl,h3,m3⟩;have l3:=((aS.thing B L _).on l2 m3 HO.out).1;have R3:=((aS.thing B w.heap.size _).on R2 m3 HO2.out).1;have mA:Mv (cT S (cC L)) w (cT S (cC L)) w3:=by
    refine hm.trans ?_;refine (Mv.mono m1 (fun _ e=>.inl e) (T':=cT S (cC L)) ?_).trans ((Mv.mono mL (T:=cT S (cC L)) (fun _ e=>.inr e) (T':=cT S (cC L)) ?_).trans (Mv.mono m3 (T:=cT S (cC L)) (fun _ e=>.inl e) (T':=cT S (cC L)) ?_))
    ·exact fun _ e=>e.elim .inl (fun e=>.inr (.inr e))
    ·exact fun _ e=>e.elim (fun e=>.inr (.inl e)) .inl
    ·exact fun _ e=>e.elim .inl (fun e=>.inr (.inr e))
   rw [HV.out] at l3;have HB3:Hid (w3.heap[w.heap.size]? =some (.cells #[oz,oz,oz,oz] 277 (0,0))):=by
    show _=_
    rw [m3.keep R2.2.2.1 (HO2.out _ rfl),mL.keep R1.2.2.1 (fun e=>by have:w.heap.size=L:=e;omega),m1.keep hR.2.2.1 (HO2.out _ rfl)];exact HB.out
   go_wp2_with fail
   go_roundg (gk - 1)
   case measure=>omega
   case rel=>
    refine ⟨k+1,p+(bJ z++[32]).length,hlt,by omega,by go_num,HN,?_,l3,R3,mA,HB3⟩;have e4:p+(bJ z++[32]).length=p+(bJ z).length+(⟨#[32]⟩:ByteArray).size:=by simp [ByteArray.size,Zn]
    rw [e4];exact h3
  ·have hkl:k=ns.length:=by omega
   subst hkl;have g0:=hl.at 0 _ (jZ ns hn 0 (by omega));have g1:=hl.at 1 _ (jZ ns hn 1 (by omega));have g2:=hl.at 2 _ (jZ ns hn 2 (by omega));have g3:=hl.at 3 _ (jZ ns hn 3 (by omega));have s0:=hR.at 0 _ rfl;have s1:=hR.at 1 _ rfl;have s2:=hR.at 2 _ rfl;have s3:=hR.at 3 _ rfl;have f0:=hR.fz 0;have f1:=hR.fz 1;have f2:=hR.fz 2;have f3:=hR.fz 3;have hRw:w.heap.size < wr.heap.size:=hR.2.2.1;obtain ⟨z0,hz0⟩:∃ z,z=ns.getD 0 0:=⟨_,rfl⟩;obtain ⟨z1,hz1⟩:∃ z,z=ns.getD 1 0:=⟨_,rfl⟩;obtain ⟨z2,hz2⟩:∃ z,z=ns.getD 2 0:=⟨_,rfl⟩;obtain ⟨z3,hz3⟩:∃ z,z=ns.getD 3 0:=⟨_,rfl⟩;rw [<-hz0] at g0;rw [<-hz1] at g1;rw [<-hz2] at g2;rw [<-hz3] at g3;have HZ:=aa (show [z0,z1,z2,z3]=[ns.getD 0 0,ns.getD 1 0,ns.getD 2 0,ns.getD 3 0] by rw [hz0,hz1,hz2,hz3]);clear hz0 hz1 hz2 hz3;have HB4:=aa (ZD _ w.heap.size 3 _ _ z3 (ZD _ w.heap.size 2 _ _ z2 (ZD _ w.heap.size 1 _ _ z1 (ZD _ w.heap.size 0 _ _ z0 HB.out))));have HC:=aa hc;have HM:=aa hm;have HRR:=aa hR;go_wp2_with fail
   refine Zb (YL rfl _ _ w.heap.size 277 #[z0,z1,z2,z3] (0,0) _ rfl HB4.out underlying277 rfl (by kernel_rfl)) rfl ?_;have hz:=HZ.out;simp only [List.cons.injEq,and_true] at hz;obtain ⟨rfl,rfl,rfl,rfl⟩:=hz;obtain ⟨a0,b0⟩:=HRR.out.set 0 (.int .i64 (ns.getD 0 0)) (by simp);obtain ⟨a1,b1⟩:=a0.set 1 (.int .i64 (ns.getD 1 0)) (by simp);obtain ⟨a2,b2⟩:=a1.set 2 (.int .i64 (ns.getD 2 0)) (by simp);obtain ⟨a3,b3⟩:=a2.set 3 (.int .i64 (ns.getD 3 0)) (by simp);have bb:=b0.trans (b1.trans (b2.trans b3));have hoff:oo S (cC w.heap.size):=by intro j e1 e2;rw [HS.out] at e1;cases e2;have:w.heap.size=c:=e1;omega
   have hfin:=((aS.thing B c _).on HC.out bb hoff).1;have hP:=HP.out;rw [XW] at hP;rw [hP] at hfin;have hM:=HM.out.shed (fun k e=>by cases e;omega);refine ⟨rfl,hfin,?_⟩;exact ⟨⟨bb.fr.os.trans hM.fr.os,bb.fr.tape.trans hM.fr.tape,bb.fr.output.trans hM.fr.output,ZN hM.fr.size bb.fr.size,fun k hk hs=>by rw [bb.fr.keep k (ZR hk hM.fr.size) (fun e=>by have:k=w.heap.size:=e;omega)];exact hM.fr.keep k hk hs⟩,fun k e=>.inl e⟩
theorem lf (w:World) (B c a:Nat) (s:ByteArray) (S:Bl) (l:List UInt8) (h:aZ B c s a w S) (hs:s.size<=2000000000) (hl:l.length<=10000) (hg:au s a (bc l)):
  CP 122 #[zp c] w fun e w'=>e=.returned (.string ⟨l.toArray⟩)/\aZ B c s (a+(bc l).length) w' S/\Mv S w S w':=by
 have hle:=hg.le;have hg2:au s a ([40]++(bH l++[41])):=by unfold bc at hg;simpa using hg
 have hlen:(bc l).length=1+(bH l).length+1:=by unfold bc;simp;omega
 have he:=hg.ext;rw [hlen] at hle he ⊢;refine pz w B c a (a+1) (a+(1+(bH l).length+1)) s S l h hs hl hg2.right rfl (by show _=_;omega) hle (by omega) (fun wx hc=>bX wx B c a s ⟨#[40]⟩ S hc hs hg2.left) (fun wx p hp hc=>?_) (fun wx=>?_)
 ·have hpe:p=a+1+(bH l).length:=by omega
  have:=bX wx B c p s ⟨#[41]⟩ S hc hs (by rw [hpe];exact hg2.right.right);have e:p+(⟨#[41]⟩:ByteArray).size=a+(1+(bH l).length+1):=by rw [<-hp];rfl
  rw [e] at this;exact this
 ·rw [he];have hsz:(⟨l.toArray⟩:ByteArray).size<=10000000:=by simp [ByteArray.size];omega
  have:=jr wx ⟨l.toArray⟩ hsz;simpa using this
theorem jf (w:World) (B c a:Nat) (s t:ByteArray) (S:Bl) (h:aZ B c s a w S) (hs:s.size<=2000000000) (hg:au s a t.data.toList):
  CP 163 #[zp c,t] w fun e w'=>e=.returned true/\aZ B c s a w' S/\Mv S w S w':=
 (iR w c a s t (h.at 0 _ rfl) (h.at 1 _ rfl) hs (by have:=hg.le;rw [aP] at this;omega) hg).mono (by rintro e w' ⟨rfl,q,rfl⟩;exact ⟨rfl,h.drewN q,(Mv.refl _ _).drewN q⟩)
theorem eP (w:World) (B c a:Nat) (s t:ByteArray) (S:Bl) (h:aZ B c s a w S) (hs:s.size<=2000000000) (ht:t.size<=2000000000) (ha:a<=s.size) (hg:¬ au s a t.data.toList):
  CP 163 #[zp c,t] w fun e w'=>e=.returned false/\aZ B c s a w' S/\Mv S w S w':=
 (lZ w c a s t (h.at 0 _ rfl) (h.at 1 _ rfl) hs ht ha hg).mono (by rintro e w' ⟨rfl,q,rfl⟩;exact ⟨rfl,h.drewN q,(Mv.refl _ _).drewN q⟩)
theorem aj {w:World} {b i:Nat} {cs:Array Value} {t:TypeId} {fr:Nat×Nat} (h:w.heap[b]? =some (.cells cs t fr)):w.cell? (zq b i)=cs[i]? :=by
 simp [World.cell?,h]
theorem cD {w:World} {b i:Nat} {cs:Array Value} {t:TypeId} (h:w.heap[b]? =some (.cells cs t (0,0))):w.frozen? (zq b i)=false:=by
 simp [World.frozen?,h]
structure jL (B c:Nat) (s:ByteArray) (S:Bl) (w:World) (bs:List (Nat×Obj)) (p:Nat) (wx:World):Prop where
 cur:aZ B c s p wx S
 mv:Mv S w S wx
 blk:∀ x∈bs,w.heap.size<=x.1/\x.1 < wx.heap.size/\wx.heap[x.1]? =some x.2
theorem jL.at {B c:Nat} {s:ByteArray} {S:Bl} {w wx:World} {bs:List (Nat×Obj)} {p:Nat} (h:jL B c s S w bs p wx) (i:Nat) {b:Nat} {o:Obj} (hi:bs[i]? =some (b,o)):w.heap.size<=b/\b < wx.heap.size/\wx.heap[b]? =some o:=h.blk _ (Ys hi)
theorem jL.here {B c:Nat} {s:ByteArray} {S:Bl} {w:World} {a:Nat} (h:aZ B c s a w S):jL B c s S w [] a w:=⟨h,Mv.refl _ _,by simp⟩
theorem jL.step {B c:Nat} {s:ByteArray} {S:Bl} {w wx wy:World} {bs:List (Nat×Obj)} {p p':Nat} (h:jL B c s S w bs p wx) (hc:c < w.heap.size) (h':aZ B c s p' wy S) (m:Mv S wx S wy):jL B c s S w bs p' wy:=
 ⟨h',h.mv.trans m,fun x hx=>by
  obtain ⟨a1,a2,a3⟩:=h.blk x hx;exact ⟨a1,ZR a2 m.size,by rw [m.keep a2 (fun e=>by rw [h'.1] at e;have:x.1=c:=e;omega)];exact a3⟩⟩
theorem jL.drewN {B c:Nat} {s:ByteArray} {S:Bl} {w wx:World} {bs:List (Nat×Obj)} {p:Nat} (h:jL B c s S w bs p wx) (q:Nat):jL B c s S w bs p (wx.drewN q):=⟨h.cur.drewN q,h.mv.drewN q,h.blk⟩
theorem jL.lay {B c:Nat} {s:ByteArray} {S:Bl} {w wx:World} {bs:List (Nat×Obj)} {p:Nat} (h:jL B c s S w bs p wx) (o:Obj):jL B c s S w ((wx.heap.size,o)::bs) p (wx.alloc o):=
 ⟨(aS.thing B c _).alloc h.cur o,h.mv.trans (Mv.grow ((ZV _ wx).alloc (ZX _) o) S),fun x hx=>by
  rcases List.mem_cons.mp hx with rfl | hx
  ·exact ⟨h.mv.size,by simp,ZE wx o⟩
  ·obtain ⟨a1,a2,a3⟩:=h.blk x hx;exact ⟨a1,by simp;omega,by rw [ZC wx o _ a2];exact a3⟩⟩
theorem jL.set {B c:Nat} {s:ByteArray} {S:Bl} {w wx:World} {bs:List (Nat×Obj)} {p:Nat} (h:jL B c s S w bs p wx) (hc:c < w.heap.size) (b i:Nat) (hb:w.heap.size<=b) (v:Value):jL B c s S w [] p (wx.setCell (zq b i) v):=
 ⟨(aS.thing B c _).keep h.cur (fun k hk=>Yw wx ⟨b,i,none⟩ k v (fun e=>by rw [h.cur.1] at hk;have h1:k=c:=hk;have h2:k=b:=e;omega)) (by simp [World.setCell]),
  ⟨⟨h.mv.fr.os,h.mv.fr.tape,h.mv.fr.output,by have:=h.mv.size;simpa [World.setCell] using this,fun k hk hs=>by rw [Yw wx ⟨b,i,none⟩ k v (fun e=>by have h2:k=b:=e;omega)];exact h.mv.fr.keep k hk hs⟩,fun k e=>.inl e⟩,by simp⟩
theorem jL.put {B c:Nat} {s:ByteArray} {S:Bl} {w wx:World} {bs:List (Nat×Obj)} {p b:Nat} {cs:Array Value} {t:TypeId} (h:jL B c s S w ((b,.cells cs t (0,0))::bs) p wx) (hc:c < w.heap.size) (hne:∀ x∈bs,x.1≠b) (i:Nat) (v:Value):jL B c s S w ((b,.cells (cs.setIfInBounds i v) t (0,0))::bs) p (wx.setCell (zq b i) v):=by
 obtain ⟨h1,h2,h3⟩:=h.at 0 rfl;have hs:=h.set hc b i h1 v;refine ⟨hs.cur,hs.mv,fun x hx=>?_⟩;rcases List.mem_cons.mp hx with rfl | hx
 ·exact ⟨h1,by simpa [World.setCell] using h2,ZD _ _ _ _ _ _ h3⟩
 ·obtain ⟨a1,a2,a3⟩:=h.blk x (List.mem_cons_of_mem _ hx);exact ⟨a1,by simpa [World.setCell] using a2,by rw [Yw wx ⟨b,i,none⟩ _ v (hne x hx)];exact a3⟩
theorem jL.go {B c:Nat} {s:ByteArray} {S:Bl} {w wx:World} {bs:List (Nat×Obj)} {p p':Nat} {z:Int} (h:jL B c s S w bs p wx) (hc:c < w.heap.size) (hz:z=(p':Int)):jL B c s S w bs p' (wx.setCell (zq c 1) z):=by
 obtain ⟨g1,m1⟩:=h.cur.put (b:=p') hz;exact h.step hc g1 m1
theorem zh (w:World) (B c a p1 p2 p3 p4 p5 p6:Nat) (s:ByteArray) (S:Bl) (A X C:Int) (t:ByteArray) (h:aZ B c s a w S)
  (H1:Hid (∀ wx,aZ B c s a wx S->CP 163 #[zp c,.string ⟨#[66,84,32,47,70,49,32]⟩] wx fun e w'=>e=.returned true/\aZ B c s a w' S/\Mv S wx S w'))
  (H2:Hid (∀ wx,aZ B c s a wx S->CP 163 #[zp c,.string ⟨#[113,32]⟩] wx fun e w'=>e=.returned false/\aZ B c s a w' S/\Mv S wx S w'))
  (H3:Hid (∀ wx,aZ B c s a wx S->CP 114 #[zp c,.string ⟨#[66,84,32,47,70,49,32]⟩] wx fun e w'=>e=.returned (.tuple #[])/\aZ B c s p1 w' S/\Mv S wx S w'))
  (H4:Hid (∀ wx,Mv S w S wx->aZ B c s p1 wx S->CP 238 #[zp c,(1:Int)] wx fun e w'=>e=.returned (.agg #[C,oz,oz,oz])/\aZ B c s p2 w' S/\Mv S wx S w'))
  (H5:Hid (∀ wx,aZ B c s p2 wx S->CP 114 #[zp c,.string ⟨#[84,102,32]⟩] wx fun e w'=>e=.returned (.tuple #[])/\aZ B c s p3 w' S/\Mv S wx S w'))
  (H6:Hid (∀ wx,Mv S w S wx->aZ B c s p3 wx S->CP 238 #[zp c,(2:Int)] wx fun e w'=>e=.returned (.agg #[A,X,oz,oz])/\aZ B c s p4 w' S/\Mv S wx S w'))
  (H7:Hid (∀ wx,aZ B c s p4 wx S->CP 114 #[zp c,.string ⟨#[84,100,32]⟩] wx fun e w'=>e=.returned (.tuple #[])/\aZ B c s p5 w' S/\Mv S wx S w'))
  (H8:Hid (∀ wx,aZ B c s p5 wx S->CP 122 #[zp c] wx fun e w'=>e=.returned t/\∃ p,aZ B c s p w' S/\Mv S wx S w'/\∀ wy,aZ B c s p wy S->CP 114 #[zp c,.string ⟨#[32,84,106,32,69,84,10]⟩] wy fun e w'=>e=.returned (.tuple #[])/\aZ B c s p6 w' S/\Mv S wy S w')):
  CP 209 #[zp c] w fun e w'=>e=.returned (.agg #[(1:Int),A,X,C,oz,oz,oz,oz,t])/\aZ B c s p6 w' S/\Mv S w S w':=by
 have hcl:c < w.heap.size:=h.2.2.1;have HO:=aa ((jL.here h).lay (.cells #[oz,oz,oz,oz,oz,oz,oz,oz,.string ⟨#[]⟩] 31));go_enter func209,ntmps209
 go_wp2_with fail
 refine (H1.out _ HO.out.cur).mono ?_;rintro e w1 ⟨rfl,h1,m1⟩;have HO:=aa ((HO.out.step hcl h1 m1));clear h1 m1;go_wp2_with fail
 refine (H2.out _ HO.out.cur).mono ?_;rintro e w2 ⟨rfl,h2,m2⟩;have HO:=aa ((HO.out.step hcl h2 m2));clear h2 m2;go_wp2_with fail
 refine (H3.out _ HO.out.cur).mono ?_;rintro e w3 ⟨rfl,h3,m3⟩;have HO:=aa ((HO.out.step hcl h3 m3));clear h3 m3;go_wp2_with fail
 refine (H4.out _ HO.out.mv HO.out.cur).mono ?_;rintro e w4 ⟨rfl,h4,m4⟩;have HO:=aa ((HO.out.step hcl h4 m4).lay (.cells #[C,oz,oz,oz] 277));clear h4 m4;go_wp2_with fail
 refine (H5.out _ HO.out.cur).mono ?_;rintro e w5 ⟨rfl,h5,m5⟩;have HO:=aa ((HO.out.step hcl h5 m5));clear h5 m5;go_wp2_with fail
 refine (H6.out _ HO.out.mv HO.out.cur).mono ?_;rintro e w6 ⟨rfl,h6,m6⟩;have HO:=aa ((HO.out.step hcl h6 m6).lay (.cells #[A,X,oz,oz] 277));clear h6 m6;go_wp2_with fail
 refine (H7.out _ HO.out.cur).mono ?_;rintro e w7 ⟨rfl,h7,m7⟩;have HO:=aa ((HO.out.step hcl h7 m7));clear h7 m7;go_wp2_with fail
 refine (H8.out _ HO.out.cur).mono ?_;rintro e w8 ⟨rfl,p,h8,m8,HE⟩;have HO:=aa (HO.out.step hcl h8 m8);have HE:=aa HE;clear h8 m8;go_wp2_with fail
 refine (HE.out _ HO.out.cur).mono ?_;rintro e w9 ⟨rfl,h9,m9⟩;have HO:=aa (HO.out.step hcl h9 m9);clear h9 m9 HE;obtain ⟨_,_,k1⟩:=HO.out.at 0 rfl;obtain ⟨_,_,k2⟩:=HO.out.at 1 rfl;obtain ⟨_,hRl,k3⟩:=HO.out.at 2 rfl;have z0:=(aj (i:=0) k2).trans rfl;have a0:=(aj (i:=0) k1).trans rfl;have a1:=(aj (i:=1) k1).trans rfl;have s0:=(aj (i:=0) k3).trans rfl;have s1:=(aj (i:=1) k3).trans rfl;have s2:=(aj (i:=2) k3).trans rfl;have s3:=(aj (i:=3) k3).trans rfl;have s4:=(aj (i:=4) k3).trans rfl;have s5:=(aj (i:=5) k3).trans rfl;have s6:=(aj (i:=6) k3).trans rfl;have s7:=(aj (i:=7) k3).trans rfl;have s8:=(aj (i:=8) k3).trans rfl;have fz:=fun i=>cD (i:=i) k3
 have HK:=aa k3;clear k1 k2 k3;have HB:=aa (ZD _ w.heap.size 8 _ _ t (ZD _ w.heap.size 7 _ _ (0:Int) (ZD _ w.heap.size 6 _ _ (0:Int) (ZD _ w.heap.size 5 _ _ (0:Int) (ZD _ w.heap.size 4 _ _ (0:Int) (ZD _ w.heap.size 3 _ _ C (ZD _ w.heap.size 2 _ _ X (ZD _ w.heap.size 1 _ _ A (ZD _ w.heap.size 0 _ _ (1:Int) HK.out)))))))));have HF:=aa (((((((((HO.out.set hcl w.heap.size 0 (ZX _) (.int .i64 1)).set hcl w.heap.size 1 (ZX _) (.int .i64 A)).set hcl w.heap.size 2 (ZX _) (.int .i64 X)).set hcl w.heap.size 3 (ZX _) (.int .i64 C)).set hcl w.heap.size 4 (ZX _) (.int .i64 0)).set hcl w.heap.size 5 (ZX _) (.int .i64 0)).set hcl w.heap.size 6 (ZX _) (.int .i64 0)).set hcl w.heap.size 7 (ZX _) (.int .i64 0)).set hcl w.heap.size 8 (ZX _) (.string t));go_wp2_with fail
 refine Zb (YL rfl _ _ w.heap.size 31 #[(1:Int),A,X,C,oz,oz,oz,oz,t] (0,0) _ rfl HB.out underlying31 rfl (by kernel_rfl)) rfl ?_;exact ⟨rfl,HF.out.cur,HF.out.mv⟩
end Go.Proofs.YtbklfkpjoinofaaGreatDoor
