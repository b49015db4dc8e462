import Derived.Test.YtbklfkpjoinofaaGreatDoorA03
import Derived.Deep.RegionHeldLaw
set_option linter.all false
set_option maxRecDepth 100000
set_option maxHeartbeats 8000000
namespace Go.Proofs.YtbklfkpjoinofaaGreatDoor
open Go.RowKit Go.Proofs.Tryz
structure kW (b:Nat) (w w':World):Prop where
 only:bT b w w'
 cell:∀ o,4<=o->w'.cell? (zq b o)=w.cell? (zq b o)
 frz:∀ o,w'.frozen? (zq b o)=w.frozen? (zq b o)
theorem kW.refl (b:Nat) (w:World):kW b w w:=⟨bT.refl b w,fun _ _=>rfl,fun _=>rfl⟩
theorem kW.trans {b:Nat} {u v w:World} (h:kW b u v) (k:kW b v w):kW b u w:=
 ⟨h.only.trans k.only,fun o ho=>(k.cell o ho).trans (h.cell o ho),fun o=>(k.frz o).trans (h.frz o)⟩
theorem kW.drewN {b:Nat} {u w:World} (h:kW b u w) (n:Nat):kW b u (w.drewN n):=⟨h.only.drewN n,h.cell,h.frz⟩
theorem kW.setCell {b:Nat} {u w:World} (h:kW b u w) (o:Nat) (v:Value) (ho:o < 4:=by decide):kW b u (w.setCell (zq b o) v):=
 ⟨h.only.setCell o v,fun k hk=>(ZW _ _ _ _ (by intro e;cases e;omega)).trans (h.cell k hk),fun k=>(ZL ..).trans (h.frz k)⟩
theorem kW.below {b:Nat} {w w':World} (h:kW b w w') (hb:b < w.heap.size):Below b w w':=h.only.below hb
structure PR (w:World) (b:Nat) (s:ByteArray) (p n:Nat):Prop where
 at8:(p+n) % 8=0
 le:p+n<=8*s.size
 c0:w.cell? b=s
 c1:w.cell? (zq b 1)=((p+n) / 8:Nat)
 c2:w.cell? (zq b 2)=some (.int .u32 (Pm.ao s.data.toList p n:Nat))
 c3:w.cell? (zq b 3)=n
 f1:w.frozen? (zq b 1)=false
 f2:w.frozen? (zq b 2)=false
 f3:w.frozen? (zq b 3)=false
theorem PR.lt {w:World} {b:Nat} {s:ByteArray} {p n:Nat} (h:PR w b s p n):b < w.heap.size:=ZD w _ h.c0
theorem PR.put {w:World} {b:Nat} {s:ByteArray} {p n:Nat} (h:PR w b s p n) {w':World} {p' n':Nat} (h8:(p'+n') % 8=0) (hle:p'+n'<=8*s.size)
  (k0:w'.cell? b=w.cell? b) (k1:w'.cell? (zq b 1)=((p'+n') / 8:Nat)) (k2:w'.cell? (zq b 2)=some (.int .u32 (Pm.ao s.data.toList p' n':Nat))) (k3:w'.cell? (zq b 3)=n')
  (kf:∀ a,w'.frozen? a=w.frozen? a):PR w' b s p' n':=
 ⟨h8,hle,k0.trans h.c0,k1,k2,k3,(kf _).trans h.f1,(kf _).trans h.f2,(kf _).trans h.f3⟩
theorem PR.drewN {w:World} {b:Nat} {s:ByteArray} {p n:Nat} (h:PR w b s p n) (q:Nat):PR (w.drewN q) b s p n:=⟨h.at8,h.le,h.c0,h.c1,h.c2,h.c3,h.f1,h.f2,h.f3⟩
theorem PR.filled {w:World} {b:Nat} {s:ByteArray} {p n:Nat} (h:PR w b s p n) {z x y:Value} (hlt:p+n < 8*s.size) (hz:z=.int .u32 (Pm.ao s.data.toList p (n+8):Nat)) (hx:x=.int .i64 ((p+n) / 8+1:Nat)) (hy:y=.int .i64 (n+8:Nat)):
  PR (((w.setCell (zq b 2) z).setCell (zq b 1) x).setCell (zq b 3) y) b s p (n+8):=by
 subst hz hx hy;have h8:=h.at8;refine h.put (by omega) (by omega) ?_ ?_ ?_ ?_ ?_
 ·rw [ZW _ _ _ _ (by simp),ZW _ _ _ _ (by simp),ZW _ _ _ _ (by simp)]
 ·rw [ZW _ _ _ _ (by simp)];rw [ZE (u:=.int .i64 ((p+n) / 8:Nat)) _ _ _ (by rw [ZW _ _ _ _ (by simp)];exact h.c1)];congr 3;omega
 ·rw [ZW _ _ _ _ (by simp),ZW _ _ _ _ (by simp)];exact ZE _ _ _ h.c2
 ·exact ZE (u:=.int .i64 n) _ _ _ (by rw [ZW _ _ _ _ (by simp),ZW _ _ _ _ (by simp)];exact h.c3)
 ·intro a;rw [ZL,ZL,ZL]
theorem PR.taken {w:World} {b:Nat} {s:ByteArray} {p n k:Nat} (h:PR w b s p n) {z y:Value} (hk:k<=n) (hz:z=.int .u32 (Pm.ao s.data.toList (p+k) (n - k):Nat)) (hy:y=.int .i64 (n - k:Nat)):
  PR ((w.setCell (zq b 2) z).setCell (zq b 3) y) b s (p+k) (n - k):=by
 subst hz hy;have h8:=h.at8;have hl:=h.le;have e1:p+k+(n - k)=p+n:=by omega
 refine h.put (by omega) (by omega) ?_ ?_ ?_ ?_ ?_
 ·rw [ZW _ _ _ _ (by simp),ZW _ _ _ _ (by simp)]
 ·rw [ZW _ _ _ _ (by simp),ZW _ _ _ _ (by simp),e1];exact h.c1
 ·rw [ZW _ _ _ _ (by simp)];exact ZE _ _ _ h.c2
 ·exact ZE (u:=.int .i64 n) _ _ _ (by rw [ZW _ _ _ _ (by simp)];exact h.c3)
 ·intro a;rw [ZL,ZL]
theorem DH (s:ByteArray) (i:Nat) (hi:i < s.size):Pm.ao s.data.toList (8*i) 8=s[i].toNat:=by
 rw [Pm.mI,ZJ,ZN (by simpa using hi)];rfl
theorem Da (s:ByteArray) (p m i:Nat) (hi:i < s.size) (he:p+m=8*i) (hm:m<=15):
  bits BinOp.or IntKind.u32 (Pm.ao s.data.toList p m:Nat) ((s[i].toNat:Int) % 4294967296*2 ^ m % 4294967296)=((Pm.ao s.data.toList p (m+8):Nat):Int):=by
 have hb:s[i].toNat < 256:=s[i].toNat_lt;have hF:2 ^ m<=32768:=ZU (YS (by decide) hm) (by decide);have hP:s[i].toNat*2 ^ m < 16777216:=by
  have:s[i].toNat*2 ^ m<=255*32768:=Xz (by omega) hF;omega
 have e1:(s[i].toNat:Int) % 4294967296*2 ^ m % 4294967296=((s[i].toNat*2 ^ m:Nat):Int):=by
  have e0:(s[i].toNat:Int) % 4294967296=(s[i].toNat:Int):=Int.emod_eq_of_lt (by omega) (by omega);rw [e0];have e2:(s[i].toNat:Int)*2 ^ m=((s[i].toNat*2 ^ m:Nat):Int):=by push_cast;rfl
  rw [e2];omega
 have hl:=Pm.cJ s.data.toList p m;rw [e1,u32_or_nat _ _ (by omega) (by omega),Nat.or_comm,nat_join m _ _ (Nat.mul_mod_left _ _) hl,Pm.gh,he,DH s i hi];congr 1;rw [Ye];omega
theorem jr {a b:Int} {c:Bool} (h:a=b):Ending.returned (.tuple #[a,c])=.returned (.tuple #[b,c]):=by rw [h]
theorem DF (hv k:Nat) (hk:k<=16) (hh:hv<=16777216):wrap64 (bits BinOp.and IntKind.u32 (hv:Int) ((2 ^ k - 1) % 4294967296))=((hv % 2 ^ k:Nat):Int):=by
 have hF:2 ^ k<=65536:=ZU (YS (by decide) hk) (by decide);have h0:=YL k;have e1:((2:Int) ^ k - 1) % 4294967296=((2 ^ k - 1:Nat):Int):=by
  have e2:(2:Int) ^ k=((2 ^ k:Nat):Int):=by push_cast;rfl
  rw [e2];omega
 rw [e1,u32_and_nat _ _ (by omega) (by omega),XS];have:=Yt hv h0;exact YY _ (by omega)
theorem D5 (l:List UInt8) (p m k:Nat) (h:k<=m):Pm.ao l p m % 2 ^ k=Pm.ao l p k/\Pm.ao l p m / 2 ^ k=Pm.ao l (p+k) (m - k):=by
 obtain ⟨r,rfl⟩:∃ r,m=k+r:=⟨m - k,by omega⟩;have hl:=Pm.cJ l p k;rw [Pm.gh,Nat.add_mul_mod_self_left,XM hl,Nat.add_mul_div_left _ _ (YL k),XE hl];refine ⟨rfl,?_⟩;rw [YH];congr 1;omega
theorem bo (w:World) (b:Nat) (s:ByteArray) (p n k:Nat) (h:PR w b s p n) (hn:n < 8) (hk:k<=16) (hs:s.size<=140737488355328) (hp:p+k<=8*s.size):
  CP 206 #[zp b,k] w fun e w'=>e=.returned (.tuple #[(Pm.ao s.data.toList p k:Nat),true])/\(∃ n',n' < 8/\PR w' b s (p+k) n')/\kW b w w':=by
 go_enter func206,ntmps206
 go_wp2;go_loopg [4] 30 (fun g _ wr=>∃ m,PR wr b s p m/\m < k+8/\kW b w wr/\24 - m<=g)
 case atStart=>exact ⟨n,h,by omega,kW.refl b w,by omega⟩
 case round=>
  clear h hn;obtain ⟨m,hr,hm,ho,hg⟩:=hrel;have a8:=hr.at8;have al:=hr.le;have c0:=hr.c0;have c1:=hr.c1;have c2:=hr.c2;have c3:=hr.c3;have f1:=hr.f1;have f2:=hr.f2;have f3:=hr.f3;by_cases hlt:m < k
  ·have hat:(p+m) / 8 < s.size:=by omega
   have HV:=ai (Da s p m ((p+m) / 8) hat (by omega) (by omega));have HR:=ai (fun (z x y:Value) (q:Nat) hz hx hy=>(hr.drewN q).filled (z:=z) (x:=x) (y:=y) (by omega) hz hx hy);generalize hat':(p+m) / 8=at_ at*;generalize hhv:Pm.ao s.data.toList p m=hv at*;clear hat' hhv;go_wp2;go_quiet (fail)
   go_wp2;go_region
   go_wp2;go_roundg (gk - 1)
   case measure=>omega
   case rel=>
    refine ⟨m+8,HR.out _ _ _ _ (by rw [HV.out]) (by go_num) (by go_num),by omega,?_,by omega⟩;exact (((ho.drewN _).setCell _ _).setCell _ _).setCell _ _
  ·have HL:=ai (D5 s.data.toList p m k (by omega));have HR:=ai (fun (z y:Value) (q:Nat) hz hy=>(hr.drewN q).taken (z:=z) (y:=y) (k:=k) (by omega) hz hy);have hlt2:=Pm.cJ s.data.toList p m;have hlt3:(2:Nat) ^ m<=16777216:=ZU (YS (by decide) (show m<=24 by omega)) (by decide);have hlt4:Pm.ao s.data.toList p m<=16777216:=by omega
   clear hlt2 hlt3;generalize (p+m) / 8=at_ at*;generalize hhv:Pm.ao s.data.toList p m=hv at*;clear hhv;go_wp2;go_quiet (fail)
   go_wp2;go_ret2;refine ⟨jr ?_,⟨m - k,by omega,HR.out _ _ _ ?_ ?_⟩,((ho.drewN _).setCell _ _).setCell _ _⟩
   ·rw [DF hv k hk hlt4,HL.out.1]
   ·rw [<-HL.out.2];first | rfl | (push_cast;rfl)
   ·go_num
theorem gj (w:World) (b:Nat) (s:ByteArray) (p n k:Nat) (h:PR w b s p n) (hn:n < 16) (hk:k<=16) (hs:s.size<=140737488355328) (hp:8*s.size < p+k):
  CP 206 #[zp b,k] w fun e w'=>e=.returned (.tuple #[oz,false])/\(∃ n',n' < 16/\PR w' b s p n')/\kW b w w':=by
 go_enter func206,ntmps206
 go_wp2;go_loopg [4] 30 (fun g _ wr=>∃ m,PR wr b s p m/\m < 16/\kW b w wr/\24 - m<=g)
 case atStart=>exact ⟨n,h,by omega,kW.refl b w,by omega⟩
 case round=>
  clear h hn;obtain ⟨m,hr,hm,ho,hg⟩:=hrel;have a8:=hr.at8;have al:=hr.le;have c0:=hr.c0;have c1:=hr.c1;have c2:=hr.c2;have c3:=hr.c3;have f1:=hr.f1;have f2:=hr.f2;have f3:=hr.f3;have hlt:m < k:=by omega
  by_cases hat:(p+m) / 8 < s.size
  ·have HV:=ai (Da s p m ((p+m) / 8) hat (by omega) (by omega));have HR:=ai (fun (z x y:Value) (q:Nat) hz hx hy=>(hr.drewN q).filled (z:=z) (x:=x) (y:=y) (by omega) hz hx hy);have hm8:m+8 < 16:=by omega
   generalize hat':(p+m) / 8=at_ at*;generalize hhv:Pm.ao s.data.toList p m=hv at*;clear hat' hhv;go_wp2;go_quiet (fail)
   go_wp2;go_region
   go_wp2;go_roundg (gk - 1)
   case measure=>omega
   case rel=>
    refine ⟨m+8,HR.out _ _ _ _ (by rw [HV.out]) (by go_num) (by go_num),by omega,?_,by omega⟩;exact (((ho.drewN _).setCell _ _).setCell _ _).setCell _ _
  ·generalize (p+m) / 8=at_ at*;go_wp2;go_quiet (fail)
   go_wp2;go_ret2;exact ⟨rfl,⟨m,hm,hr.drewN _⟩,ho.drewN _⟩
theorem D3:∀ c:Nat,c < 285->265<=c->(3+(4+((c:Int) - 257) % 4)*2 ^ ((c - 257) / 4 - 1)=((Pm.a_ c:Nat):Int))/\0<=(4+((c:Int) - 257) % 4)*2 ^ ((c - 257) / 4 - 1)/\(4+((c:Int) - 257) % 4)*2 ^ ((c - 257) / 4 - 1)<=100000/\
  ((c:Int) - 257) / 4 - 1=((Pm.ak c:Nat):Int):=by decide+kernel
theorem Cv:∀ c:Nat,c < 30->4<=c->(1+(2+(c:Int) % 2)*2 ^ (c / 2 - 1)=((Pm.bD c:Nat):Int))/\0<=(2+(c:Int) % 2)*2 ^ (c / 2 - 1)/\(2+(c:Int) % 2)*2 ^ (c / 2 - 1)<=100000/\
  (c:Int) / 2 - 1=((Pm.aH c:Nat):Int):=by decide+kernel
theorem fL (w:World) (c:Nat) (h1:257<=c) (h2:c<=285):
  QE 325 #[c] w (.tuple #[(Pm.a_ c:Nat),(Pm.ak c:Nat)]):=by
 by_cases h:c=285
 ·subst h;have e1:Pm.a_ 285=258:=by decide
  have e2:Pm.ak 285=0:=by decide
  rw [e1,e2];go_enter func325,ntmps325
  go_wp2;go_ret2;exact ⟨rfl,rfl⟩
 ·by_cases h8:c < 265
  ·have e1:Pm.a_ c=c - 254:=by unfold Pm.a_;rw [ZO h,ZM h8]
   have e2:Pm.ak c=0:=by unfold Pm.ak;rw [ZM (YN h8)]
   have HE:Hid ((3:Int)+((c:Int) - 257)=((Pm.a_ c:Nat):Int)):=by show _=_;rw [e1];omega
   rw [e2];clear e1 e2;go_enter func325,ntmps325
   go_wp2;go_ret2;exact ⟨pW HE.out rfl,rfl⟩
  ·go_enter func325,ntmps325
   go_wp2;go_ret2;have hh:=D3 c (by omega) (by omega);refine ⟨pW ?_ hh.2.2.2,rfl⟩;rw [YY ((4+((c:Int) - 257) % 4)*2 ^ ((c - 257) / 4 - 1)) (by omega),YY _ (by omega),hh.1]
theorem ji (w:World) (c:Nat) (h2:c < 30):
  QE 326 #[c] w (.tuple #[(Pm.bD c:Nat),(Pm.aH c:Nat)]):=by
 by_cases h8:c < 4
 ·have e1:Pm.bD c=1+c:=by unfold Pm.bD;rw [ZM h8]
  have e2:Pm.aH c=0:=by unfold Pm.aH;rw [ZM h8]
  have HE:Hid ((1:Int)+(c:Int)=((Pm.bD c:Nat):Int)):=by show _=_;rw [e1];omega
  rw [e2];clear e1 e2;go_enter func326,ntmps326
  go_wp2;go_ret2;exact ⟨pW HE.out rfl,rfl⟩
 ·go_enter func326,ntmps326
  go_wp2;go_ret2;have hh:=Cv c (by omega) (by omega);refine ⟨pW ?_ hh.2.2.2,rfl⟩;rw [YY ((2+(c:Int) % 2)*2 ^ (c / 2 - 1)) (by omega),YY _ (by omega),hh.1]
theorem gB (w:World) (b:Nat) (s:ByteArray) (p n k:Nat) (h:PR w b s p n) (hn:n < 8) (hk:k < 10) (hs:s.size<=140737488355328) (hp:p+k<=8*s.size):
  CP 302 #[zp b,k] w fun e w'=>e=.returned (.tuple #[(Pm.aR s.data.toList p k:Nat),true])/\(∃ n',n' < 8/\PR w' b s (p+k) n')/\kW b w w':=by
 have hlt:=Pm.cJ s.data.toList p k;have HH:=ai (Pm.jh s.data.toList p k k (ZV k));go_enter func302,ntmps302
 go_wp2_with fail
 refine (bo w b s p n k h hn (by omega) hs hp).mono ?_;rintro e w1 ⟨rfl,⟨n',hn',hr'⟩,ho'⟩;generalize Pm.ao s.data.toList p k=v at*;go_wp2_with fail
 refine (oA w1 v k hk hlt).mono ?_;rintro e w2 ⟨rfl,q,rfl⟩;go_wp2;go_ret2;exact ⟨jr (by rw [HH.out]),⟨n',hn',hr'.drewN _⟩,ho'.drewN _⟩
theorem o_ (w:World) (b:Nat) (s:ByteArray) (p n k:Nat) (h:PR w b s p n) (hn:n < 16) (hk:k < 10) (hs:s.size<=140737488355328) (hp:8*s.size < p+k):
  CP 302 #[zp b,k] w fun e w'=>(∃ z,e=.returned (.tuple #[.int .i64 z,false]))/\(∃ n',n' < 16/\PR w' b s p n')/\kW b w w':=by
 go_enter func302,ntmps302
 go_wp2_with fail
 refine (gj w b s p n k h hn (by omega) hs hp).mono ?_;rintro e w1 ⟨rfl,⟨n',hn',hr'⟩,ho'⟩;go_wp2_with fail
 refine (oA w1 0 k hk (YL k)).mono ?_;rintro e w2 ⟨rfl,q,rfl⟩;go_wp2;go_ret2;exact ⟨⟨_,rfl⟩,⟨n',hn',hr'.drewN _⟩,ho'.drewN _⟩
theorem tV:∀ x:Nat,x < 256->∀ y:Nat,y < 2->bits BinOp.or IntKind.i64 ((x:Int)*2) (y:Int)=((2*x+y:Nat):Int):=by decide+kernel
theorem PR.aligned {w:World} {b:Nat} {s:ByteArray} {p n:Nat} (h:PR w b s p n):PR ((w.setCell (zq b 2) (.int .u32 0)).setCell (zq b 3) (0:Int)) b s (p+n) 0:=by
 have h8:=h.at8;have hl:=h.le;refine h.put (by omega) (by omega) ?_ ?_ ?_ ?_ ?_
 ·rw [ZW _ _ _ _ (by simp),ZW _ _ _ _ (by simp)]
 ·rw [ZW _ _ _ _ (by simp),ZW _ _ _ _ (by simp)];exact h.c1
 ·rw [ZW _ _ _ _ (by simp),Pm.o6];exact ZE _ _ _ h.c2
 ·exact ZE (u:=.int .i64 n) _ _ _ (by rw [ZW _ _ _ _ (by simp)];exact h.c3)
 ·intro a;rw [ZL,ZL]
theorem sF (w:World) (b:Nat) (s:ByteArray) (p n:Nat) (h:PR w b s p n):
  CP 159 #[zp b] w fun e w'=>e=.returned (.bool (decide (Pm.ao s.data.toList p n=0)))/\PR w' b s (p+n) 0/\kW b w w':=by
 have c2:=h.c2;have c3:=h.c3;have f2:=h.f2;have f3:=h.f3;by_cases hz:Pm.ao s.data.toList p n=0
 ·rw [hz] at c2;have e1:decide (Pm.ao s.data.toList p n=0)=true:=by simp [hz]
  rw [e1];clear e1 hz;go_enter func159,ntmps159
  go_wp2;go_ret;exact ⟨rfl,h.aligned,((kW.refl b w).setCell _ _).setCell _ _⟩
 ·have e1:decide (Pm.ao s.data.toList p n=0)=false:=by simp [hz]
  rw [e1];clear e1;generalize Pm.ao s.data.toList p n=z at*;have e2:((z:Int)==0)=false:=by rw [Yv];omega
  go_enter func159,ntmps159
  go_wp2;go_ret;exact ⟨rfl,h.aligned,((kW.refl b w).setCell _ _).setCell _ _⟩
theorem PR.skip {w:World} {b:Nat} {s:ByteArray} {p k:Nat} (h:PR w b s p 0) {x:Value} (hk:p+8*k<=8*s.size) (hx:x=.int .i64 (p / 8+k:Nat)):PR (w.setCell (zq b 1) x) b s (p+8*k) 0:=by
 subst hx;have h8:=h.at8;refine h.put (by omega) (by omega) ?_ ?_ ?_ ?_ ?_
 ·rw [ZW _ _ _ _ (by simp)]
 ·rw [ZE _ _ _ h.c1];congr 3;omega
 ·rw [ZW _ _ _ _ (by simp),Pm.o6];have:=h.c2;rwa [Pm.o6] at this
 ·rw [ZW _ _ _ _ (by simp)];exact h.c3
 ·intro a;rw [ZL]
theorem nL (w:World) (b:Nat) (s:ByteArray) (p k:Nat) (h:PR w b s p 0) (hs:s.size<=140737488355328) (hk:p / 8+k<=s.size):
  CP 208 #[zp b,k] w fun e w'=>e=.returned (.tuple #[.string (s.extract (p / 8) (p / 8+k)),true])/\PR w' b s (p+8*k) 0/\kW b w w':=by
 have h8:=h.at8;have c0:=h.c0;have c1:=h.c1;have f1:=h.f1;have HR:=ai (fun (x:Value) (q:Nat) hx=>(h.drewN q).skip (k:=k) (x:=x) (by omega) hx);rw [Yb] at c1;generalize hq:p / 8=q at*;clear hq h8;go_enter func208,ntmps208
 go_wp2;go_quiet (fail)
 go_wp2;go_quiet (fail)
 go_wp2;go_ret2;refine ⟨rfl,?_,?_⟩
 ·first | exact HR.out _ _ (by go_num) | exact (HR.out _ _ (by go_num)).drewN _
 ·first | exact ((kW.refl b w).drewN _).setCell _ _ | exact (((kW.refl b w).drewN _).setCell _ _).drewN _
theorem nG (w:World) (b:Nat) (s:ByteArray) (p k:Nat) (h:PR w b s p 0) (hs:s.size<=140737488355328) (hk1:k<=100000) (hk:s.size < p / 8+k):
  CP 208 #[zp b,k] w fun e w'=>e=.returned (.tuple #[.string ⟨#[]⟩,false])/\PR w' b s p 0/\kW b w w':=by
 have h8:=h.at8;have hl:=h.le;have c0:=h.c0;have c1:=h.c1;rw [Yb] at c1;have hq:p / 8<=s.size:=by omega
 generalize p / 8=q at*;go_enter func208,ntmps208
 go_wp2;go_quiet (fail)
 go_wp2;go_ret2;exact ⟨rfl,h.drewN _,(kW.refl b w).drewN _⟩
theorem Ec (w:World) (b:Nat) (s:ByteArray) (p n:Nat) (h:PR w b s p n) (hn:n < 8) (hs:s.size<=140737488355328) (hp:p+(Pm.bC s.data.toList p).2<=8*s.size):
  CP 269 #[zp b] w fun e w'=>e=.returned (.tuple #[((Pm.bC s.data.toList p).1:Nat),true])/\(∃ n',n' < 8/\PR w' b s (p+(Pm.bC s.data.toList p).2) n')/\kW b w w':=by
 have hw:=Pm.tJ s.data.toList p;have g7:Pm.aR s.data.toList p 7 < 128:=Pm.ny s.data.toList p 7;have g8:Pm.ao s.data.toList (p+7) 1 < 2:=Pm.cJ s.data.toList (p+7) 1;have g9:Pm.ao s.data.toList (p+8) 1 < 2:=Pm.cJ s.data.toList (p+8) 1;have HS:=ai (show Pm.bC s.data.toList p=_ from rfl);generalize hsy:Pm.bC s.data.toList p=sy at*;have HY:Hid (Pm.bC s.data.toList p=sy):=hsy;clear hsy HS;obtain ⟨c,wd⟩:=sy;simp only [] at*;go_enter func269,ntmps269
 go_wp2_with fail
 refine (gB w b s p n 7 h hn (by omega) hs (by omega)).mono ?_;rintro e w1 ⟨rfl,⟨n1,hn1,hr1⟩,ho1⟩;by_cases c1:Pm.aR s.data.toList p 7<=23
 ·have e0:=HY.out;unfold Pm.bC at e0;rw [ZM c1] at e0;have HE:=ai e0;clear e0 HY;generalize Pm.aR s.data.toList p 7=v7 at*;go_wp2;go_ret2;have e1:=HE.out
  cases e1
  exact ⟨jr (by simp),⟨n1,hn1,hr1⟩,ho1⟩
 ·have e0:=HY.out;unfold Pm.bC at e0;rw [ZO c1] at e0;have hwd:8<=wd:=by
   split at e0
   ·cases e0;omega
   ·split at e0 <;> cases e0 <;> omega
  have HE:=ai e0;clear e0 HY;go_wp2_with fail
  refine (bo w1 b s (p+7) n1 1 hr1 hn1 (by omega) hs (by omega)).mono ?_;rintro e w2 ⟨rfl,⟨n2,hn2,hr2⟩,ho2⟩;have OB:=tV (Pm.aR s.data.toList p 7) (by omega) _ g8;generalize Pm.aR s.data.toList p 7=v7 at*;generalize Pm.ao s.data.toList (p+7) 1=x7 at*;by_cases c2:2*v7+x7<=191
  ·have e1:=HE.out;rw [ZM c2] at e1;have HE2:=ai e1;clear e1 HE;go_wp2;go_ret2;have e1:=HE2.out
   cases e1
   exact ⟨jr (by first | omega | (simp;omega)),⟨n2,hn2,hr2⟩,ho1.trans ho2⟩
  ·have e1:=HE.out;rw [ZO c2] at e1;have HE2:=ai e1;clear e1 HE;by_cases c3:2*v7+x7<=199
   ·have e1:=HE2.out;rw [ZM c3] at e1;have HE3:=ai e1;clear e1 HE2;go_wp2;go_ret2;have e1:=HE3.out
    cases e1
    exact ⟨jr (by first | omega | (simp;omega)),⟨n2,hn2,hr2⟩,ho1.trans ho2⟩
   ·have e1:=HE2.out;rw [ZO c3] at e1;have HE3:=ai e1;clear e1 HE2;have hwd9:9<=wd:=by have e2:=HE3.out;cases e2;omega
    have OB2:=fun hh=>tV (2*v7+x7) hh _ g9
    have OB3:=OB2 (by omega);clear OB2;go_wp2_with fail
    refine (bo w2 b s (p+7+1) n2 1 hr2 hn2 (by omega) hs (by omega)).mono ?_;rintro e w3 ⟨rfl,⟨n3,hn3,hr3⟩,ho3⟩;generalize Pm.ao s.data.toList (p+8) 1=x8 at*;go_wp2;go_ret2;have e1:=HE3.out
    cases e1
    refine ⟨jr ?_,⟨n3,hn3,hr3⟩,(ho1.trans ho2).trans ho3⟩;have h1:(2*(v7:Int)+(x7:Int))*2=((2*v7+x7:Nat):Int)*2:=by push_cast;rfl
    rw [h1,OB3,YY (144+_) (by omega),YY _ (by omega)];omega
theorem Ea (w:World) (b:Nat) (s:ByteArray) (p n:Nat) (h:PR w b s p n) (hn:n < 8) (hs:s.size<=140737488355328) (hp:8*s.size < p+(Pm.bC s.data.toList p).2):
  CP 269 #[zp b] w fun e w'=>(∃ z,e=.returned (.tuple #[.int .i64 z,false]))/\(∃ p' n',n' < 16/\PR w' b s p' n')/\kW b w w':=by
 have g7:Pm.aR s.data.toList p 7 < 128:=Pm.ny s.data.toList p 7;have g8:Pm.ao s.data.toList (p+7) 1 < 2:=Pm.cJ s.data.toList (p+7) 1;by_cases h7:8*s.size < p+7
 ·clear hp;go_enter func269,ntmps269
  go_wp2_with fail
  refine (o_ w b s p n 7 h (by omega) (by omega) hs h7).mono ?_;rintro e w1 ⟨⟨z,rfl⟩,⟨n1,hn1,hr1⟩,ho1⟩;go_wp2;go_ret2;exact ⟨⟨_,rfl⟩,⟨_,n1,hn1,hr1⟩,ho1⟩
 ·have c1:¬ Pm.aR s.data.toList p 7<=23:=by
   intro c1;unfold Pm.bC at hp;rw [ZM c1] at hp;simp only [] at hp;omega
  have H9:Hid (p+8<=8*s.size->¬ 2*Pm.aR s.data.toList p 7+Pm.ao s.data.toList (p+7) 1<=199/\8*s.size < p+9):=by
   intro h8;unfold Pm.bC at hp;rw [ZO c1] at hp;by_cases c2:2*Pm.aR s.data.toList p 7+Pm.ao s.data.toList (p+7) 1<=191
   ·rw [ZM c2] at hp;simp only [] at hp;omega
   ·rw [ZO c2] at hp;by_cases c3:2*Pm.aR s.data.toList p 7+Pm.ao s.data.toList (p+7) 1<=199
    ·rw [ZM c3] at hp;simp only [] at hp;omega
    ·rw [ZO c3] at hp;exact ⟨c3,hp⟩
  clear hp;have OB0:bits BinOp.or IntKind.i64 ((Pm.aR s.data.toList p 7:Int)*2) 0=((2*Pm.aR s.data.toList p 7:Nat):Int):=tV (Pm.aR s.data.toList p 7) (by omega) 0 (by omega);have OB:=tV (Pm.aR s.data.toList p 7) (by omega) _ g8;go_enter func269,ntmps269
  go_wp2_with fail
  refine (gB w b s p n 7 h hn (by omega) hs (by omega)).mono ?_;rintro e w1 ⟨rfl,⟨n1,hn1,hr1⟩,ho1⟩;by_cases h8:8*s.size < p+7+1
  ·clear OB g8;generalize Pm.aR s.data.toList p 7=v7 at*;go_wp2_with fail
   refine (gj w1 b s (p+7) n1 1 hr1 (by omega) (by omega) hs h8).mono ?_;rintro e w2 ⟨rfl,⟨n2,hn2,hr2⟩,ho2⟩;by_cases c2:2*v7<=191
   ·go_wp2;go_ret2;exact ⟨⟨_,rfl⟩,⟨_,n2,hn2,hr2⟩,ho1.trans ho2⟩
   ·by_cases c3:2*v7<=199
    ·go_wp2;go_ret2;exact ⟨⟨_,rfl⟩,⟨_,n2,hn2,hr2⟩,ho1.trans ho2⟩
    ·go_wp2_with fail
     refine (gj w2 b s (p+7) n2 1 hr2 hn2 (by omega) hs h8).mono ?_;rintro e w3 ⟨rfl,⟨n3,hn3,hr3⟩,ho3⟩;go_wp2;go_ret2;exact ⟨⟨_,rfl⟩,⟨_,n3,hn3,hr3⟩,(ho1.trans ho2).trans ho3⟩
  ·obtain ⟨c3,h9⟩:=H9.out (by omega);clear H9 OB0;go_wp2_with fail
   refine (bo w1 b s (p+7) n1 1 hr1 hn1 (by omega) hs (by omega)).mono ?_;rintro e w2 ⟨rfl,⟨n2,hn2,hr2⟩,ho2⟩;generalize Pm.aR s.data.toList p 7=v7 at*;generalize Pm.ao s.data.toList (p+7) 1=x7 at*;go_wp2_with fail
   refine (gj w2 b s (p+7+1) n2 1 hr2 (by omega) (by omega) hs (by omega)).mono ?_;rintro e w3 ⟨rfl,⟨n3,hn3,hr3⟩,ho3⟩;go_wp2;go_ret2;exact ⟨⟨_,rfl⟩,⟨_,n3,hn3,hr3⟩,(ho1.trans ho2).trans ho3⟩
theorem tW (w:World) (b:Nat) (s:ByteArray) (p n c:Nat) (h:PR w b s p n) (hn:n < 8) (hs:s.size<=140737488355328) (h1:257<=c) (h2:c<=285) (hp:p+Pm.ak c<=8*s.size):
  CP 303 #[zp b,c] w fun e w'=>e=.returned (.tuple #[(Pm.a_ c+Pm.ao s.data.toList p (Pm.ak c):Nat),.bool (decide (¬ (258<=Pm.a_ c+Pm.ao s.data.toList p (Pm.ak c)/\c≠285)))])/\
   (∃ n',n' < 8/\PR w' b s (p+Pm.ak c) n')/\kW b w w':=by
 have hlb:=Pm.fh c (by omega) h1;have hE:=hlb.1;have hX:=Pm.cJ s.data.toList p (Pm.ak c);have hN:Pm.a_ c+Pm.ao s.data.toList p (Pm.ak c)<=258:=by omega
 clear hX hlb;by_cases hb:258<=Pm.a_ c+Pm.ao s.data.toList p (Pm.ak c)
 ·by_cases h5:c=285
  ·have e1:decide (¬ (258<=Pm.a_ c+Pm.ao s.data.toList p (Pm.ak c)/\c≠285))=true:=Zq (fun hh=>hh.2 h5);rw [e1];clear e1;have h6:((c:Int)==285)=true:=by rw [beq_iff_eq];omega
   clear h5;go_enter func303,ntmps303
   go_wp2_with fail
   refine (fL w c h1 h2).mono ?_;rintro e w1 ⟨rfl,rfl⟩;go_wp2_with fail
   refine (bo _ b s p n (Pm.ak c) h hn (by omega) hs hp).mono ?_;rintro e w2 ⟨rfl,⟨n2,hn2,hr2⟩,ho2⟩;generalize hX:Pm.ao s.data.toList p (Pm.ak c)=X at*;have HX:=ai hX;clear hX;generalize hA:Pm.a_ c=A at*;have HA:=ai hA;clear hA;go_wp2;go_ret2;exact ⟨jr (by rw [HX.out,HA.out];simp),⟨n2,hn2,hr2⟩,ho2⟩
  ·have e1:decide (¬ (258<=Pm.a_ c+Pm.ao s.data.toList p (Pm.ak c)/\c≠285))=false:=by simp [h5,hb]
   rw [e1];clear e1;have h6:((c:Int)==285)=false:=by rw [Yv];omega
   clear h5;go_enter func303,ntmps303
   go_wp2_with fail
   refine (fL w c h1 h2).mono ?_;rintro e w1 ⟨rfl,rfl⟩;go_wp2_with fail
   refine (bo _ b s p n (Pm.ak c) h hn (by omega) hs hp).mono ?_;rintro e w2 ⟨rfl,⟨n2,hn2,hr2⟩,ho2⟩;generalize hX:Pm.ao s.data.toList p (Pm.ak c)=X at*;have HX:=ai hX;clear hX;generalize hA:Pm.a_ c=A at*;have HA:=ai hA;clear hA;have hb3:decide ((A:Int)+(X:Int) < 258)=false:=by simp;omega
   go_wp2;go_ret2;exact ⟨jr (by rw [HX.out,HA.out];simp),⟨n2,hn2,hr2⟩,ho2⟩
 ·have e1:decide (¬ (258<=Pm.a_ c+Pm.ao s.data.toList p (Pm.ak c)/\c≠285))=true:=by simp [hb]
  rw [e1];clear e1;go_enter func303,ntmps303
  go_wp2_with fail
  refine (fL w c h1 h2).mono ?_;rintro e w1 ⟨rfl,rfl⟩;go_wp2_with fail
  refine (bo _ b s p n (Pm.ak c) h hn (by omega) hs hp).mono ?_;rintro e w2 ⟨rfl,⟨n2,hn2,hr2⟩,ho2⟩;generalize hX:Pm.ao s.data.toList p (Pm.ak c)=X at*;have HX:=ai hX;clear hX;generalize hA:Pm.a_ c=A at*;have HA:=ai hA;clear hA;have hb2:decide ((A:Int)+(X:Int) < 258)=true:=by simp;omega
  go_wp2;go_ret2;exact ⟨jr (by rw [HX.out,HA.out];simp),⟨n2,hn2,hr2⟩,ho2⟩
theorem D' (w:World) (b:Nat) (s:ByteArray) (p n c:Nat) (h:PR w b s p n) (hn:n < 8) (hs:s.size<=140737488355328) (h1:257<=c) (h2:c<=285) (hp:8*s.size < p+Pm.ak c):
  CP 303 #[zp b,c] w fun e w'=>(∃ z,e=.returned (.tuple #[.int .i64 z,false]))/\(∃ p' n',n' < 16/\PR w' b s p' n')/\kW b w w':=by
 have hlb:=Pm.fh c (by omega) h1;have hE:=hlb.1;have hA:Pm.a_ c<=259:=by have:=YL (Pm.ak c);omega
 clear hlb;go_enter func303,ntmps303
 go_wp2_with fail
 refine (fL w c h1 h2).mono ?_;rintro e w1 ⟨rfl,rfl⟩;go_wp2_with fail
 refine (gj _ b s p n (Pm.ak c) h (by omega) (by omega) hs hp).mono ?_;rintro e w2 ⟨rfl,⟨n2,hn2,hr2⟩,ho2⟩;generalize Pm.a_ c=A at*;go_wp2;go_ret2;exact ⟨⟨_,rfl⟩,⟨_,n2,hn2,hr2⟩,ho2⟩
theorem Dh (w:World) (b c:Nat) (h1:285 < c) (h2:c<=287):
  QE 303 #[zp b,c] w (.tuple #[oz,false]):=by
 go_enter func303,ntmps303
 go_wp2;go_ret2;exact ⟨rfl,rfl⟩
theorem vY (w:World) (b:Nat) (s:ByteArray) (p n:Nat) (h:PR w b s p n) (hn:n < 8) (hs:s.size<=140737488355328) (h5:p+5<=8*s.size) (hv:Pm.aR s.data.toList p 5<=29) (hp:p+5+Pm.aH (Pm.aR s.data.toList p 5)<=8*s.size):
  CP 304 #[zp b] w fun e w'=>e=.returned (.tuple #[(Pm.bD (Pm.aR s.data.toList p 5)+Pm.ao s.data.toList (p+5) (Pm.aH (Pm.aR s.data.toList p 5)):Nat),true])/\
   (∃ n',n' < 8/\PR w' b s (p+5+Pm.aH (Pm.aR s.data.toList p 5)) n')/\kW b w w':=by
 go_enter func304,ntmps304
 go_wp2_with fail
 refine (gB w b s p n 5 h hn (by omega) hs h5).mono ?_;rintro e w1 ⟨rfl,⟨n1,hn1,hr1⟩,ho1⟩;generalize hv5:Pm.aR s.data.toList p 5=v at*;have HV:=ai hv5;clear hv5;have hdb:=Pm.eN v (by omega);have hE:=hdb.1;have hX:=Pm.cJ s.data.toList (p+5) (Pm.aH v);have hN:Pm.bD v+Pm.ao s.data.toList (p+5) (Pm.aH v)<=32768:=by omega
 clear hX hdb;go_wp2_with fail
 refine (ji _ v (by omega)).mono ?_;rintro e w2 ⟨rfl,rfl⟩;go_wp2_with fail
 refine (bo _ b s (p+5) n1 (Pm.aH v) hr1 hn1 (by omega) hs hp).mono ?_;rintro e w3 ⟨rfl,⟨n3,hn3,hr3⟩,ho3⟩;generalize hX:Pm.ao s.data.toList (p+5) (Pm.aH v)=X at*;have HX:=ai hX;clear hX;generalize hA:Pm.bD v=A at*;have HA:=ai hA;clear hA;go_wp2;go_ret2;exact ⟨jr (by rw [HV.out,HX.out,HA.out];simp),⟨n3,hn3,by rw [HV.out];exact hr3⟩,ho1.trans ho3⟩
theorem De (w:World) (b:Nat) (s:ByteArray) (p n:Nat) (h:PR w b s p n) (hn:n < 8) (hs:s.size<=140737488355328)
  (hbad:8*s.size < p+5\/29 < Pm.aR s.data.toList p 5\/8*s.size < p+5+Pm.aH (Pm.aR s.data.toList p 5)):
  CP 304 #[zp b] w fun e w'=>(∃ z,e=.returned (.tuple #[.int .i64 z,false]))/\(∃ p' n',n' < 16/\PR w' b s p' n')/\kW b w w':=by
 by_cases h5:8*s.size < p+5
 ·clear hbad;go_enter func304,ntmps304
  go_wp2_with fail
  refine (o_ w b s p n 5 h (by omega) (by omega) hs h5).mono ?_;rintro e w1 ⟨⟨z,rfl⟩,⟨n1,hn1,hr1⟩,ho1⟩;go_wp2;go_ret2;exact ⟨⟨_,rfl⟩,⟨_,n1,hn1,hr1⟩,ho1⟩
 ·have hlt:Pm.aR s.data.toList p 5 < 32:=Pm.ny s.data.toList p 5;by_cases hv:29 < Pm.aR s.data.toList p 5
  ·clear hbad;go_enter func304,ntmps304
   go_wp2_with fail
   refine (gB w b s p n 5 h hn (by omega) hs (by omega)).mono ?_;rintro e w1 ⟨rfl,⟨n1,hn1,hr1⟩,ho1⟩;generalize Pm.aR s.data.toList p 5=v at*;go_wp2;go_ret2;exact ⟨⟨_,rfl⟩,⟨_,n1,by omega,hr1⟩,ho1⟩
  ·have hb2:8*s.size < p+5+Pm.aH (Pm.aR s.data.toList p 5):=by omega
   clear hbad;go_enter func304,ntmps304
   go_wp2_with fail
   refine (gB w b s p n 5 h hn (by omega) hs (by omega)).mono ?_;rintro e w1 ⟨rfl,⟨n1,hn1,hr1⟩,ho1⟩;generalize Pm.aR s.data.toList p 5=v at*;have hdb:=Pm.eN v (by omega);have hE:=hdb.1;have hA:Pm.bD v<=32769:=by have:=YL (Pm.aH v);omega
   clear hdb;go_wp2_with fail
   refine (ji _ v (by omega)).mono ?_;rintro e w2 ⟨rfl,rfl⟩;go_wp2_with fail
   refine (gj _ b s (p+5) n1 (Pm.aH v) hr1 (by omega) (by omega) hs hb2).mono ?_;rintro e w3 ⟨rfl,⟨n3,hn3,hr3⟩,ho3⟩;generalize Pm.bD v=A at*;go_wp2;go_ret2;exact ⟨⟨_,rfl⟩,⟨_,n3,hn3,hr3⟩,ho1.trans ho3⟩
structure PU (w:World) (b:Nat) (s:ByteArray) (p n:Nat) (v:Value) (out:List UInt8):Prop where
 r:PR w b s p n
 c4:w.cell? (zq b 4)=some v
 c5:w.cell? (zq b 5)=(1048576:Int)
 f4:w.frozen? (zq b 4)=false
 o:gZ w b v out
theorem PU.few {w w':World} {b:Nat} {s:ByteArray} {p n p' n':Nat} {v:Value} {out:List UInt8} (h:PU w b s p n v out) (k:kW b w w') (hr:PR w' b s p' n'):PU w' b s p' n' v out:=
 ⟨hr,(k.cell 4 (by omega)).trans h.c4,(k.cell 5 (by omega)).trans h.c5,(k.frz 4).trans h.f4,h.o.only k.only⟩
theorem PU.drewN {w:World} {b:Nat} {s:ByteArray} {p n:Nat} {v:Value} {out:List UInt8} (h:PU w b s p n v out) (q:Nat):PU (w.drewN q) b s p n v out:=⟨h.r.drewN q,h.c4,h.c5,h.f4,h.o.drewN q⟩
theorem PU.lt {w:World} {b:Nat} {s:ByteArray} {p n:Nat} {v:Value} {out:List UInt8} (h:PU w b s p n v out):b < w.heap.size:=h.r.lt
theorem PR.kept {w w':World} {b:Nat} {s:ByteArray} {p n:Nat} (h:PR w b s p n) (k:Below (b+1) w w'):PR w' b s p n:=
 ⟨h.at8,h.le,(k.cell (Zm b)).trans h.c0,(k.cell (Zm b)).trans h.c1,(k.cell (Zm b)).trans h.c2,(k.cell (Zm b)).trans h.c3,
  (k.frozen (Zm b)).trans h.f1,(k.frozen (Zm b)).trans h.f2,(k.frozen (Zm b)).trans h.f3⟩
theorem PU.grow {w w':World} {b:Nat} {s:ByteArray} {p n:Nat} {v v':Value} {out out':List UInt8} (h:PU w b s p n v out) (k:Below (b+1) w w') (ho:gZ w' b v' out'):PU (w'.setCell (zq b 4) v') b s p n v' out':=by
 have h4:=(k.cell (p:=zq b 4) (Zm b)).trans h.c4;have hr:=h.r.kept k;refine ⟨?_,ZE _ _ _ h4,?_,?_,ho.only ((bT.refl b _).setCell _ _)⟩
 ·exact hr.put hr.at8 hr.le (ZW _ _ _ _ (by simp)) ((ZW _ _ _ _ (by simp)).trans hr.c1) ((ZW _ _ _ _ (by simp)).trans hr.c2) ((ZW _ _ _ _ (by simp)).trans hr.c3) (fun _=>ZL ..)
 ·rw [ZW _ _ _ _ (by simp)];exact (k.cell (p:=zq b 5) (Zm b)).trans h.c5
 ·rw [ZL];exact (k.frozen (p:=zq b 4) (Zm b)).trans h.f4
theorem dq (w:World) (b:Nat) (s:ByteArray) (p n k:Nat) (v:Value) (out:List UInt8) (h:PU w b s p n v out) (hk:k<=100000) (ho:out.length<=1048576):
  QD 268 #[zp b,k] w (.bool (decide (out.length+k<=1048576))):=by
 have c4:=h.c4;have c5:=h.c5;obtain ⟨ad,cap,hform,_⟩:=h.o.form;subst hform;go_enter func268,ntmps268
 go_wp2;go_quiet (fail)
 go_wp2;go_ret;refine ⟨congrArg (fun z=>Ending.returned (.bool z)) ?_,_,rfl⟩;rw [Bool.eq_iff_iff];simp;omega
theorem uu (w:World) (v:Value) (t:TypeId):(w.alloc (.cells #[v] t)).cell? w=some v:=by simp
theorem Ci (w:World) (b:Nat) (s:ByteArray) (p n c:Nat) (v:Value) (out:List UInt8) (h:PU w b s p n v out) (hn:n < 8) (hs:s.size<=140737488355328) (ho:out.length<=1048576) (h1:257<=c) (q:Nat) (o':List UInt8) (ha:Pm.gl s.data.toList p c out=some (q,o')):
  CP 270 #[zp b,c] w fun e w'=>e=.returned true/\(∃ n' v',n' < 8/\PU w' b s q n' v' o')/\Below b w w':=by
 have hlen:s.data.toList.length=s.size:=by simp
 have hc:=Pm.gU (by rw [ha];simp:Pm.gl s.data.toList p c out≠none);rw [hlen] at hc;obtain ⟨k1,k2,k3,k4,k5,k6,k7,k8⟩:=hc;have he:=Pm.po (l:=s.data.toList) k1 (by rw [hlen];exact k2) k3 k4 (by rw [hlen];exact k5) k6 (by rw [hlen];exact k7) k8;rw [ha] at he;simp only [Yj,XU] at he;obtain ⟨rfl,rfl⟩:=he;have hlb:=Pm.fh c (by omega) h1;have hX:=Pm.cJ s.data.toList p (Pm.ak c);have hN3:3<=Pm.a_ c+Pm.ao s.data.toList p (Pm.ak c)/\Pm.a_ c+Pm.ao s.data.toList p (Pm.ak c)<=258:=by omega
 have hdb:=Pm.eN (Pm.aR s.data.toList (p+Pm.ak c) 5) (by omega);have hY:=Pm.cJ s.data.toList (p+Pm.ak c+5) (Pm.aH (Pm.aR s.data.toList (p+Pm.ak c) 5));have hD3:1<=Pm.bD (Pm.aR s.data.toList (p+Pm.ak c) 5)+Pm.ao s.data.toList (p+Pm.ak c+5) (Pm.aH (Pm.aR s.data.toList (p+Pm.ak c) 5))/\Pm.bD (Pm.aR s.data.toList (p+Pm.ak c) 5)+Pm.ao s.data.toList (p+Pm.ak c+5) (Pm.aH (Pm.aR s.data.toList (p+Pm.ak c) 5))<=32768:=by omega
 clear hX hlb hY hdb ha hlen;have e1:decide (¬ (258<=Pm.a_ c+Pm.ao s.data.toList p (Pm.ak c)/\c≠285))=true:=Zq k3;have HLen:=tW w b s p n c h.r hn hs h1 k1 k2;rw [e1] at HLen;have HLen':=ai HLen;have HDist:=ai (fun (wx:World) (nx:Nat) (hx:PR wx b s (p+Pm.ak c) nx) (hnx:nx < 8)=>vY wx b s (p+Pm.ak c) nx hx hnx hs k5 k6 k7);clear HLen e1 k3 k5 k6 k7;generalize Pm.a_ c+Pm.ao s.data.toList p (Pm.ak c)=N at*;generalize Pm.bD (Pm.aR s.data.toList (p+Pm.ak c) 5)+Pm.ao s.data.toList (p+Pm.ak c+5) (Pm.aH (Pm.aR s.data.toList (p+Pm.ak c) 5))=D at*;generalize p+Pm.ak c+5+Pm.aH (Pm.aR s.data.toList (p+Pm.ak c) 5)=Q at*;go_enter func270,ntmps270
 go_wp2_with fail
 refine HLen'.out.mono ?_;rintro e w1 ⟨rfl,⟨n1,hn1,hr1⟩,ho1⟩;have hU1:=h.few ho1 hr1;have hb1:=ho1.below h.lt;clear HLen' ho1 hr1;go_wp2_with fail
 refine (dq w1 b s _ _ N v out hU1 (by omega) ho).mono ?_;rintro e w2 ⟨rfl,z,rfl⟩;have e2:decide (out.length+N<=1048576)=true:=Zq k4;rw [e2];clear e2;have hU2:=hU1.drewN z;have hb2:=below_drewN hb1 z;clear hU1 hb1;go_wp2_with fail
 refine (HDist.out _ n1 hU2.r hn1).mono ?_;rintro e w3 ⟨rfl,⟨n3,hn3,hr3⟩,ho3⟩;have hU3:=hU2.few ho3 hr3;have hb3:=hb2.trans (ho3.below hU2.lt);clear hU2 hb2 ho3 hr3 HDist;have c4:=hU3.c4;obtain ⟨ad,cap,hform,_⟩:=hU3.o.form;rw [hform] at c4;have hdd:decide (out.length < D)=false:=Zj (by omega);go_wp2;clear c4;go_loopg [39] (N+1) (fun g i wr=>∃ k:Nat,k<=N/\N - k < g/\i=.int .i64 k/\(∃ u,PU wr b s Q n3 u (Pm.eQ out D k))/\Below b w wr)
 case atStart=>exact ⟨0,by omega,by omega,rfl,⟨v,hU3⟩,hb3⟩
 case round=>
  clear hU3 hb3 hform;obtain ⟨k,hk1,hk2,rfl,⟨u,hUk⟩,hbk⟩:=hrel;have HCS:=ai (Pm.qf out D k);have hM:=Pm.ig out D k;have HDone:Hid (k=N->PU wr b s Q n3 u (Pm.eQ out D N)):=fun hh=>hh ▸ hUk
  by_cases hkl:k < N
  ·clear HDone;generalize Pm.eQ out D k=o2 at*;have hM1:o2.length<=out.length+k:=by omega
   have hM2:out.length+k<=o2.length:=by omega
   clear hM;have hOk:=hUk.o;obtain ⟨gb,cap2,hv2,hcell,hgb⟩:=hOk.at (o2.length - D) (by omega);subst hv2;generalize hI:o2.length - D=I at*;have eI:IntKind.i64.wrap ((o2.length:Int) - (D:Int))=(I:Int):=by rw [IntWalk.i64_in _ (by omega)];omega
   have eB:(I:Int) < (o2.length:Int):=by omega
   clear hI;generalize o2.getD I 0=cc at*;have c4:=hUk.c4;have f4:=hUk.f4;have c4a:∀ ob:Obj,(wr.alloc ob).cell? (zq b 4)=some (.slice gb o2.length cap2):=fun ob=>(((ZQ (b+1) wr).alloc hOk.base ob).cell (p:=zq b 4) (Zm b)).trans c4
   have HCell:Hid ((wr.drew.alloc (.cells #[.int .u8 (cc.toNat:Nat)] 5)).cell? wr=some (.int .u8 (cc.toNat:Nat))):=by
    exact uu wr.drew _ _
   have hOd:=hOk.drew.alloc (.cells #[.int .u8 (cc.toNat:Nat)] 5);have hbd:Below (b+1) wr (wr.drew.alloc (.cells #[.int .u8 (cc.toNat:Nat)] 5)):=((ZQ _ _).drew).alloc hOk.base _;have HBd:=ai hbd;clear hbd;go_wp2;go_region_law ((refine BS rfl (.tmp 45) (.tmp 59) 66 rfl underlying66 b _ o2 (by simp [Act.eval,Act.put]) hOd ⟨wr,0,none⟩ 1 (by simp [Act.eval,Act.put]) cc HCell.out rfl (by omega) ?_;intro v7 w7 hO7 hb7;obtain ⟨ad7,cap7,hv7,hno7⟩:=hO7.form;clear hno7;generalize (o2++[cc]).length=L7 at hv7;rw [hv7] at hO7 ⊢;clear hv7;have k4:=((HBd.out.trans hb7).cell (p:=zq b 4) (Zm b)).trans c4;have kf:=((HBd.out.trans hb7).frozen (p:=zq b 4) (Zm b)).trans f4))
   all_goals
    go_wp2;go_roundg (gk - 1)
    case measure=>omega
    case rel=>
     refine ⟨k+1,by omega,by omega,by go_num,⟨.slice ad7 L7 cap7,?_⟩,?_⟩
     ·rw [HCS.out];exact hUk.grow (HBd.out.trans hb7) hO7
     ·exact (hbk.trans ((HBd.out.trans hb7).mono (Nat.le_succ b))).setCell (ZV b) _
  ·have hke:k=N:=by omega
   have hUD:=HDone.out hke;subst hke;clear HCS hM HDone;go_wp2;go_ret;exact ⟨rfl,⟨n3,u,hn3,hUD⟩,hbk⟩
theorem Ch (w:World) (b:Nat) (s:ByteArray) (p n c:Nat) (v:Value) (out:List UInt8) (h:PU w b s p n v out) (hn:n < 8) (hs:s.size<=140737488355328) (ho:out.length<=1048576) (h1:257<=c) (h2:c<=287) (ha:Pm.gl s.data.toList p c out=none):
  CP 270 #[zp b,c] w fun e w'=>e=.returned false/\Below b w w':=by
 have hlen:s.data.toList.length=s.size:=by simp
 by_cases k1:c<=285
 ·by_cases k2:p+Pm.ak c<=8*s.size
  ·have hlb:=Pm.fh c (by omega) h1;have hX:=Pm.cJ s.data.toList p (Pm.ak c);have hN3:Pm.a_ c+Pm.ao s.data.toList p (Pm.ak c)<=258:=by omega
   clear hX hlb;by_cases k3:258<=Pm.a_ c+Pm.ao s.data.toList p (Pm.ak c)/\c≠285
   ·have e1:decide (¬ (258<=Pm.a_ c+Pm.ao s.data.toList p (Pm.ak c)/\c≠285))=false:=Zj (by simpa using k3);have HLen:=tW w b s p n c h.r hn hs h1 k1 k2;rw [e1] at HLen;have HLen':=ai HLen;clear HLen e1 ha k3;generalize Pm.a_ c+Pm.ao s.data.toList p (Pm.ak c)=N at*;go_enter func270,ntmps270
    go_wp2_with fail
    refine HLen'.out.mono ?_;rintro e w1 ⟨rfl,⟨n1,hn1,hr1⟩,ho1⟩;go_wp2;go_ret;exact ⟨rfl,ho1.below h.lt⟩
   ·have e1:decide (¬ (258<=Pm.a_ c+Pm.ao s.data.toList p (Pm.ak c)/\c≠285))=true:=Zq k3;have HLen:=tW w b s p n c h.r hn hs h1 k1 k2;rw [e1] at HLen;have HLen':=ai HLen;clear HLen e1;by_cases k4:out.length+(Pm.a_ c+Pm.ao s.data.toList p (Pm.ak c))<=1048576
    ·by_cases k5:8*s.size < p+Pm.ak c+5\/29 < Pm.aR s.data.toList (p+Pm.ak c) 5\/8*s.size < p+Pm.ak c+5+Pm.aH (Pm.aR s.data.toList (p+Pm.ak c) 5)
     ·have HDist:=ai (fun (wx:World) (nx:Nat) (hx:PR wx b s (p+Pm.ak c) nx) (hnx:nx < 8)=>De wx b s (p+Pm.ak c) nx hx hnx hs k5);clear ha k3 k5;generalize Pm.a_ c+Pm.ao s.data.toList p (Pm.ak c)=N at*;go_enter func270,ntmps270
      go_wp2_with fail
      refine HLen'.out.mono ?_;rintro e w1 ⟨rfl,⟨n1,hn1,hr1⟩,ho1⟩;have hU1:=h.few ho1 hr1;have hb1:=ho1.below h.lt;clear HLen' ho1 hr1;go_wp2_with fail
      refine (dq w1 b s _ _ N v out hU1 (by omega) ho).mono ?_;rintro e w2 ⟨rfl,z,rfl⟩;have e2:decide (out.length+N<=1048576)=true:=Zq k4;rw [e2];clear e2;go_wp2_with fail
      refine (HDist.out _ n1 (hU1.drewN z).r hn1).mono ?_;rintro e w3 ⟨⟨zz,rfl⟩,_,ho3⟩;go_wp2;go_ret;exact ⟨rfl,(below_drewN hb1 z).trans (ho3.below (hU1.drewN z).lt)⟩
     ·simp only [not_or,Nat.not_lt] at k5;obtain ⟨k5,k6,k7⟩:=k5;have k8:out.length < Pm.bD (Pm.aR s.data.toList (p+Pm.ak c) 5)+Pm.ao s.data.toList (p+Pm.ak c+5) (Pm.aH (Pm.aR s.data.toList (p+Pm.ak c) 5)):=by
       refine XY fun hle=>?_
       rw [Pm.po (l:=s.data.toList) k1 (by rw [hlen];exact k2) k3 k4 (by rw [hlen];exact k5) k6 (by rw [hlen];exact k7) hle] at ha
       cases ha
      have hdb:=Pm.eN (Pm.aR s.data.toList (p+Pm.ak c) 5) (by omega);have hY:=Pm.cJ s.data.toList (p+Pm.ak c+5) (Pm.aH (Pm.aR s.data.toList (p+Pm.ak c) 5));have hD3:Pm.bD (Pm.aR s.data.toList (p+Pm.ak c) 5)+Pm.ao s.data.toList (p+Pm.ak c+5) (Pm.aH (Pm.aR s.data.toList (p+Pm.ak c) 5))<=32768:=by omega
      have HDist:=ai (fun (wx:World) (nx:Nat) (hx:PR wx b s (p+Pm.ak c) nx) (hnx:nx < 8)=>vY wx b s (p+Pm.ak c) nx hx hnx hs k5 k6 k7);clear ha k3 k5 k6 k7 hdb hY;generalize Pm.a_ c+Pm.ao s.data.toList p (Pm.ak c)=N at*;generalize Pm.bD (Pm.aR s.data.toList (p+Pm.ak c) 5)+Pm.ao s.data.toList (p+Pm.ak c+5) (Pm.aH (Pm.aR s.data.toList (p+Pm.ak c) 5))=D at*;go_enter func270,ntmps270
      go_wp2_with fail
      refine HLen'.out.mono ?_;rintro e w1 ⟨rfl,⟨n1,hn1,hr1⟩,ho1⟩;have hU1:=h.few ho1 hr1;have hb1:=ho1.below h.lt;clear HLen' ho1 hr1;go_wp2_with fail
      refine (dq w1 b s _ _ N v out hU1 (by omega) ho).mono ?_;rintro e w2 ⟨rfl,z,rfl⟩;have e2:decide (out.length+N<=1048576)=true:=Zq k4;rw [e2];clear e2;have hU2:=hU1.drewN z;have hb2:=below_drewN hb1 z;clear hU1 hb1;go_wp2_with fail
      refine (HDist.out _ n1 hU2.r hn1).mono ?_;rintro e w3 ⟨rfl,⟨n3,hn3,hr3⟩,ho3⟩;have hU3:=hU2.few ho3 hr3;have hb3:=hb2.trans (ho3.below hU2.lt);clear hU2 hb2 ho3 hr3 HDist;have c4:=hU3.c4;obtain ⟨ad,cap,hform,_⟩:=hU3.o.form;rw [hform] at c4;go_wp2;go_ret;exact ⟨rfl,hb3⟩
    ·clear ha k3;generalize Pm.a_ c+Pm.ao s.data.toList p (Pm.ak c)=N at*;go_enter func270,ntmps270
     go_wp2_with fail
     refine HLen'.out.mono ?_;rintro e w1 ⟨rfl,⟨n1,hn1,hr1⟩,ho1⟩;have hU1:=h.few ho1 hr1;go_wp2_with fail
     refine (dq w1 b s _ _ N v out hU1 (by omega) ho).mono ?_;rintro e w2 ⟨rfl,z,rfl⟩;have e2:decide (out.length+N<=1048576)=false:=Zj k4;rw [e2];go_wp2;go_ret;exact ⟨rfl,below_drewN (ho1.below h.lt) z⟩
  ·clear ha;go_enter func270,ntmps270
   go_wp2_with fail
   refine (D' w b s p n c h.r hn hs h1 k1 (by omega)).mono ?_;rintro e w1 ⟨⟨z,rfl⟩,_,ho1⟩;go_wp2;go_ret;exact ⟨rfl,ho1.below h.lt⟩
 ·clear ha;go_enter func270,ntmps270
  go_wp2_with fail
  refine (Dh w b c (by omega) h2).mono ?_;rintro e w1 ⟨rfl,rfl⟩;go_wp2;go_ret;exact ⟨rfl,ZQ _ _⟩
def DC (w0:World) (b:Nat) (s:ByteArray) (res:Option (Nat×List UInt8)) (e:Ending) (w':World):Prop:=
 Below b w0 w'/\((e=.returned false/\res=none)\/(∃ q n v o,e=.returned true/\res=some (q,o)/\n < 8/\o.length<=1048576/\PU w' b s q n v o))
theorem yz (w:World) (b:Nat) (s:ByteArray) (p n:Nat) (v:Value) (out:List UInt8) (h:PU w b s p n v out) (hn:n < 8) (hl:out.length<=1048576) (hs:s.size<=140737488355328) (f:Nat) (hf:8*s.size < p+f):
  CP 237 #[zp b] w fun e w'=>DC w b s (Pm.bn s.data.toList f p out) e w':=by
 have hlen:s.data.toList.length=s.size:=by simp
 have HL:Hid (8*s.size=8*s.data.toList.length):=by show _=_;rw [hlen]
 clear hlen;generalize hres:Pm.bn s.data.toList f p out=res;have HR:Hid (Pm.bn s.data.toList f p out=res):=hres;clear hres;go_enter func237,ntmps237
 go_wp2;go_loopg [3,4] (8*s.size+2) (fun g _ _ wr=>∃ q m u o,PU wr b s q m u o/\m < 8/\Below b w wr/\o.length<=1048576/\8*s.size+1 - q<=g/\∃ f',8*s.size < q+f'/\Pm.bn s.data.toList f' q o=res)
 case atStart=>exact ⟨p,n,v,out,h,hn,ZQ _ _,hl,by omega,f,hf,HR.out⟩
 case round=>
  clear hf HR h hn hl;obtain ⟨q,m,u,o,hU,hm,hb,hlo,hg,hf⟩:=hrel;have HC:=ai hf;clear hf;have hq:q<=8*s.size:=by have:=hU.r.le;omega
  have hwd:=Pm.tJ s.data.toList q;have hcc:=Pm.AW s.data.toList q;by_cases hend:8*s.size < q+(Pm.bC s.data.toList q).2
  ·have HN:Hid (res=none):=Pm.jC hq HC.out (Pm.wO (by rw [<-HL.out];exact hend));clear HC;go_wp2_with fail
   refine (Ea wr b s q m hU.r hm hs hend).mono ?_;rintro e w1 ⟨⟨z,rfl⟩,_,ho1⟩;go_wp2;go_ret;exact ⟨hb.trans (ho1.below hU.lt),YN ⟨rfl,HN.out⟩⟩
  ·have hend':q+(Pm.bC s.data.toList q).2<=8*s.data.toList.length:=by rw [<-HL.out];omega
   go_wp2_with fail
   refine (Ec wr b s q m hU.r hm hs (by omega)).mono ?_;rintro e w1 ⟨rfl,⟨n1,hn1,hr1⟩,ho1⟩;have hU1:=hU.few ho1 hr1;have hb1:=hb.trans (ho1.below hU.lt);clear hU hb ho1 hr1;by_cases h256:(Pm.bC s.data.toList q).1=256
   ·have HN:Hid (res=some (q+(Pm.bC s.data.toList q).2,o)):=Pm.vF hq HC.out (Pm.pj hend' h256);clear HC hend';generalize (Pm.bC s.data.toList q).1=c at*;generalize (Pm.bC s.data.toList q).2=wd at*;subst h256;go_wp2;go_ret;exact ⟨hb1,YA ⟨_,n1,u,o,rfl,HN.out,hn1,hlo,hU1⟩⟩
   ·by_cases hlt:(Pm.bC s.data.toList q).1 < 256
    ·by_cases hroom:o.length+1<=1048576
     ·have HB:=ai (Pm.qQ hq HC.out (Pm.mC hend' hlt hroom) (by omega));clear HC hend';generalize (Pm.bC s.data.toList q).1=c at*;generalize (Pm.bC s.data.toList q).2=wd at*;go_wp2_with fail
      refine (dq w1 b s _ _ 1 u o hU1 (by omega) hlo).mono ?_;rintro e w2 ⟨rfl,z,rfl⟩;have e2:decide (o.length+1<=1048576)=true:=Zq hroom;rw [e2];clear e2;have hU2:=hU1.drewN z;have hb2:=below_drewN hb1 z;clear hU1 hb1;generalize w1.drewN z=w2 at*;have hub:(UInt8.ofNat c).toNat=c:=by simp;omega
      have HCell:Hid ((w2.alloc (.cells #[.int .u8 c] 5)).cell? w2=some (.int .u8 ((UInt8.ofNat c).toNat:Nat))):=by
       show _=_
       rw [hub];exact uu w2 _ _
      clear hub;have hO2:=hU2.o;have c4:=hU2.c4;have f4:=hU2.f4;have hbd:Below (b+1) w2 (w2.alloc (.cells #[.int .u8 c] 5)):=(ZQ _ _).alloc hO2.base _;have HBd:=ai hbd;clear hbd;obtain ⟨ad,cap,hform,_⟩:=hO2.form;rw [hform] at c4 hO2 hU2;clear hform;go_wp2_with (at_builtin;refine kX rfl (.tmp 14) (.tmp 17) 66 rfl underlying66 b _ o rfl (hO2.alloc _) ⟨w2,0,none⟩ 1 rfl (UInt8.ofNat c) HCell.out rfl (by omega) ?_)
      intro v7 w7 hO7 hb7;obtain ⟨ad7,cap7,hv7,hno7⟩:=hO7.form;clear hno7;generalize (o++[UInt8.ofNat c]).length=L7 at hv7;rw [hv7] at hO7 ⊢;clear hv7;have k4:=((HBd.out.trans hb7).cell (p:=zq b 4) (Zm b)).trans c4;have kf:=((HBd.out.trans hb7).frozen (p:=zq b 4) (Zm b)).trans f4;go_wp2;go_roundg (gk - 1)
      case measure=>omega
      case rel=>
       refine ⟨q+wd,n1,_,_,hU2.grow (HBd.out.trans hb7) hO7,hn1,?_,by simp;omega,by omega,HB.out⟩;exact (hb2.trans ((HBd.out.trans hb7).mono (Nat.le_succ b))).setCell (ZV b) _
     ·have HN:Hid (res=none):=Pm.jC hq HC.out (Pm.uf hlt (by omega));clear HC hend';generalize (Pm.bC s.data.toList q).1=c at*;generalize (Pm.bC s.data.toList q).2=wd at*;go_wp2_with fail
      refine (dq w1 b s _ _ 1 u o hU1 (by omega) hlo).mono ?_;rintro e w2 ⟨rfl,z,rfl⟩;have e2:decide (o.length+1<=1048576)=false:=Zj hroom;rw [e2];go_wp2;go_ret;exact ⟨below_drewN hb1 z,YN ⟨rfl,HN.out⟩⟩
    ·have hc1:257<=(Pm.bC s.data.toList q).1:=by omega
     cases hag:Pm.gl s.data.toList (q+(Pm.bC s.data.toList q).2) (Pm.bC s.data.toList q).1 o with
     | none=>
      have HN:Hid (res=none):=Pm.jC hq HC.out (Pm.uV (by omega) hag);have HAg:=ai (fun (n2:Nat) (hn2:n2 < 8) (hx:PU w1 b s (q+(Pm.bC s.data.toList q).2) n2 u o)=>Ch w1 b s _ n2 _ u o hx hn2 hs hlo hc1 hcc hag);clear HC hend' hag;generalize (Pm.bC s.data.toList q).1=c at*;generalize (Pm.bC s.data.toList q).2=wd at*;go_wp2_with fail
      refine (HAg.out n1 hn1 hU1).mono ?_;rintro e w2 ⟨rfl,hb2⟩;go_wp2;go_ret;exact ⟨hb1.trans hb2,YN ⟨rfl,HN.out⟩⟩
     | some r=>
      obtain ⟨q',o'⟩:=r;have hle:=Pm.lg hag;have HB:=ai (Pm.qQ hq HC.out (Pm.lk hend' (by omega) hag) (by show q < q';omega));have HAg:=ai (fun (n2:Nat) (hn2:n2 < 8) (hx:PU w1 b s (q+(Pm.bC s.data.toList q).2) n2 u o)=>Ci w1 b s _ n2 _ u o hx hn2 hs hlo hc1 q' o' hag);have hqq:q < q':=by omega
      have hoo:=hle.2.2;clear HC hend' hag hle;generalize (Pm.bC s.data.toList q).1=c at*;generalize (Pm.bC s.data.toList q).2=wd at*;go_wp2_with fail
      refine (HAg.out n1 hn1 hU1).mono ?_;rintro e w2 ⟨rfl,⟨n2,v2,hn2,hU2⟩,hb2⟩;go_wp2;go_roundg (gk - 1)
      case measure=>omega
      case rel=>exact ⟨q',n2,v2,o',hU2,hn2,hb1.trans hb2,hoo,by omega,HB.out⟩
theorem PR.up {w:World} {b:Nat} {s:ByteArray} {p n:Nat} (h:PR w b s p n) (hn:n < 8):p+n=Pm.bq p/\Pm.bq p - p=n:=by
 have:=h.at8;unfold Pm.bq;omega
theorem BC (w:World) (b:Nat) (s:ByteArray) (p n:Nat) (v:Value) (out:List UInt8) (h:PU w b s p n v out) (hn:n < 8) (hl:out.length<=1048576) (hs:s.size<=140737488355328):
  CP 236 #[zp b] w fun e w'=>DC w b s (Pm.cO s.data.toList p out) e w':=by
 have hlen:s.data.toList.length=s.size:=by simp
 obtain ⟨hP,hn2⟩:=h.r.up hn;have hP8:Pm.bq p % 8=0:=by unfold Pm.bq;omega
 have HNo:=ai (fun hh=>Pm.eO (l:=s.data.toList) (p:=p) (out:=out) hh);have HYes:=ai (fun h1 h2 h3 h4 h5=>Pm.rc (l:=s.data.toList) (p:=p) (out:=out) h1 h2 h3 h4 h5);rw [hlen,hn2] at HNo HYes;have HAl:=sF w b s p n h.r;rw [hP] at HAl;generalize hres:Pm.cO s.data.toList p out=res at*;clear hres hn2 hP hlen;generalize Pm.bq p=P at*;by_cases z0:Pm.ao s.data.toList p n=0
 ·have z0':decide (Pm.ao s.data.toList p n=0)=true:=Zq z0;rw [z0'] at HAl;have HA:=ai HAl;clear HAl z0';by_cases z1:P+16<=8*s.size
  ·by_cases z2:P+32<=8*s.size
   ·have hN:Pm.ao s.data.toList P 16 < 65536:=Pm.cJ _ _ 16;have hM:Pm.ao s.data.toList (P+16) 16 < 65536:=Pm.cJ _ _ 16;by_cases z3:Pm.ao s.data.toList (P+16) 16=65535 - Pm.ao s.data.toList P 16
    ·by_cases z4:out.length+Pm.ao s.data.toList P 16<=1048576
     ·by_cases z5:P / 8+4+Pm.ao s.data.toList P 16<=s.size
      ·have HE:=ai (HYes.out z0 z2 z3 z5 z4);have hm:((Pm.ao s.data.toList (P+16) 16:Int) != 65535 - (Pm.ao s.data.toList P 16:Int))=false:=by rw [XL];omega
       clear HNo HYes z0 z3;go_enter func236,ntmps236
       go_wp2_with fail
       refine HA.out.mono ?_;rintro e w1 ⟨rfl,hr1,ho1⟩;have hU1:=h.few ho1 hr1;have hb1:=ho1.below h.lt;clear hr1 ho1;go_wp2_with fail
       refine (bo w1 b s P 0 16 hU1.r (by omega) (by omega) hs z1).mono ?_;rintro e w2 ⟨rfl,⟨n2,hn2,hr2⟩,ho2⟩;have hU2:=hU1.few ho2 hr2;have hb2:=hb1.trans (ho2.below hU1.lt);clear hr2 ho2;go_wp2_with fail
       refine (bo w2 b s (P+16) n2 16 hU2.r hn2 (by omega) hs z2).mono ?_;rintro e w3 ⟨rfl,⟨n3,hn3,hr3⟩,ho3⟩;have hU3:=hU2.few ho3 hr3;have hb3:=hb2.trans (ho3.below hU2.lt);have hn30:n3=0:=by have:=hr3.at8;omega
       subst hn30;clear hr3 ho3 hU1 hU2 hb1 hb2;generalize Pm.ao s.data.toList (P+16) 16=M at*;generalize Pm.ao s.data.toList P 16=N at*;go_wp2_with fail
       refine (dq w3 b s _ _ N v out hU3 (by omega) hl).mono ?_;rintro e w4 ⟨rfl,z,rfl⟩;have e2:decide (out.length+N<=1048576)=true:=Zq z4;rw [e2];clear e2;have hU4:=hU3.drewN z;have hb4:=below_drewN hb3 z;clear hU3 hb3;go_wp2_with fail
       have e8:(P+16+16) / 8=P / 8+4:=by omega
       have HTB:=nL (w3.drewN z) b s (P+16+16) N hU4.r hs (by omega);rw [e8] at HTB;refine HTB.mono ?_;clear HTB e8;rintro e w5 ⟨rfl,hr5,ho5⟩;have hU5:=hU4.few ho5 hr5;have hb5:=hb4.trans (ho5.below hU4.lt);clear hr5 ho5 hU4 hb4;have hO5:=hU5.o;have c4:=hU5.c4;have f4:=hU5.f4;obtain ⟨ad,cap,hform,_⟩:=hO5.form;rw [hform] at c4 hO5 hU5;clear hform;have hxs:(s.extract (P / 8+4) (P / 8+4+N)).size<=N:=by simp;omega
       generalize hX:s.extract (P / 8+4) (P / 8+4+N)=X at*;have HX:=ai hX;clear hX;go_wp2_with (at_builtin;refine py rfl (.tmp 53) (.tmp 54) 66 9 rfl underlying66 underlying9 b _ out rfl hO5 X rfl (by omega) ?_)
       intro v7 w7 hO7 hb7;obtain ⟨ad7,cap7,hv7,hno7⟩:=hO7.form;clear hno7;generalize (out++X.data.toList).length=L7 at hv7;rw [hv7] at hO7 ⊢;clear hv7;have k4:=(hb7.cell (p:=zq b 4) (Zm b)).trans c4;have kf:=(hb7.frozen (p:=zq b 4) (Zm b)).trans f4;go_wp2;go_ret;refine ⟨(hb5.trans (hb7.mono (Nat.le_succ b))).setCell (ZV b) _,YA ⟨P+32+8*N,0,_,out++X.data.toList,rfl,?_,by omega,?_,hU5.grow hb7 hO7⟩⟩
       ·rw [HE.out, <-HX.out,Pm.eX]
       ·have hxl:X.data.toList.length=X.size:=by simp
        rw [ZY,hxl];omega
      ·have HE:=ai (HNo.out (YA (YA (YA (YN (by omega))))));have hm:((Pm.ao s.data.toList (P+16) 16:Int) != 65535 - (Pm.ao s.data.toList P 16:Int))=false:=by rw [XL];omega
       clear HNo HYes z0 z3;go_enter func236,ntmps236
       go_wp2_with fail
       refine HA.out.mono ?_;rintro e w1 ⟨rfl,hr1,ho1⟩;have hU1:=h.few ho1 hr1;have hb1:=ho1.below h.lt;clear hr1 ho1;go_wp2_with fail
       refine (bo w1 b s P 0 16 hU1.r (by omega) (by omega) hs z1).mono ?_;rintro e w2 ⟨rfl,⟨n2,hn2,hr2⟩,ho2⟩;have hU2:=hU1.few ho2 hr2;have hb2:=hb1.trans (ho2.below hU1.lt);clear hr2 ho2;go_wp2_with fail
       refine (bo w2 b s (P+16) n2 16 hU2.r hn2 (by omega) hs z2).mono ?_;rintro e w3 ⟨rfl,⟨n3,hn3,hr3⟩,ho3⟩;have hU3:=hU2.few ho3 hr3;have hb3:=hb2.trans (ho3.below hU2.lt);have hn30:n3=0:=by have:=hr3.at8;omega
       subst hn30;clear hr3 ho3 hU1 hU2 hb1 hb2;generalize Pm.ao s.data.toList (P+16) 16=M at*;generalize Pm.ao s.data.toList P 16=N at*;go_wp2_with fail
       refine (dq w3 b s _ _ N v out hU3 (by omega) hl).mono ?_;rintro e w4 ⟨rfl,z,rfl⟩;have e2:decide (out.length+N<=1048576)=true:=Zq z4;rw [e2];clear e2;have hU4:=hU3.drewN z;have hb4:=below_drewN hb3 z;clear hU3 hb3;go_wp2_with fail
       refine (nG (w3.drewN z) b s (P+16+16) N hU4.r hs (by omega) (by omega)).mono ?_;rintro e w5 ⟨rfl,hr5,ho5⟩;have hU5:=hU4.few ho5 hr5;have hb5:=hb4.trans (ho5.below hU4.lt);clear hr5 ho5 hU4 hb4;have hO5:=hU5.o;have c4:=hU5.c4;have f4:=hU5.f4;obtain ⟨ad,cap,hform,_⟩:=hO5.form;rw [hform] at c4 hO5 hU5;clear hform;have hxs:(⟨#[]⟩:ByteArray).size=0:=rfl;go_wp2_with (at_builtin;refine py rfl (.tmp 53) (.tmp 54) 66 9 rfl underlying66 underlying9 b _ out rfl hO5 ⟨#[]⟩ rfl (by rw [hxs];omega) ?_)
       intro v7 w7 hO7 hb7;obtain ⟨ad7,cap7,hv7,hno7⟩:=hO7.form;clear hno7;generalize (out++(⟨#[]⟩:ByteArray).data.toList).length=L7 at hv7;rw [hv7] at hO7 ⊢;clear hv7;have k4:=(hb7.cell (p:=zq b 4) (Zm b)).trans c4;have kf:=(hb7.frozen (p:=zq b 4) (Zm b)).trans f4;go_wp2;go_ret;exact ⟨(hb5.trans (hb7.mono (Nat.le_succ b))).setCell (ZV b) _,YN ⟨rfl,HE.out⟩⟩
     ·have HE:=ai (HNo.out (YA (YA (YA (YA (by omega))))));have hm:((Pm.ao s.data.toList (P+16) 16:Int) != 65535 - (Pm.ao s.data.toList P 16:Int))=false:=by rw [XL];omega
      clear HNo HYes z0 z3;go_enter func236,ntmps236
      go_wp2_with fail
      refine HA.out.mono ?_;rintro e w1 ⟨rfl,hr1,ho1⟩;have hU1:=h.few ho1 hr1;have hb1:=ho1.below h.lt;clear hr1 ho1;go_wp2_with fail
      refine (bo w1 b s P 0 16 hU1.r (by omega) (by omega) hs z1).mono ?_;rintro e w2 ⟨rfl,⟨n2,hn2,hr2⟩,ho2⟩;have hU2:=hU1.few ho2 hr2;have hb2:=hb1.trans (ho2.below hU1.lt);clear hr2 ho2;go_wp2_with fail
      refine (bo w2 b s (P+16) n2 16 hU2.r hn2 (by omega) hs z2).mono ?_;rintro e w3 ⟨rfl,⟨n3,hn3,hr3⟩,ho3⟩;have hU3:=hU2.few ho3 hr3;have hb3:=hb2.trans (ho3.below hU2.lt);clear hr3 ho3 hU1 hU2 hb1 hb2;generalize Pm.ao s.data.toList (P+16) 16=M at*;generalize Pm.ao s.data.toList P 16=N at*;go_wp2_with fail
      refine (dq w3 b s _ _ N v out hU3 (by omega) hl).mono ?_;rintro e w4 ⟨rfl,z,rfl⟩;have e2:decide (out.length+N<=1048576)=false:=Zj z4;rw [e2];go_wp2;go_ret;exact ⟨below_drewN hb3 z,YN ⟨rfl,HE.out⟩⟩
    ·have HE:=ai (HNo.out (YA (YA (YN z3))));have hm:((Pm.ao s.data.toList (P+16) 16:Int) != 65535 - (Pm.ao s.data.toList P 16:Int))=true:=by rw [bne_iff_ne];omega
     clear HNo HYes z0 z3;go_enter func236,ntmps236
     go_wp2_with fail
     refine HA.out.mono ?_;rintro e w1 ⟨rfl,hr1,ho1⟩;have hb1:=ho1.below h.lt;go_wp2_with fail
     refine (bo w1 b s P 0 16 hr1 (by omega) (by omega) hs z1).mono ?_;rintro e w2 ⟨rfl,⟨n2,hn2,hr2⟩,ho2⟩;have hb2:=hb1.trans (ho2.below hr1.lt);go_wp2_with fail
     refine (bo w2 b s (P+16) n2 16 hr2 hn2 (by omega) hs z2).mono ?_;rintro e w3 ⟨rfl,_,ho3⟩;have hb3:=hb2.trans (ho3.below hr2.lt);generalize Pm.ao s.data.toList (P+16) 16=M at*;generalize Pm.ao s.data.toList P 16=N at*;go_wp2;go_ret;exact ⟨hb3,YN ⟨rfl,HE.out⟩⟩
   ·have HE:=ai (HNo.out (YA (YN (by omega))));clear HNo HYes z0;go_enter func236,ntmps236
    go_wp2_with fail
    refine HA.out.mono ?_;rintro e w1 ⟨rfl,hr1,ho1⟩;have hb1:=ho1.below h.lt;go_wp2_with fail
    refine (bo w1 b s P 0 16 hr1 (by omega) (by omega) hs z1).mono ?_;rintro e w2 ⟨rfl,⟨n2,hn2,hr2⟩,ho2⟩;have hb2:=hb1.trans (ho2.below hr1.lt);go_wp2_with fail
    refine (gj w2 b s (P+16) n2 16 hr2 (by omega) (by omega) hs (by omega)).mono ?_;rintro e w3 ⟨rfl,_,ho3⟩;have hb3:=hb2.trans (ho3.below hr2.lt);generalize Pm.ao s.data.toList P 16=N at*;go_wp2;go_ret;exact ⟨hb3,YN ⟨rfl,HE.out⟩⟩
  ·have HE:=ai (HNo.out (YA (YN (by omega))));clear HNo HYes z0;go_enter func236,ntmps236
   go_wp2_with fail
   refine HA.out.mono ?_;rintro e w1 ⟨rfl,hr1,ho1⟩;have hb1:=ho1.below h.lt;go_wp2_with fail
   refine (gj w1 b s P 0 16 hr1 (by omega) (by omega) hs (by omega)).mono ?_;rintro e w2 ⟨rfl,⟨n2,hn2,hr2⟩,ho2⟩;have hb2:=hb1.trans (ho2.below hr1.lt);go_wp2_with fail
   refine (gj w2 b s P n2 16 hr2 hn2 (by omega) hs (by omega)).mono ?_;rintro e w3 ⟨rfl,_,ho3⟩;have hb3:=hb2.trans (ho3.below hr2.lt);go_wp2;go_ret;exact ⟨hb3,YN ⟨rfl,HE.out⟩⟩
 ·have HE:=ai (HNo.out (YN z0));have z0':decide (Pm.ao s.data.toList p n=0)=false:=Zj z0;rw [z0'] at HAl;have HA:=ai HAl;clear HAl z0' HNo HYes z0;go_enter func236,ntmps236
  go_wp2_with fail
  refine HA.out.mono ?_;rintro e w1 ⟨rfl,hr1,ho1⟩;go_wp2;go_ret;exact ⟨ho1.below h.lt,YN ⟨rfl,HE.out⟩⟩
theorem Cq (w:World) (b:Nat) (s:ByteArray) (q n:Nat) (v:Value) (out:List UInt8) (h:PU w b s (q+1) n v out) (hn:n < 8) (hs:s.size<=140737488355328) (hq:8*s.size < q+3):
  CP 207 #[zp b] w fun e w'=>e=.returned false/\Below b w w':=by
 go_enter func207,ntmps207
 go_wp2_with fail
 refine (gj w b s (q+1) n 2 h.r (by omega) (by omega) hs (by omega)).mono ?_;rintro e w1 ⟨rfl,_,ho1⟩;go_wp2;go_ret;exact ⟨rfl,ho1.below h.lt⟩
theorem Af (w:World) (b:Nat) (s:ByteArray) (q n:Nat) (v:Value) (out:List UInt8) (h:PU w b s (q+1) n v out) (hn:n < 8) (hl:out.length<=1048576) (hs:s.size<=140737488355328) (hq:q+3<=8*s.size):
  CP 207 #[zp b] w fun e w'=>DC w b s (Pm.ie s.data.toList q out) e w':=by
 have hlen:s.data.toList.length=s.size:=by simp
 have hK:Pm.ao s.data.toList (q+1) 2 < 4:=Pm.cJ _ _ 2;have HTake:=bo w b s (q+1) n 2 h.r hn (by omega) hs (by omega);unfold Pm.ie;generalize Pm.ao s.data.toList (q+1) 2=K at*;have HT:=ai HTake;clear HTake;rcases (show K=0\/K=1\/K=2\/K=3 from by omega) with rfl | rfl | rfl | rfl
 ·rw [ZM rfl];go_enter func207,ntmps207
  go_wp2_with fail
  refine HT.out.mono ?_;rintro e w1 ⟨rfl,⟨n1,hn1,hr1⟩,ho1⟩;have hU1:=h.few ho1 hr1;have hb1:=ho1.below h.lt;go_wp2_with fail
  refine (BC w1 b s (q+3) n1 v out hU1 hn1 hl hs).mono ?_;rintro e w2 ⟨hb2,he⟩;rcases he with ⟨rfl,hr⟩ | ⟨q',n',v',o',rfl,hr,hn',ho',hU'⟩
  ·go_wp2;go_ret;exact ⟨hb1.trans hb2,YN ⟨rfl,hr⟩⟩
  ·go_wp2;go_ret;exact ⟨hb1.trans hb2,YA ⟨q',n',v',o',rfl,hr,hn',ho',hU'⟩⟩
 ·rw [ZO (by decide),ZM rfl];go_enter func207,ntmps207
  go_wp2_with fail
  refine HT.out.mono ?_;rintro e w1 ⟨rfl,⟨n1,hn1,hr1⟩,ho1⟩;have hU1:=h.few ho1 hr1;have hb1:=ho1.below h.lt;go_wp2_with fail
  refine (yz w1 b s (q+3) n1 v out hU1 hn1 hl hs (8*s.data.toList.length+1) (by rw [hlen];omega)).mono ?_;rintro e w2 ⟨hb2,he⟩;rcases he with ⟨rfl,hr⟩ | ⟨q',n',v',o',rfl,hr,hn',ho',hU'⟩
  ·go_wp2;go_ret;exact ⟨hb1.trans hb2,YN ⟨rfl,hr⟩⟩
  ·go_wp2;go_ret;exact ⟨hb1.trans hb2,YA ⟨q',n',v',o',rfl,hr,hn',ho',hU'⟩⟩
 ·rw [ZO (by decide),ZO (by decide)];go_enter func207,ntmps207
  go_wp2_with fail
  refine HT.out.mono ?_;rintro e w1 ⟨rfl,_,ho1⟩;go_wp2;go_ret;exact ⟨ho1.below h.lt,YN ⟨rfl,rfl⟩⟩
 ·rw [ZO (by decide),ZO (by decide)];go_enter func207,ntmps207
  go_wp2_with fail
  refine HT.out.mono ?_;rintro e w1 ⟨rfl,_,ho1⟩;go_wp2;go_ret;exact ⟨ho1.below h.lt,YN ⟨rfl,rfl⟩⟩
theorem xm (w:World) (b:Nat) (s:ByteArray) (p n:Nat) (v:Value) (out:List UInt8) (h:PU w b s p n v out) (hn:n < 8) (hl:out.length<=1048576) (hs:s.size<=140737488355328) (f:Nat) (hf:8*s.size < p+f):
  CP 158 #[zp b] w fun e w'=>DC w b s (Pm.bF s.data.toList f p out) e w':=by
 have hlen:s.data.toList.length=s.size:=by simp
 have HL:Hid (8*s.size=8*s.data.toList.length):=by show _=_;rw [hlen]
 clear hlen;generalize hres:Pm.bF s.data.toList f p out=res;have HR:=ai hres;clear hres;go_enter func158,ntmps158
 go_wp2;go_loopg [3,4] (8*s.size+2) (fun g _ _ wr=>∃ q m u o,PU wr b s q m u o/\m < 8/\Below b w wr/\o.length<=1048576/\8*s.size+1 - q<=g/\∃ f',8*s.size < q+f'/\Pm.bF s.data.toList f' q o=res)
 case atStart=>exact ⟨p,n,v,out,h,hn,ZQ _ _,hl,by omega,f,hf,HR.out⟩
 case round=>
  clear hf HR h hn hl;obtain ⟨q,m,u,o,hU,hm,hb,hlo,hg,hf⟩:=hrel;have HC:=ai hf;clear hf;have hq:q<=8*s.size:=by have:=hU.r.le;omega
  by_cases hend:8*s.size < q+3
  ·have HN:=ai (Pm.tQ HL.out hq HC.out hend);clear HC;by_cases h1:8*s.size < q+1
   ·go_wp2_with fail
    refine (gj wr b s q m 1 hU.r (by omega) (by omega) hs h1).mono ?_;rintro e w1 ⟨rfl,_,ho1⟩;go_wp2;go_ret;exact ⟨hb.trans (ho1.below hU.lt),YN ⟨rfl,HN.out⟩⟩
   ·go_wp2_with fail
    refine (bo wr b s q m 1 hU.r hm (by omega) hs (by omega)).mono ?_;rintro e w1 ⟨rfl,⟨n1,hn1,hr1⟩,ho1⟩;have hU1:=hU.few ho1 hr1;have hb1:=hb.trans (ho1.below hU.lt);generalize Pm.ao s.data.toList q 1=X at*;go_wp2_with fail
    refine (Cq w1 b s q n1 u o hU1 hn1 hs hend).mono ?_;rintro e w2 ⟨rfl,hb2⟩;go_wp2;go_ret;exact ⟨hb1.trans hb2,YN ⟨rfl,HN.out⟩⟩
  ·have hend':q+3<=8*s.size:=by omega
   have hX:Pm.ao s.data.toList q 1 < 2:=Pm.cJ _ _ 1;go_wp2_with fail
   refine (bo wr b s q m 1 hU.r hm (by omega) hs (by omega)).mono ?_;rintro e w1 ⟨rfl,⟨n1,hn1,hr1⟩,ho1⟩;have hU1:=hU.few ho1 hr1;have hb1:=hb.trans (ho1.below hU.lt);clear hU hb ho1 hr1;go_wp2_with fail
   refine (Af w1 b s q n1 u o hU1 hn1 hlo hs hend').mono ?_;rintro e w2 ⟨hb2,he⟩;rcases he with ⟨rfl,hr⟩ | ⟨q',n',v',o',rfl,hr,hn',ho',hU'⟩
   ·have HN:=ai (Pm.rG hq HC.out hr);clear HC;generalize Pm.ao s.data.toList q 1=X at*;go_wp2;go_ret;exact ⟨hb1.trans hb2,YN ⟨rfl,HN.out⟩⟩
   ·have hqq:=(Pm.ph hr hlo).1;by_cases hx1:Pm.ao s.data.toList q 1=1
    ·have HN:=ai (Pm.rv HL.out hend' HC.out hr hx1);clear HC;generalize Pm.ao s.data.toList q 1=X at*;subst hx1;go_wp2;go_ret;exact ⟨hb1.trans hb2,YA ⟨q',n',v',o',rfl,HN.out,hn',ho',hU'⟩⟩
    ·have HN:=ai (Pm.wR HL.out hend' HC.out hr hx1 hlo);clear HC;generalize Pm.ao s.data.toList q 1=X at*;have hx0:X=0:=by omega
     subst hx0;go_wp2;go_roundg (gk - 1)
     case measure=>omega
     case rel=>exact ⟨q',n',v',o',hU',hn',hb1.trans hb2,ho',by omega,HN.out⟩
end Go.Proofs.YtbklfkpjoinofaaGreatDoor
