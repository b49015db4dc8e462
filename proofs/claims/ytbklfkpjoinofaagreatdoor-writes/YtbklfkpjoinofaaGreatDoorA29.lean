import Derived.Test.YtbklfkpjoinofaaGreatDoorA02
set_option linter.all false
set_option maxRecDepth 100000
set_option maxHeartbeats 8000000
namespace Go.Proofs.YtbklfkpjoinofaaGreatDoor
open Go.RowKit Go.Proofs.Tryz
namespace Pm
theorem dA (a b:List UInt8) (p n:Nat) (h:p+n<=8*a.length):am (a++b) p n=am a p n:=by
 obtain ⟨m,hm⟩:∃ m,8*a.length=p+n+m:=⟨8*a.length - (p+n),by omega⟩;unfold am;rw [gY,hm];have e:2 ^ (p+n+m)*eB b=2 ^ p*(2 ^ n*(2 ^ m*eB b)):=by rw [Ze,Ze,Yj,Yj]
 rw [e,Nat.add_mul_div_left _ _ (YH p),Nat.add_mul_mod_self_left]
theorem oW (a b:List UInt8) (p n:Nat) (h:p+n<=8*a.length):aR (a++b) p n=aR a p n:=by
 rw [jh _ p n n (ZX _),jh _ p n n (ZX _),dA a b p n h]
theorem xV (a b:List UInt8) (p:Nat) (h:p+(bC a p).2<=8*a.length):bC (a++b) p=bC a p:=by
 have h7:p+7<=8*a.length:=by have:=(tJ a p).1;omega
 unfold bC at h ⊢;rw [oW a b p 7 h7];by_cases c1:aR a p 7<=23
 ·rw [ZO c1,ZO c1]
 ·rw [ZU c1] at h;rw [ZU c1,ZU c1];have h8:p+7+1<=8*a.length:=by
   split at h
   ·simp at h;omega
   ·split at h <;> simp at h <;> omega
  rw [dA a b (p+7) 1 h8];split
  ·rfl
  ·rename_i c2
   rw [ZU c2] at h;split
   ·rfl
   ·rename_i c3
    rw [ZU c3] at h;have h9:p+8+1<=8*a.length:=by simp at h;omega
    rw [dA a b (p+8) 1 h9]
theorem sM (a b:List UInt8) (q c:Nat) (o:List UInt8) {r:Nat×List UInt8} (h:ch a q c o=some r):ch (a++b) q c o=some r:=by
 have hl:8*a.length<=8*(a++b).length:=by rw [ZZ];omega
 unfold ch at h;by_cases c1:285 < c
 ·rw [ZO c1] at h;cases h
 rw [ZU c1] at h;by_cases c2:8*a.length < q+al c
 ·rw [ZO c2] at h;cases h
 rw [ZU c2] at h;by_cases c3:258<=a_ c+am a q (al c)/\c≠285
 ·rw [ZO c3] at h;cases h
 rw [ZU c3] at h;by_cases c4:1048576 < o.length+(a_ c+am a q (al c))
 ·rw [ZO c4] at h;cases h
 rw [ZU c4] at h;by_cases c5:8*a.length < q+al c+5
 ·rw [ZO c5] at h;cases h
 rw [ZU c5] at h;by_cases c6:29 < aR a (q+al c) 5
 ·rw [ZO c6] at h;cases h
 rw [ZU c6] at h;by_cases c7:8*a.length < q+al c+5+aH (aR a (q+al c) 5)
 ·rw [ZO c7] at h;cases h
 rw [ZU c7] at h;have e1:=dA a b q (al c) (by omega);have e2:=oW a b (q+al c) 5 (by omega);have e3:=dA a b (q+al c+5) (aH (aR a (q+al c) 5)) (by omega);unfold ch;rw [e1,e2,e3,ZU c1,ZU (by omega),ZU c3,ZU c4,ZU (by omega),ZU c6,ZU (by omega)];exact h
theorem oO (a b:List UInt8) (p:Nat) (o:List UInt8) {r:Bool×Nat×List UInt8} (h:cY a p o=some r):cY (a++b) p o=some r:=by
 have hl:8*a.length<=8*(a++b).length:=by rw [ZZ];omega
 unfold cY at h ⊢;by_cases c1:8*a.length < p+(bC a p).2
 ·rw [ZO c1] at h;cases h
 rw [ZU c1] at h;rw [xV a b p (by omega),ZU (by omega)];split at h
 ·rename_i c2;rw [ZO c2];exact h
 ·rename_i c2
  rw [ZU c2];split at h
  ·rename_i c3;rw [ZO c3];exact h
  ·rename_i c3
   rw [ZU c3]
   match ha:ch a (p+(bC a p).2) (bC a p).1 o with
   | none=>rw [ha] at h;cases h
   | some x=>rw [ha] at h;rw [sM a b _ _ o ha];exact h
theorem sG (a b:List UInt8) {r:Nat×List UInt8} (f:Nat):∀ (g p:Nat) (o:List UInt8),f<=g->bn a f p o=some r->bn (a++b) g p o=some r:=by
 induction f with
 | zero=>intro g p o _ h;simp [bn] at h
 | succ f ih=>
  intro g p o hg h;obtain ⟨g,rfl⟩:∃ g',g=g'+1:=⟨g - 1,by omega⟩;rw [bn] at h
  match hs:cY a p o with
  | none=>rw [hs] at h;cases h
  | some (true,q,o')=>rw [hs] at h;rw [bn,oO a b p o hs];exact h
  | some (false,q,o')=>rw [hs] at h;rw [bn,oO a b p o hs];exact ih g q o' (by omega) h
theorem th (a b:List UInt8) (p:Nat) (o:List UInt8) {r:Nat×List UInt8} (h:cO a p o=some r):cO (a++b) p o=some r:=by
 have hl:a.length<=(a++b).length:=by rw [ZZ];omega
 have hup:p<=bq p/\bq p < p+8/\bq p / 8*8=bq p:=by unfold bq;omega
 unfold cO at h;by_cases c1:am a p (bq p - p)≠0
 ·rw [ZO c1] at h;cases h
 rw [ZU c1] at h;by_cases c2:8*a.length < bq p+32
 ·rw [ZO c2] at h;cases h
 rw [ZU c2] at h;have e1:=dA a b p (bq p - p) (by omega);have e2:=dA a b (bq p) 16 (by omega);have e3:=dA a b (bq p+16) 16 (by omega);by_cases c3:am a (bq p+16) 16≠65535 - am a (bq p) 16
 ·rw [ZO c3] at h;cases h
 rw [ZU c3] at h;by_cases c4:a.length < bq p / 8+4+am a (bq p) 16
 ·rw [ZO c4] at h;cases h
 rw [ZU c4] at h;unfold cO;rw [e1,e2,e3,ZU c1,ZU (by omega),ZU c3,ZU (by omega)];split at h
 ·cases h
 ·rename_i c5
  rw [ZU c5, <-h,List.drop_append_of_le_length (by omega),XK (by rw [YV];omega)]
theorem qK (a b:List UInt8) {r:Nat×List UInt8} (f:Nat):∀ (g p:Nat) (o:List UInt8),f<=g->bF a f p o=some r->bF (a++b) g p o=some r:=by
 have hl:a.length<=(a++b).length:=by rw [ZZ];omega
 induction f with
 | zero=>intro g p o _ h;simp [bF] at h
 | succ f ih=>
  intro g p o hg h;obtain ⟨g,rfl⟩:∃ g',g=g'+1:=⟨g - 1,by omega⟩;rw [bF] at h ⊢;by_cases c1:8*a.length < p+3
  ·rw [ZO c1] at h;cases h
  rw [ZU c1] at h;rw [ZU (by omega),dA a b (p+1) 2 (by omega),dA a b p 1 (by omega)];have key:∀ x,(if am a (p+1) 2=0 then cO a (p+3) o else if am a (p+1) 2=1 then bn a (8*a.length+1) (p+3) o else none)=some x->
    (if am a (p+1) 2=0 then cO (a++b) (p+3) o else if am a (p+1) 2=1 then bn (a++b) (8*(a++b).length+1) (p+3) o else none)=some x:=by
   intro x hx;split at hx
   ·rename_i c;rw [ZO c];exact th a b _ _ hx
   ·rename_i c
    rw [ZU c];split at hx
    ·rename_i c';rw [ZO c'];exact sG a b _ _ _ _ (by omega) hx
    ·cases hx
  match hm:(if am a (p+1) 2=0 then cO a (p+3) o else if am a (p+1) 2=1 then bn a (8*a.length+1) (p+3) o else none) with
  | none=>rw [hm] at h;cases h
  | some (q,o')=>
   rw [hm] at h;rw [key _ hm];simp only at h ⊢;split at h
   ·rename_i c;rw [ZO c];exact h
   ·rename_i c;rw [ZU c];exact ih g q o' (by omega) h
theorem gS (a b:List UInt8) (i:Nat) (h:i < a.length):(a++b).getD i 0=a.getD i 0:=by
 simp only [ZB];rw [Za h]
theorem wt (a b:List UInt8) (q:Nat) (o:List UInt8) {r:List UInt8×Nat} (h:iI a q o=some r):iI (a++b) q o=some r/\r.2<=a.length/\r.1=o:=by
 have hl:a.length<=(a++b).length:=by rw [ZZ];omega
 have hup:q<=bq q/\bq q < q+8/\bq q / 8*8=bq q:=by unfold bq;omega
 unfold iI at h;by_cases c1:am a q (bq q - q)≠0
 ·rw [ZO c1] at h;cases h
 rw [ZU c1] at h;by_cases c2:a.length < bq q / 8+4
 ·rw [ZO c2] at h;cases h
 rw [ZU c2] at h;have e1:=dA a b q (bq q - q) (by omega);have e2:uK (a++b) (bq q / 8)=uK a (bq q / 8):=by
  unfold uK;rw [gS a b _ (by omega),gS a b _ (by omega),gS a b _ (by omega),gS a b _ (by omega)]
 by_cases c3:uK a (bq q / 8)≠65536*(cB o (1,0)).2+(cB o (1,0)).1
 ·rw [ZO c3] at h;cases h
 rw [ZU c3] at h
 cases h
 refine ⟨?_,by simp only;omega,rfl⟩;unfold iI;rw [e1,e2,ZU c1,ZU (by omega),ZU c3]
theorem us (a b:List UInt8) {r:List UInt8×Nat} (h:bP a=some r):bP (a++b)=some r/\r.2<=a.length:=by
 have hl:a.length<=(a++b).length:=by rw [ZZ];omega
 unfold bP at h;by_cases c1:cm a=true
 ·rw [ZO c1] at h;have hh:cm (a++b)=true:=by
   unfold cm at c1 ⊢;simp only [Zt] at c1 ⊢;obtain ⟨h1,h2,h3,h4⟩:=c1;rw [gS a b 0 (by omega),gS a b 1 (by omega)];exact ⟨by omega,h2,h3,h4⟩
  match hb:bF a (8*a.length+1) 16 [] with
  | none=>rw [hb] at h;cases h
  | some (q,o)=>
   rw [hb] at h;have h':iI a q o=some r:=h;obtain ⟨t1,t2,_⟩:=wt a b q o h';rw [iM hh (qK a b _ _ _ _ (by omega) hb)];exact ⟨t1,t2⟩
 ·rw [ZU c1] at h;cases h
end Pm
end Go.Proofs.YtbklfkpjoinofaaGreatDoor
