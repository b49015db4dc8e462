import Derived.Test.YtbklfkpjoinofaaGreatDoorA05
import Derived.Test.YtbklfkpjoinofaaGreatDoorA04
set_option linter.all false
set_option maxRecDepth 100000
set_option maxHeartbeats 8000000
namespace Go.Proofs.YtbklfkpjoinofaaGreatDoor
open Go.RowKit Go.Proofs.Tryz
abbrev aZ (B c:Nat) (s:ByteArray) (a:Nat):As:=aS B c [.string s,.int .i64 (a:Int),.bool false]
theorem aZ.put {B c a b:Nat} {s:ByteArray} {w:World} {S:Bl} {z:Int} (h:aZ B c s a w S) (hz:z=(b:Int)):aZ B c s b (w.setCell (zq c 1) z) S/\Mv S w S (w.setCell (zq c 1) z):=by
 subst hz;exact h.set 1 (.int .i64 (b:Int)) (by simp)
theorem aZ.drewN {B c a:Nat} {s:ByteArray} {w:World} {S:Bl} (h:aZ B c s a w S) (q:Nat):aZ B c s a (w.drewN q) S:=(aS.thing B c _).drewN h q
theorem iR (w:World) (c a:Nat) (s t:ByteArray) (h0:w.cell? c=s) (h1:w.cell? (zq c 1)=(a:Int)) (hs:s.size<=2000000000) (ht:t.size<=2000000000) (hg:au s a t.data.toList):
  QD 163 #[zp c,t] w true:=by
 have hle:=hg.le;rw [aP] at hle;have he:=hg.ext;rw [aP] at he;have he:s.extract a (a+t.size)=t:=he;clear hg;have d1:decide ((a:Int)+(t.size:Int)<=(s.size:Int))=true:=by simp;omega
 go_enter func163,ntmps163
 go_wp2;go_quiet (fail)
 go_wp2;go_ret;exact ⟨rfl,_,rfl⟩
theorem lZ (w:World) (c a:Nat) (s t:ByteArray) (h0:w.cell? c=s) (h1:w.cell? (zq c 1)=(a:Int)) (hs:s.size<=2000000000) (ht:t.size<=2000000000) (ha:a<=s.size) (hg:¬ au s a t.data.toList):
  QD 163 #[zp c,t] w false:=by
 by_cases hle:a+t.size<=s.size
 ·have he:¬ s.extract a (a+t.size)=t:=by
   intro e;refine hg (au.of_ext ?_ (by rw [aP];exact hle));rw [aP];exact e
  have d1:decide ((a:Int)+(t.size:Int)<=(s.size:Int))=true:=by simp;omega
  have d2:((s.extract a (a+t.size)).toList==t.toList)=false:=by
   rw [Xy];intro e;rw [Yy,Yy] at e;exact he (Zj (YF e))
  clear hg;go_enter func163,ntmps163
  go_wp2;go_quiet (fail)
  go_wp2;go_ret;exact ⟨rfl,_,rfl⟩
 ·have d1:decide ((a:Int)+(t.size:Int)<=(s.size:Int))=false:=by simp;omega
  have d2:decide (a+t.size<=s.size)=false:=by simp;omega
  have hlt:s.size < a+t.size:=by omega
  clear hg;go_enter func163,ntmps163
  go_wp2;go_quiet (fail)
  go_wp2;go_ret;exact ⟨rfl,_,rfl⟩
theorem bX (w:World) (B c a:Nat) (s t:ByteArray) (S:Bl) (h:aZ B c s a w S) (hs:s.size<=2000000000) (hg:au s a t.data.toList):
  CP 114 #[zp c,t] w fun e w'=>e=.returned (.tuple #[])/\aZ B c s (a+t.size) w' S/\Mv S w S w':=by
 have hle:=hg.le;rw [aP] at hle;have HS:=aa (fun wx h0 h1=>iR wx c a s t h0 h1 hs (by omega) hg);clear hg;have c0:=h.at 0 _ rfl;have c1:=h.at 1 _ rfl;have c2:=h.at 2 _ rfl;have f1:=h.fz 1;go_enter func114,ntmps114
 go_wp2_with fail
 refine (HS.out w c0 c1).mono ?_;rintro e w1 ⟨rfl,q,rfl⟩;go_wp2;go_end0;obtain ⟨g1,m1⟩:=(h.drewN q).put (z:=(a:Int)+(t.size:Int)) (b:=a+t.size) (by omega);exact ⟨rfl,g1,m1.undrew⟩
theorem dQ (w:World) (B c a:Nat) (s:ByteArray) (S:Bl) (u:Nat) (x:UInt8) (h:aZ B c s a w S) (hs:s.size<=2000000000) (hu:u < 1000000000000) (hg:au s a (Lib.decDigits u++[x])) (hx:x.toNat < 48\/57 < x.toNat):
  CP 121 #[zp c] w fun e w'=>e=.returned (u:Int)/\aZ B c s (a+(Lib.decDigits u).length) w' S/\Mv S w S w':=by
 have hle:=hg.le;have hlen:(Lib.decDigits u).length<=12:=uB u 11 (by omega);have hpos:0 < (Lib.decDigits u).length:=by rw [Lib.decDigits_length];exact Lib.nDigits_pos u
 have HV:=aa (rj u);have HD:=aa (mV u);have hhead:∀ (hl:a < s.size),s[a].toNat=48->(Lib.decDigits u).length=1:=by
  intro hl h48;rcases Nat.eq_zero_or_pos u with rfl | hpu
  ·rw [Lib.decDigits_one (by omega)];rfl
  ·obtain ⟨c0,r,e,hc⟩:=xN u hpu;rw [e] at hg;obtain ⟨_,e2⟩:=hg.byte;rw [e2] at h48;exact absurd h48 hc
 have HH:=aa hhead;have HG:=aa hg;have HE:=aa (mF u);obtain ⟨ds,hds⟩:∃ ds,Lib.decDigits u=ds:=⟨_,rfl⟩;rw [hds] at hle hlen hpos HV HD HH HG HE ⊢;clear hds hhead hg;have HLen:=aa hlen;have h1:=h.at 1 _ rfl;go_enter func121,ntmps121
 go_wp2;go_loopg [4] 13 (fun g x wr=>∃ k p v:Nat,k<=ds.length/\ds.length - k < g/\Hid (p=a+k)/\Hid (v=fS (ds.take k))/\x=.int .i64 (v:Int)/\aZ B c s p wr S/\Mv S w S wr)
 case atStart=>exact ⟨0,a,0,by omega,by omega,rfl,rfl,rfl,h,Mv.refl _ _⟩
 case round=>
  obtain ⟨k,p,v,hk,hgk,HP,HVk,rfl,hc,hm⟩:=hrel;have c0:=hc.at 0 _ rfl;have c1:=hc.at 1 _ rfl;have c2:=hc.at 2 _ rfl;have f1:=hc.fz 1;have hv:v<=1000000000000:=by
   have:=HV.out k;have:=HVk.out;omega
  by_cases hlt:k < ds.length
  ·obtain ⟨hl,hb⟩:=HG.out.get k (by simp;omega);rw [List.getElem_append_left hlt] at hb;obtain ⟨y,hy⟩:∃ y,ds[k]=y:=⟨_,rfl⟩;rw [hy] at hb;have hdig:=HD.out y (by rw [<-hy];exact YK hlt);have hpp:=HP.out;have hb':∃ hl:p < s.size,s[p]=y:=by subst hpp;exact ⟨hl,hb⟩
   obtain ⟨hpl,hbp⟩:=hb';have HN:Hid (10*v+(y.toNat - 48)=fS (ds.take (k+1))):=by
    show _=_
    rw [ZH hlt,i_, <-HVk.out,hy]
   have hp12:p < a+12:=by omega
   clear hb hl hy hpp;have d1:decide ((p:Int) < (s.size:Int))=true:=by simp;omega
   have d2:decide (48<=(y.toNat:Int))=true:=by simp;omega
   have d3:decide ((y.toNat:Int)<=57)=true:=by simp;omega
   have d4:decide ((p:Int) < (a:Int)+12)=true:=by simp;omega
   go_wp2;go_quiet (fail)
   revert nq;intro n1;go_wp2;go_quiet (fail)
   go_wp2;go_roundg (gk - 1)
   case measure=>omega
   case rel=>
    have q1:=hc.drewN (n1+nq);obtain ⟨g1,m1⟩:=q1.put (z:=(p:Int)+1) (b:=p+1) (by omega);refine ⟨k+1,p+1,10*v+(y.toNat - 48),by omega,by omega,?_,HN,?_,g1,?_⟩
    ·show _=_
     rw [HP.out];omega
    ·congr 1;omega
    ·exact hm.trans (Mv.undrew (q:=n1+nq) m1)
  ·have hkl:k=ds.length:=by omega
   subst hkl;have hvu:v=u:=by
    have h1:=HVk.out;rw [ZF (ZX _),HE.out] at h1;exact h1
   subst hvu;have hpp:=HP.out;have hpl:p < s.size:=by
    have:=HG.out.le;simp at this;omega
   have hbx:s[p]=x:=by
    obtain ⟨_,hb⟩:=HG.out.get ds.length (by simp);subst hpp;rw [hb,List.getElem_append_right (ZX _)];simp
   have hal:a < s.size:=by omega
   obtain ⟨z,hz⟩:∃ z,s[a]=z:=⟨_,rfl⟩;have hz48:z.toNat=48->p=a+1:=by
    intro e;have:=HH.out hal (by rw [hz];exact e);omega
   have d0:decide ((p:Int)=(a:Int))=false:=by simp;omega
   have d1:decide ((p:Int) < (s.size:Int))=true:=by simp;omega
   have hpa:¬ p=a:=by omega
   have HF:Hid (aZ B c s (a+ds.length) wr S/\Mv S w S wr):=⟨hpp ▸ hc,hm⟩;clear hpp HP hc hm h hgk HH HG HVk HV HE hk;rcases hx with hx | hx
   ·have d2:decide (48<=(x.toNat:Int))=false:=by simp;omega
    have d2':decide (48<=x.toNat)=false:=by simp;omega
    have d2'':¬ 48<=x.toNat:=by omega
    by_cases h48:z.toNat=48
    ·have e1:=hz48 h48;have d4:decide ((a:Int)+1 < (p:Int))=false:=by simp;omega
     have d4':¬ a+1 < p:=by omega
     clear e1 hz48;go_wp2;go_quiet (fail)
     revert nq;intro n1;go_wp2;go_ret;exact ⟨rfl,HF.out.1.drewN _,HF.out.2.drewN _⟩
    ·clear hz48;have d4:decide ((z.toNat:Int)=48)=false:=by simp;omega
     have d5:((z.toNat:Int)==48)=false:=by simp;omega
     go_wp2;go_quiet (fail)
     revert nq;intro n1;go_wp2;go_ret;exact ⟨rfl,HF.out.1.drewN _,HF.out.2.drewN _⟩
   ·have d2:decide (48<=(x.toNat:Int))=true:=by simp;omega
    have d2':decide (48<=x.toNat)=true:=by simp;omega
    have d3:decide ((x.toNat:Int)<=57)=false:=by simp;omega
    have d3':decide (x.toNat<=57)=false:=by simp;omega
    have d3'':¬ x.toNat<=57:=by omega
    have d2'':48<=x.toNat:=by omega
    by_cases h48:z.toNat=48
    ·have e1:=hz48 h48;have d4:decide ((a:Int)+1 < (p:Int))=false:=by simp;omega
     have d4':¬ a+1 < p:=by omega
     clear e1 hz48;go_wp2;go_quiet (fail)
     revert nq;intro n1;go_wp2;go_ret;exact ⟨rfl,HF.out.1.drewN _,HF.out.2.drewN _⟩
    ·clear hz48;have d4:decide ((z.toNat:Int)=48)=false:=by simp;omega
     have d5:((z.toNat:Int)==48)=false:=by simp;omega
     go_wp2;go_quiet (fail)
     revert nq;intro n1;go_wp2;go_ret;exact ⟨rfl,HF.out.1.drewN _,HF.out.2.drewN _⟩
end Go.Proofs.YtbklfkpjoinofaaGreatDoor
