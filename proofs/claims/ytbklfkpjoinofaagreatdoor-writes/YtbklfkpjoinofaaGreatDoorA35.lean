import Derived.Test.YtbklfkpjoinofaaGreatDoorA25
import Derived.Test.YtbklfkpjoinofaaGreatDoorA34
set_option linter.all false
set_option maxRecDepth 100000
set_option maxHeartbeats 8000000
namespace Go.Proofs.YtbklfkpjoinofaaGreatDoor
open Go.RowKit Go.Proofs.Tryz
abbrev BQ (n lo hi:Int) (b:Bool):=Hid (∀ wx,QE 109 #[n,lo,hi] wx b)
abbrev xp (w:World) (K A X C D E Co Ro:Int) (t:ByteArray):=QB 111 #[.agg #[K,A,X,C,D,E,Co,Ro,t]] w false
theorem jm (t:ByteArray):t.toList.length=t.size:=by rw [Yy];simp
theorem Bg (n lo hi:Int):BQ n lo hi (decide (bG n lo hi)):=fun wx=>cv wx n lo hi
theorem uA {n lo hi:Int} (h:bG n lo hi):BQ n lo hi true:=YR h ▸ Bg n lo hi
theorem lH (n lo hi:Int):∃ b,BQ n lo hi b/\(b=true->bG n lo hi):=⟨_,Bg n lo hi,of_decide_eq_true⟩
theorem A6 {w:World} {o:bj} (h:¬ o.is) (hc:QB 111 #[o.val] w false):QB 111 #[o.val] w (.bool (decide o.is)):=by
 rw [Zf h];exact hc
theorem zE (w:World) (A X C D E Co Ro:Int) (t:ByteArray) (hs:t.size<=9223372036854775807) (hno:¬ (bj.mk 1 A X C D E Co Ro t).is):xp w 1 A X C D E Co Ro t:=by
 obtain ⟨b1,I1,q1⟩:=lH A (-14400000) 14400000;obtain ⟨b2,I2,q2⟩:=lH X (-14400000) 14400000;obtain ⟨b3,I3,q3⟩:=lH C 1 14400000
 cases b1
 rotate_left
 cases b2
 rotate_left
 cases b3
 rotate_left
 by_cases z0:D=0
 by_cases z1:E=0
 by_cases z2:Co=0
 by_cases z3:Ro=0
 by_cases s1:t.size<=100
 exact absurd ⟨q1 rfl,q2 rfl,.inl ⟨rfl,q3 rfl,z0,z1,z2,z3,s1⟩⟩ hno;subst z0 z1;have dl:decide ((t.size:Int)<=100)=false:=by simp;omega
 have dl2:¬ (t.size:Int)<=100:=by omega
 all_goals rcases (by omega:(¬ Co=0)\/(Co=0/\¬ Ro=0)\/(Co=0/\Ro=0)) with hco | ⟨hco,hro⟩ | ⟨hco,hro⟩
 all_goals first
  | (exfalso;omega)
  | (
   go_enter func111,ntmps111
   go_wp2_with fail
   refine (I1.out _).mono ?_;rintro e wz ⟨rfl,rfl⟩;go_wp2_with fail
   refine (I2.out _).mono ?_;rintro e wz ⟨rfl,rfl⟩;go_wp2_with fail
   refine (I3.out _).mono ?_;rintro e wz ⟨rfl,rfl⟩;go_wp2_with fail
   go_ret;exact ⟨rfl,(ZV _ w).alloc (ZX _) _⟩)
theorem Af (w:World) (A X C D E Co Ro:Int) (t:ByteArray) (hs:t.size<=9223372036854775807) (hno:¬ (bj.mk 2 A X C D E Co Ro t).is):xp w 2 A X C D E Co Ro t:=by
 obtain ⟨b1,I1,q1⟩:=lH A (-14400000) 14400000;obtain ⟨b2,I2,q2⟩:=lH X (-14400000) 14400000;obtain ⟨b3,I3,q3⟩:=lH C (-14400000) 14400000;obtain ⟨b4,I4,q4⟩:=lH D (-14400000) 14400000;obtain ⟨b5,I5,q5⟩:=lH E 0 14400000
 cases b1
 rotate_left
 cases b2
 rotate_left
 cases b3
 rotate_left
 cases b4
 rotate_left
 cases b5
 rotate_left
 by_cases z0:Co=0
 by_cases z1:Ro=0
 by_cases s1:t.size=0
 exact absurd ⟨q1 rfl,q2 rfl,.inr (.inl ⟨rfl,q3 rfl,q4 rfl,q5 rfl,z0,z1,s1⟩)⟩ hno;have h:t.toList.isEmpty=false:=by
  cases h:t.toList.isEmpty with
  | false=>rfl
  | true=>exact absurd (by have h2:=jm t;rw [List.isEmpty_iff.1 h] at h2;simpa using h2.symm) s1
 all_goals rcases (by omega:(¬ Co=0)\/(Co=0/\¬ Ro=0)\/(Co=0/\Ro=0)) with hco | ⟨hco,hro⟩ | ⟨hco,hro⟩
 all_goals first
  | (exfalso;omega)
  | (
   go_enter func111,ntmps111
   go_wp2_with fail
   refine (I1.out _).mono ?_;rintro e wz ⟨rfl,rfl⟩;go_wp2_with fail
   refine (I2.out _).mono ?_;rintro e wz ⟨rfl,rfl⟩;go_wp2_with fail
   refine (I3.out _).mono ?_;rintro e wz ⟨rfl,rfl⟩;go_wp2_with fail
   refine (I4.out _).mono ?_;rintro e wz ⟨rfl,rfl⟩;go_wp2_with fail
   refine (I5.out _).mono ?_;rintro e wz ⟨rfl,rfl⟩;go_wp2_with fail
   go_ret;exact ⟨rfl,(ZV _ w).alloc (ZX _) _⟩)
theorem zH (w:World) (A X C D E Co Ro:Int) (t:ByteArray) (hs:t.size<=9223372036854775807) (hno:¬ (bj.mk 3 A X C D E Co Ro t).is):xp w 3 A X C D E Co Ro t:=by
 obtain ⟨b1,I1,q1⟩:=lH A (-14400000) 14400000;obtain ⟨b2,I2,q2⟩:=lH X (-14400000) 14400000;obtain ⟨b3,I3,q3⟩:=lH C 0 14400000;obtain ⟨b4,I4,q4⟩:=lH D 0 14400000;obtain ⟨b5,I5,q5⟩:=lH E 0 1000
 cases b1
 rotate_left
 cases b2
 rotate_left
 cases b3
 rotate_left
 cases b4
 rotate_left
 cases b5
 rotate_left
 by_cases z0:Co=0
 by_cases z1:Ro=0
 by_cases s1:t.size=0
 exact absurd ⟨q1 rfl,q2 rfl,.inr (.inr (.inl ⟨rfl,q3 rfl,q4 rfl,q5 rfl,z0,z1,s1⟩))⟩ hno;have h:t.toList.isEmpty=false:=by
  cases h:t.toList.isEmpty with
  | false=>rfl
  | true=>exact absurd (by have h2:=jm t;rw [List.isEmpty_iff.1 h] at h2;simpa using h2.symm) s1
 all_goals rcases (by omega:(¬ Co=0)\/(Co=0/\¬ Ro=0)\/(Co=0/\Ro=0)) with hco | ⟨hco,hro⟩ | ⟨hco,hro⟩
 all_goals first
  | (exfalso;omega)
  | (
   go_enter func111,ntmps111
   go_wp2_with fail
   refine (I1.out _).mono ?_;rintro e wz ⟨rfl,rfl⟩;go_wp2_with fail
   refine (I2.out _).mono ?_;rintro e wz ⟨rfl,rfl⟩;go_wp2_with fail
   refine (I3.out _).mono ?_;rintro e wz ⟨rfl,rfl⟩;go_wp2_with fail
   refine (I4.out _).mono ?_;rintro e wz ⟨rfl,rfl⟩;go_wp2_with fail
   refine (I5.out _).mono ?_;rintro e wz ⟨rfl,rfl⟩;go_wp2_with fail
   go_ret;exact ⟨rfl,(ZV _ w).alloc (ZX _) _⟩)
theorem zV (w:World) (A X C D E Co Ro:Int) (t:ByteArray) (hs:t.size<=9223372036854775807) (hno:¬ (bj.mk 4 A X C D E Co Ro t).is):xp w 4 A X C D E Co Ro t:=by
 obtain ⟨b1,I1,q1⟩:=lH A (-14400000) 14400000;obtain ⟨b2,I2,q2⟩:=lH X (-14400000) 14400000;obtain ⟨b3,I3,q3⟩:=lH C 1 14400000;obtain ⟨b4,I4,q4⟩:=lH D 1 14400000;obtain ⟨b5,I5,q5⟩:=lH Co 1 64;obtain ⟨b6,I6,q6⟩:=lH Ro 1 64
 cases b1
 rotate_left
 cases b2
 rotate_left
 cases b3
 rotate_left
 cases b4
 rotate_left
 cases b5
 rotate_left
 cases b6
 rotate_left
 obtain ⟨hc0,hc1⟩:=q5 rfl;obtain ⟨hr0,hr1⟩:=q6 rfl;have dco:(Co==0)=false:=by simp;omega
 have dco2:¬ Co=0:=by omega
 by_cases z0:E=0
 have hp:0<=Co*Ro:=XI (by omega) (by omega);have hq:Co*Ro<=64*64:=XY hc1 hr1 (by omega) (by omega);obtain ⟨m,hm⟩:∃ m:Nat,Co*Ro=(m:Int):=⟨(Co*Ro).toNat,(Xv hp).symm⟩;by_cases s1:t.size=m
 exact absurd ⟨q1 rfl,q2 rfl,.inr (.inr (.inr ⟨rfl,q3 rfl,q4 rfl,q5 rfl,q6 rfl,z0,by show (t.size:Int)=Co*Ro;rw [hm,s1]⟩))⟩ hno;subst z0;have dl:((t.size:Int)==(m:Int))=false:=by simp;omega
 have dl2:¬ (t.size:Int)=(m:Int):=by omega
 all_goals rcases (by omega:(¬ Co=0)\/(Co=0/\¬ Ro=0)\/(Co=0/\Ro=0)) with hco | ⟨hco,hro⟩ | ⟨hco,hro⟩
 all_goals try subst hco
 all_goals try subst hro
 all_goals first
  | (exfalso;omega)
  | (
   go_enter func111,ntmps111
   go_wp2_with fail
   refine (I1.out _).mono ?_;rintro e wz ⟨rfl,rfl⟩;go_wp2_with fail
   refine (I2.out _).mono ?_;rintro e wz ⟨rfl,rfl⟩;go_wp2_with fail
   refine (I3.out _).mono ?_;rintro e wz ⟨rfl,rfl⟩;go_wp2_with fail
   refine (I4.out _).mono ?_;rintro e wz ⟨rfl,rfl⟩;go_wp2_with fail
   refine (I5.out _).mono ?_;rintro e wz ⟨rfl,rfl⟩;go_wp2_with fail
   refine (I6.out _).mono ?_;rintro e wz ⟨rfl,rfl⟩;go_wp2_with fail
   go_ret;exact ⟨rfl,(ZV _ w).alloc (ZX _) _⟩)
theorem A7 (w:World) (K A X C D E Co Ro:Int) (t:ByteArray) (h1:¬ K=1) (h2:¬ K=2) (h3k:¬ K=3) (h4:¬ K=4):xp w K A X C D E Co Ro t:=by
 have I1:=Bg A (-14400000) 14400000;have I2:=Bg X (-14400000) 14400000;rcases (by omega:(¬ Co=0)\/(Co=0/\¬ Ro=0)\/(Co=0/\Ro=0)) with hco | ⟨hco,hro⟩ | ⟨hco,hro⟩
 all_goals
  go_enter func111,ntmps111
  go_wp2_with fail
  refine (I1.out _).mono ?_;rintro e wz ⟨rfl,rfl⟩;go_wp2_with fail
  refine (I2.out _).mono ?_;rintro e wz ⟨rfl,rfl⟩;go_wp2_with fail
  go_ret;exact ⟨rfl,(ZV _ w).alloc (ZX _) _⟩
theorem AO (w:World) (o:bj) (hs:o.s.size<=9223372036854775807):QB 111 #[o.val] w (.bool (decide o.is)):=by
 by_cases h:o.is
 ·rw [YR h];refine (xm w (fun _=>False) o h).mono ?_;rintro e w' ⟨rfl,m⟩;exact ⟨rfl,m.below (fun _ e=>e.elim) (ZX _)⟩
 ·refine A6 h ?_;obtain ⟨k,A,X,C,D,E,Co,Ro,t⟩:=o;by_cases k1:k=1
  ·subst k1;exact zE w A X C D E Co Ro t hs h
  by_cases k2:k=2
  ·subst k2;exact Af w A X C D E Co Ro t hs h
  by_cases k3:k=3
  ·subst k3;exact zH w A X C D E Co Ro t hs h
  by_cases k4:k=4
  ·subst k4;exact zV w A X C D E Co Ro t hs h
  exact A7 w k A X C D E Co Ro t k1 k2 k3 k4
def bj.near (o:bj):Prop:=bG o.a (-100000000) 100000000/\bG o.b (-100000000) 100000000/\bG o.c (-100000000) 100000000/\bG o.d (-100000000) 100000000/\bG o.e (-100000000) 100000000/\bG o.co (-9223372036854775808) 9223372036854775807/\bG o.ro (-9223372036854775808) 9223372036854775807/\o.s.size<=4096/\(o.k=1->o.s.size<=100)
theorem bj.is.near {o:bj} (h:o.is):o.near:=by
 obtain ⟨k,a,b,c,d,e,co,ro,s⟩:=o;obtain ⟨⟨a1,a2⟩,⟨b1,b2⟩,⟨hk,⟨c1,c2⟩,hd,he,hco,hro,hs⟩ | ⟨hk,⟨c1,c2⟩,⟨d1,d2⟩,⟨e1,e2⟩,hco,hro,hs⟩ | ⟨hk,⟨c1,c2⟩,⟨d1,d2⟩,⟨e1,e2⟩,hco,hro,hs⟩ | ⟨hk,⟨c1,c2⟩,⟨d1,d2⟩,⟨co1,co2⟩,⟨ro1,ro2⟩,he,hs⟩⟩:=h
 ·simp only at*;refine ⟨⟨?_,?_⟩,⟨?_,?_⟩,⟨?_,?_⟩,⟨?_,?_⟩,⟨?_,?_⟩,⟨?_,?_⟩,⟨?_,?_⟩,?_,?_⟩ <;> simp only <;> omega
 ·simp only at*;refine ⟨⟨?_,?_⟩,⟨?_,?_⟩,⟨?_,?_⟩,⟨?_,?_⟩,⟨?_,?_⟩,⟨?_,?_⟩,⟨?_,?_⟩,?_,?_⟩ <;> simp only <;> omega
 ·simp only at*;refine ⟨⟨?_,?_⟩,⟨?_,?_⟩,⟨?_,?_⟩,⟨?_,?_⟩,⟨?_,?_⟩,⟨?_,?_⟩,⟨?_,?_⟩,?_,?_⟩ <;> simp only <;> omega
 ·simp only at*;have hq:co*ro<=64*64:=XY co2 ro2 (by omega) (by omega);refine ⟨⟨?_,?_⟩,⟨?_,?_⟩,⟨?_,?_⟩,⟨?_,?_⟩,⟨?_,?_⟩,⟨?_,?_⟩,⟨?_,?_⟩,?_,?_⟩ <;> simp only <;> omega
theorem bj.isFrame.near {o:bj} (h:o.isFrame):o.near:=by
 obtain ⟨k,a,b,c,d,e,co,ro,s⟩:=o;obtain ⟨hk,hs,he,⟨a1,a2⟩,⟨b1,b2⟩,⟨c1,c2⟩,⟨d1,d2⟩,⟨co1,co2⟩,⟨ro1,ro2⟩⟩:=h;simp only at*;refine ⟨⟨?_,?_⟩,⟨?_,?_⟩,⟨?_,?_⟩,⟨?_,?_⟩,⟨?_,?_⟩,⟨?_,?_⟩,⟨?_,?_⟩,?_,?_⟩ <;> simp only <;> omega
theorem kW (B:Nat) (w:World) (o:bj) (h:o.near) (hB:B<=w.heap.size) (ht:bU B w):QB 112 #[o.val] w (.string ⟨o.text.toArray⟩):=by
 obtain ⟨k,a,b,c,d,e,co,ro,s⟩:=o;obtain ⟨⟨a1,a2⟩,⟨b1,b2⟩,⟨c1,c2⟩,⟨d1,d2⟩,⟨e1,e2⟩,⟨co1,co2⟩,⟨ro1,ro2⟩,hs,hs1⟩:=h;simp only at a1 a2 b1 b2 c1 c2 d1 d2 e1 e2 co1 co2 ro1 ro2 hs hs1;have L:∀ n:Int,-100000000<=n->n<=100000000->(bJ n).length<=30:=fun n h0 h1=>ZN (eu n h0 h1) (by omega)
 have HL:∀ n:Int,-100000000<=n->n<=100000000->Hid (∀ wx,Below w w wx->QB 161 #[.int .i64 n] wx (.string ⟨(bJ n).toArray⟩)):=fun n h0 h1 wx hb=>jw B wx n h0 h1 (ht.on (hb.mono hB))
 by_cases k1:k=1
 ·subst k1;have hs1:=hs1 rfl;refine (yM w 1 a b c d e co ro s _ _ _ _ _ (L a a1 a2) (L b b1 b2) (L c c1 c2) (L d d1 d2) (L e e1 e2) (bc s.data.toList) (by have:=ii s.data.toList;simp [bc];simp at this;omega) (fun wx=>jr wx s (by omega)) (HL a a1 a2) (HL b b1 b2) (HL c c1 c2) (HL d d1 d2) (HL e e1 e2)).mono ?_;rintro e' w' ⟨rfl,hb⟩;refine ⟨?_,hb⟩;simp [bj.text,aG]
 by_cases k2:k=2
 ·subst k2;refine (yZ w 2 a b c d e co ro s _ _ _ _ _ (L a a1 a2) (L b b1 b2) (L c c1 c2) (L d d1 d2) (L e e1 e2) (HL a a1 a2) (HL b b1 b2) (HL c c1 c2) (HL d d1 d2) (HL e e1 e2)).mono ?_;rintro e' w' ⟨rfl,hb⟩;refine ⟨?_,hb⟩;simp [bj.text,aG]
 by_cases k3:k=3
 ·subst k3;refine (ye w 3 a b c d e co ro s _ _ _ _ _ (L a a1 a2) (L b b1 b2) (L c c1 c2) (L d d1 d2) (L e e1 e2) (HL a a1 a2) (HL b b1 b2) (HL c c1 c2) (HL d d1 d2) (HL e e1 e2)).mono ?_;rintro e' w' ⟨rfl,hb⟩;refine ⟨?_,hb⟩;simp [bj.text,aG]
 refine (xj w k a b c d e co ro s _ _ _ _ _ (L a a1 a2) (L b b1 b2) (L c c1 c2) (L d d1 d2) (L e e1 e2) (Lib.itoa co) (Lib.itoa ro) (ZN (av co co1 co2) (by omega)) (ZN (av ro ro1 ro2) (by omega)) k1 k2 k3 hs (fun wx hb=>bp B wx co co1 co2 (ht.on (hb.mono hB))) (fun wx hb=>bp B wx ro ro1 ro2 (ht.on (hb.mono hB))) (HL a a1 a2) (HL b b1 b2) (HL c c1 c2) (HL d d1 d2) (HL e e1 e2)).mono ?_;rintro e' w' ⟨rfl,hb⟩;refine ⟨?_,hb⟩;simp [bj.text,aG,k1,k2,k3]
end Go.Proofs.YtbklfkpjoinofaaGreatDoor
