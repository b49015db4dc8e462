import Derived.Test.YtbklfkpjoinofaaGreatDoorA21
import Derived.Test.YtbklfkpjoinofaaGreatDoorA22
import Derived.Test.YtbklfkpjoinofaaGreatDoorA23
import Derived.Test.YtbklfkpjoinofaaGreatDoorA15
import Derived.Test.YtbklfkpjoinofaaGreatDoorA24
set_option linter.all false
set_option maxRecDepth 100000
set_option maxHeartbeats 8000000
namespace Go.Proofs.YtbklfkpjoinofaaGreatDoor
open Go.RowKit Go.Proofs.Tryz
theorem vP (w:World) (K A B C D E Co Ro:Int) (s:ByteArray) (h1:¬ K=1) (h2:¬ K=2) (h3:¬ K=3) (h4:¬ K=4):
  QB 93 #[.agg #[K,A,B,C,D,E,Co,Ro,s]] w (.tuple #[.nilIface,false]):=by
 have HO:=ai (fun wx=>qM wx K A B C D E Co Ro s h1 h2 h3 h4);have HG0:=ai (fun (w1:World) (hG:af (w.alloc (Obj.cells #[K,A,B,C,D,E,Co,Ro,s] 31)) w1)=>af.trans (aN w _) hG);go_enter func93,ntmps93
 go_wp2_with fail
 refine (HO.out _).mono ?_;rintro e w0 ⟨rfl,hB1⟩;go_wp2;refine ap 12 _ (ag [.nilIface,true,true,undef,undef,undef,true,true,undef,undef,undef,undef]) (by kernel_rfl) rfl (by kernel_rfl) aq ?_;simp only [TD]
 iterate 12
  refine ⟨fun w1 hG hd=>?_,fun v=>?_⟩
  ·try (have d:=hd _ ⟨ZB _⟩ rfl;simp only [ag,GD] at d;subst d)
   try (have d:=hd _ ⟨.tail _ (.head _)⟩ rfl;simp only [ag,GD] at d;subst d)
   try (have d:=hd _ ⟨.tail _ (.tail _ (.head _))⟩ rfl;simp only [ag,GD] at d;subst d)
   clear hd;go_wp2;exact RG
  simp only [TN]
 intro w2 hG hd;have d7:=hd 7 (by omega);have d11:=hd 11 (by omega);simp only [ag,GD] at d7 d11;subst d7 d11;have HG:=ai (HG0.out w2 (af.trans hB1 hG));clear hd HG0 HO hG hB1;go_wp2;go_ret2;exact ⟨rfl,HG.out⟩
def fs (o:bj):Value:=
 if o.k=1 then .iface 215 (.agg #[o.a,o.b,o.c,o.s])
 else if o.k=2 then .iface 217 (.agg #[o.a,o.b,o.c,o.d,o.e])
 else if o.k=3 then .iface 219 (.agg #[o.a,o.b,o.c,o.d,o.e])
 else .iface 135 (.agg #[o.a,o.b,o.c,o.d,o.co,o.ro,o.s])
theorem jZ (s:ByteArray):s.toList=[]↔s.size=0:=by
 rw [Zm];constructor
 ·intro e;have:=congrArg List.length e;simpa using this
 ·intro e;have:s.data.toList.length=0:=by simpa using e
  exact Zp this
theorem fV (s:ByteArray) (h:s.size=0):s=⟨#[]⟩:=by
 apply Zd;apply Yl;have:s.data.toList.length=0:=by simpa using h
 simpa using Zp this
theorem pQ (l x:Int):br l [x]=decide (bG x l 14400000):=by rw [Bool.eq_iff_iff];simp only [br,List.all_cons,List.all_nil,Bool.and_true,Zr,Zh];exact Iff.rfl
theorem iQ (l x y:Int):br l [x,y]=(decide (bG x l 14400000)&&decide (bG y l 14400000)):=by rw [Bool.eq_iff_iff];simp only [br,List.all_cons,List.all_nil,Bool.and_true,Zr,Zh];exact Iff.rfl
theorem xk (l x y z:Int):br l [x,y,z]=(decide (bG x l 14400000)&&(decide (bG y l 14400000)&&decide (bG z l 14400000))):=by rw [Bool.eq_iff_iff];simp only [br,List.all_cons,List.all_nil,Bool.and_true,Zr,Zh];exact Iff.rfl
theorem yV (l x y z u:Int):br l [x,y,z,u]=(decide (bG x l 14400000)&&(decide (bG y l 14400000)&&(decide (bG z l 14400000)&&decide (bG u l 14400000)))):=by rw [Bool.eq_iff_iff];simp only [br,List.all_cons,List.all_nil,Bool.and_true,Zr,Zh];exact Iff.rfl
theorem yj (w:World) (o:bj) (hs:o.s.size<=9223372036854775807):
  QB 93 #[o.val] w (.tuple #[if o.is then fs o else .nilIface,.bool (decide o.is)]):=by
 obtain ⟨K,A,B,C,D,E,Co,Ro,s⟩:=o;have no:∀ {f:Prop},¬ (bj.mk K A B C D E Co Ro s).is->(QB 93 #[(bj.mk K A B C D E Co Ro s).val] w (.tuple #[.nilIface,false]))->QB 93 #[(bj.mk K A B C D E Co Ro s).val] w (.tuple #[if (bj.mk K A B C D E Co Ro s).is then fs (bj.mk K A B C D E Co Ro s) else .nilIface,.bool (decide (bj.mk K A B C D E Co Ro s).is)]):=by
  intro _ h g;rw [ZO h,Zo h];exact g
 by_cases k1:K=1
 ·subst k1;by_cases hf:(br (-14400000) [A,B]&&br 1 [C]&&decide (s.size<=100))=true
  ·have HF:Hid (∀ wx,QB 357 #[.agg #[A,B,C,s]] wx true):=fun wx=>by have:=np wx A B C s hs;rw [hf] at this;exact this
   by_cases hD:D=0
   ·by_cases hE:E=0
    ·by_cases hCo:Co=0
     ·by_cases hRo:Ro=0
      ·subst hD hE hCo hRo;have his:(bj.mk 1 A B C 0 0 0 0 s).is:=by
        simp only [iQ,pQ,Zr,Zh] at hf;exact ⟨hf.1.1.1,hf.1.1.2,.inl ⟨rfl,hf.1.2,rfl,rfl,rfl,rfl,hf.2⟩⟩
       rw [ZN his,Zt his];exact eR w A B C 0 0 0 0 s false (.inl ⟨rfl,rfl,rfl,rfl,rfl⟩) HF
      ·exact no (f:=True) (fun h=>by rcases h.2.2 with h | h | h | h <;> simp at h;exact hRo h.2.2.2.2.1) (eR w A B C D E Co Ro s true (.inr ⟨rfl,.inr (.inr (.inr hRo))⟩) HF)
     ·exact no (f:=True) (fun h=>by rcases h.2.2 with h | h | h | h <;> simp at h;exact hCo h.2.2.2.1) (eR w A B C D E Co Ro s true (.inr ⟨rfl,.inr (.inr (.inl hCo))⟩) HF)
    ·exact no (f:=True) (fun h=>by rcases h.2.2 with h | h | h | h <;> simp at h;exact hE h.2.2.1) (eR w A B C D E Co Ro s true (.inr ⟨rfl,.inr (.inl hE)⟩) HF)
   ·exact no (f:=True) (fun h=>by rcases h.2.2 with h | h | h | h <;> simp at h;exact hD h.2.1) (eR w A B C D E Co Ro s true (.inr ⟨rfl,.inl hD⟩) HF)
  ·have hf2:(br (-14400000) [A,B]&&br 1 [C]&&decide (s.size<=100))=false:=by simpa using hf
   refine no (f:=True) (fun h=>hf ?_) (qY w A B C D E Co Ro s (fun wx=>by have:=np wx A B C s hs;rw [hf2] at this;exact this));obtain ⟨ha,hb,h⟩:=h;rcases h with h | h | h | h <;> simp at h
   simp only [iQ,pQ,Zr,Zh];exact ⟨⟨⟨ha,hb⟩,h.1⟩,h.2.2.2.2.2⟩
 ·by_cases k2:K=2
  ·subst k2;by_cases hf:(br (-14400000) [A,B,C,D]&&br 0 [E])=true
   ·have HF:Hid (∀ wx,QB 359 #[.agg #[A,B,C,D,E]] wx true):=fun wx=>by have:=mQ wx A B C D E;rw [hf] at this;exact this
    by_cases hCo:Co=0
    ·by_cases hRo:Ro=0
     ·by_cases hss:s.size=0
      ·subst hCo hRo;have he:=fV s hss;subst he;have his:(bj.mk 2 A B C D E 0 0 ⟨#[]⟩).is:=by
        simp only [yV,pQ,Zr,Zh] at hf;exact ⟨hf.1.1,hf.1.2.1,.inr (.inl ⟨rfl,hf.1.2.2.1,hf.1.2.2.2,hf.2,rfl,rfl,rfl⟩)⟩
       rw [ZN his,Zt his];exact fI w A B C D E 0 0 ⟨#[]⟩ false (.inl ⟨rfl,rfl,rfl,rfl⟩) HF
      ·exact no (f:=True) (fun h=>by rcases h.2.2 with h | h | h | h <;> simp at h;exact hss (by rw [h.2.2.2.2.2];rfl)) (fI w A B C D E Co Ro s true (.inr ⟨rfl,.inr (.inr (fun e=>hss ((jZ s).1 e)))⟩) HF)
     ·exact no (f:=True) (fun h=>by rcases h.2.2 with h | h | h | h <;> simp at h;exact hRo h.2.2.2.2.1) (fI w A B C D E Co Ro s true (.inr ⟨rfl,.inr (.inl hRo)⟩) HF)
    ·exact no (f:=True) (fun h=>by rcases h.2.2 with h | h | h | h <;> simp at h;exact hCo h.2.2.2.1) (fI w A B C D E Co Ro s true (.inr ⟨rfl,.inl hCo⟩) HF)
   ·have hf2:(br (-14400000) [A,B,C,D]&&br 0 [E])=false:=by simpa using hf
    refine no (f:=True) (fun h=>hf ?_) (qR w A B C D E Co Ro s (fun wx=>by have:=mQ wx A B C D E;rw [hf2] at this;exact this));obtain ⟨ha,hb,h⟩:=h;rcases h with h | h | h | h <;> simp at h
    simp only [yV,pQ,Zr,Zh];exact ⟨⟨ha,hb,h.1,h.2.1⟩,h.2.2.1⟩
  ·by_cases k3:K=3
   ·subst k3;by_cases hf:(br (-14400000) [A,B]&&br 0 [C,D,E]&&decide (E<=1000))=true
    ·have HF:Hid (∀ wx,QB 361 #[.agg #[A,B,C,D,E]] wx true):=fun wx=>by have:=jV wx A B C D E;rw [hf] at this;exact this
     by_cases hCo:Co=0
     ·by_cases hRo:Ro=0
      ·by_cases hss:s.size=0
       ·subst hCo hRo;have he:=fV s hss;subst he;have his:(bj.mk 3 A B C D E 0 0 ⟨#[]⟩).is:=by
         simp only [iQ,xk,Zr,Zh] at hf;exact ⟨hf.1.1.1,hf.1.1.2,.inr (.inr (.inl ⟨rfl,hf.1.2.1,hf.1.2.2.1,⟨hf.1.2.2.2.1,hf.2⟩,rfl,rfl,rfl⟩))⟩
        rw [ZN his,Zt his];exact fF w A B C D E 0 0 ⟨#[]⟩ false (.inl ⟨rfl,rfl,rfl,rfl⟩) HF
       ·exact no (f:=True) (fun h=>by rcases h.2.2 with h | h | h | h <;> simp at h;exact hss (by rw [h.2.2.2.2.2];rfl)) (fF w A B C D E Co Ro s true (.inr ⟨rfl,.inr (.inr (fun e=>hss ((jZ s).1 e)))⟩) HF)
      ·exact no (f:=True) (fun h=>by rcases h.2.2 with h | h | h | h <;> simp at h;exact hRo h.2.2.2.2.1) (fF w A B C D E Co Ro s true (.inr ⟨rfl,.inr (.inl hRo)⟩) HF)
     ·exact no (f:=True) (fun h=>by rcases h.2.2 with h | h | h | h <;> simp at h;exact hCo h.2.2.2.1) (fF w A B C D E Co Ro s true (.inr ⟨rfl,.inl hCo⟩) HF)
    ·have hf2:(br (-14400000) [A,B]&&br 0 [C,D,E]&&decide (E<=1000))=false:=by simpa using hf
     refine no (f:=True) (fun h=>hf ?_) (rT w A B C D E Co Ro s (fun wx=>by have:=jV wx A B C D E;rw [hf2] at this;exact this));obtain ⟨ha,hb,h⟩:=h;rcases h with h | h | h | h <;> simp at h
     simp only [iQ,xk,Zr,Zh];have h4:=h.2.2.1;unfold bG at h4;exact ⟨⟨⟨ha,hb⟩,h.1,h.2.1,⟨h4.1,by omega⟩⟩,h4.2⟩
   ·by_cases k4:K=4
    ·subst k4;by_cases hf:(br (-14400000) [A,B]&&br 1 [C,D]&&(decide (1<=Co)&&decide (Co<=64))&&(decide (1<=Ro)&&decide (Ro<=64)))=true
     ·have HR:Hid (∀ wx,QB 130 #[.agg #[A,B,C,D,Co,Ro]] wx true):=fun wx=>by have:=eJ wx A B C D Co Ro;rw [hf] at this;exact this
      have hf9:=hf;simp only [iQ,Zr,Zh] at hf9;by_cases hsz:(s.size:Int)=Co*Ro
      ·have HF:Hid (∀ wx,QB 354 #[.agg #[A,B,C,D,Co,Ro,s]] wx true):=fun wx=>r_ wx A B C D Co Ro s HR hs (by omega) (by omega) (by omega) (by omega) hsz
       by_cases hE:E=0
       ·subst hE;have his:(bj.mk 4 A B C D 0 Co Ro s).is:=⟨hf9.1.1.1.1,hf9.1.1.1.2,.inr (.inr (.inr ⟨rfl,hf9.1.1.2.1,hf9.1.1.2.2,hf9.1.2,hf9.2,rfl,hsz⟩))⟩;rw [ZN his,Zt his];exact kj w A B C D 0 Co Ro s false (.inl ⟨rfl,rfl⟩) HF
       ·exact no (f:=True) (fun h=>by rcases h.2.2 with h | h | h | h <;> simp at h;exact hE h.2.2.2.2.1) (kj w A B C D E Co Ro s true (.inr ⟨rfl,hE⟩) HF)
      ·refine no (f:=True) (fun h=>by rcases h.2.2 with h | h | h | h <;> simp at h;exact hsz h.2.2.2.2.2) (j0 w A B C D E Co Ro s (fun wx=>rt wx A B C D Co Ro s HR hs (by omega) (by omega) (by omega) (by omega) hsz))
     ·have hf2:(br (-14400000) [A,B]&&br 1 [C,D]&&(decide (1<=Co)&&decide (Co<=64))&&(decide (1<=Ro)&&decide (Ro<=64)))=false:=by simpa using hf
      refine no (f:=True) (fun h=>hf ?_) (j0 w A B C D E Co Ro s (fun wx=>qP wx A B C D Co Ro s (fun wx=>by have:=eJ wx A B C D Co Ro;rw [hf2] at this;exact this)));obtain ⟨ha,hb,h⟩:=h;rcases h with h | h | h | h <;> simp at h
      simp only [iQ,Zr,Zh];exact ⟨⟨⟨⟨ha,hb⟩,h.1,h.2.1⟩,h.2.2.1⟩,h.2.2.2.1⟩
    ·exact no (f:=True) (fun h=>by rcases h.2.2 with h | h | h | h <;> exact absurd h.1 (by assumption)) (vP w K A B C D E Co Ro s k1 k2 k3 k4)
def bj.isFrame (o:bj):Prop:=o.k=4/\o.s.size=0/\o.e=0/\bG o.a (-14400000) 14400000/\bG o.b (-14400000) 14400000/\bG o.c 1 14400000/\bG o.d 1 14400000/\bG o.co 1 64/\bG o.ro 1 64
instance (o:bj):Decidable o.isFrame:=inferInstanceAs (Decidable (_/\_))
def AT (o:bj):Value:=.agg #[o.a,o.b,o.c,o.d,o.co,o.ro]
theorem oJ (w:World) (o:bj):
  QB 87 #[o.val] w (.tuple #[if o.isFrame then AT o else .agg #[(0:Int),(0:Int),(0:Int),(0:Int),(0:Int),(0:Int)],.bool (decide o.isFrame)]):=by
 obtain ⟨K,A,B,C,D,E,Co,Ro,s⟩:=o;by_cases hf:(br (-14400000) [A,B]&&br 1 [C,D]&&(decide (1<=Co)&&decide (Co<=64))&&(decide (1<=Ro)&&decide (Ro<=64)))=true
 ·have HR:Hid (∀ wx,QB 130 #[.agg #[A,B,C,D,Co,Ro]] wx true):=fun wx=>by have:=eJ wx A B C D Co Ro;rw [hf] at this;exact this
  have hf9:=hf;simp only [iQ,Zr,Zh] at hf9;by_cases hK:K=4
  ·by_cases hE:E=0
   ·by_cases hss:s.size=0
    ·subst hK hE;have he:=fV s hss;subst he;have his:(bj.mk 4 A B C D 0 Co Ro ⟨#[]⟩).isFrame:=⟨rfl,rfl,rfl,hf9.1.1.1.1,hf9.1.1.1.2,hf9.1.1.2.1,hf9.1.1.2.2,hf9.1.2,hf9.2⟩;rw [ZN his,Zt his];exact fP w 4 A B C D 0 Co Ro ⟨#[]⟩ HR false (.inl ⟨rfl,rfl,rfl,rfl⟩)
    ·have hn:¬ (bj.mk K A B C D E Co Ro s).isFrame:=fun h=>hss h.2.1
     rw [ZO hn,Zo hn];exact fP w K A B C D E Co Ro s HR true (.inr ⟨rfl,.inr (.inr (fun e=>hss ((jZ s).1 e)))⟩)
   ·have hn:¬ (bj.mk K A B C D E Co Ro s).isFrame:=fun h=>hE h.2.2.1
    rw [ZO hn,Zo hn];exact fP w K A B C D E Co Ro s HR true (.inr ⟨rfl,.inr (.inl hE)⟩)
  ·have hn:¬ (bj.mk K A B C D E Co Ro s).isFrame:=fun h=>hK h.1
   rw [ZO hn,Zo hn];exact fP w K A B C D E Co Ro s HR true (.inr ⟨rfl,.inl hK⟩)
 ·have hf2:(br (-14400000) [A,B]&&br 1 [C,D]&&(decide (1<=Co)&&decide (Co<=64))&&(decide (1<=Ro)&&decide (Ro<=64)))=false:=by simpa using hf
  have hn:¬ (bj.mk K A B C D E Co Ro s).isFrame:=by
   rintro ⟨_,_,_,h4,h5,h6,h7,h8,h9⟩;refine hf ?_;simp only [iQ,Zr,Zh];exact ⟨⟨⟨⟨h4,h5⟩,h6,h7⟩,h8⟩,h9⟩
  rw [ZO hn,Zo hn];exact xF w K A B C D E Co Ro s (fun wx=>by have:=eJ wx A B C D Co Ro;rw [hf2] at this;exact this)
theorem jm (t:ByteArray):t.toList.length=t.size:=by rw [Zm];simp
def bj.near (o:bj):Prop:=bG o.a (-100000000) 100000000/\bG o.b (-100000000) 100000000/\bG o.c (-100000000) 100000000/\bG o.d (-100000000) 100000000/\bG o.e (-100000000) 100000000/\bG o.co (-9223372036854775808) 9223372036854775807/\bG o.ro (-9223372036854775808) 9223372036854775807/\o.s.size<=4096/\(o.k=1->o.s.size<=100)
theorem bj.is.near {o:bj} (h:o.is):o.near:=by
 obtain ⟨k,a,b,c,d,e,co,ro,s⟩:=o;obtain ⟨⟨a1,a2⟩,⟨b1,b2⟩,⟨hk,⟨c1,c2⟩,hd,he,hco,hro,hs⟩ | ⟨hk,⟨c1,c2⟩,⟨d1,d2⟩,⟨e1,e2⟩,hco,hro,hs⟩ | ⟨hk,⟨c1,c2⟩,⟨d1,d2⟩,⟨e1,e2⟩,hco,hro,hs⟩ | ⟨hk,⟨c1,c2⟩,⟨d1,d2⟩,⟨co1,co2⟩,⟨ro1,ro2⟩,he,hs⟩⟩:=h
 ·simp only at*;refine ⟨⟨?_,?_⟩,⟨?_,?_⟩,⟨?_,?_⟩,⟨?_,?_⟩,⟨?_,?_⟩,⟨?_,?_⟩,⟨?_,?_⟩,?_,?_⟩ <;> simp only <;> omega
 ·simp only at*;refine ⟨⟨?_,?_⟩,⟨?_,?_⟩,⟨?_,?_⟩,⟨?_,?_⟩,⟨?_,?_⟩,⟨?_,?_⟩,⟨?_,?_⟩,?_,?_⟩ <;> simp only <;> omega
 ·simp only at*;refine ⟨⟨?_,?_⟩,⟨?_,?_⟩,⟨?_,?_⟩,⟨?_,?_⟩,⟨?_,?_⟩,⟨?_,?_⟩,⟨?_,?_⟩,?_,?_⟩ <;> simp only <;> omega
 ·simp only at*;have hq:co*ro<=64*64:=XM co2 ro2 (by omega) (by omega);refine ⟨⟨?_,?_⟩,⟨?_,?_⟩,⟨?_,?_⟩,⟨?_,?_⟩,⟨?_,?_⟩,⟨?_,?_⟩,⟨?_,?_⟩,?_,?_⟩ <;> simp only <;> omega
theorem bj.isFrame.near {o:bj} (h:o.isFrame):o.near:=by
 obtain ⟨k,a,b,c,d,e,co,ro,s⟩:=o;obtain ⟨hk,hs,he,⟨a1,a2⟩,⟨b1,b2⟩,⟨c1,c2⟩,⟨d1,d2⟩,⟨co1,co2⟩,⟨ro1,ro2⟩⟩:=h;simp only at*;refine ⟨⟨?_,?_⟩,⟨?_,?_⟩,⟨?_,?_⟩,⟨?_,?_⟩,⟨?_,?_⟩,⟨?_,?_⟩,⟨?_,?_⟩,?_,?_⟩ <;> simp only <;> omega
abbrev Gh:=dE×List UInt8
def Gh.wr (g:Gh) (l:List UInt8):Gh:=((bL g.1 l).2,g.2++(bL g.1 l).1)
def bj.headB (o:bj):List UInt8:=[113,32]++(aG [o.c]++([48,32,48,32]++(aG [o.d,o.a,o.b]++([99,109,32,66,73,32,47,87,32]++(Lib.itoa o.co++([32,47,72,32]++(Lib.itoa o.ro++[32,47,67,83,32,47,71,32,47,66,80,67,32,56,32,73,68,32])))))))
abbrev vq:List UInt8:=[10,69,73,32,81,10]
def Gh.op (g:Gh) (o:bj):Gh:=if o.k=4 then ((g.wr o.headB).wr o.s.data.toList).wr vq else g.wr o.text
structure St where
 title:ByteArray
 pages:List (Int×Int×List bj)
 marks:List (ByteArray×Nat)
 op:Bool
 img:bj
 left:Nat
 size:Nat
 cl:Bool
 zs:List (List UInt8)
 g:Gh
structure St.ok (s:St):Prop where
 size:s.size<=1048576
 left:s.img.s.size+s.left<=4096
 pages:s.pages.length<=80
 some:s.op=true->∃ p l,s.pages=p::l/\p.2.2.length+(if s.left=0 then 0 else 1)<=s.size
 marks:s.marks.length<=20
 idle:s.op=false->s.left=0
 shut:s.cl=true->s.op=false
def St.drawing (s:St):Bool:=s.op&&decide (s.left=0)
def St.put (s:St) (o:bj):List (Int×Int×List bj):=match s.pages with
 | []=>[]
 | p::l=>(p.1,p.2.1,p.2.2++[o])::l
def St.flush (s:St):Int:=if s.cl then 2 else 0
def St.endPage (s:St):Int×St:=if s.drawing then (0,{s with op:=false,zs:=(s.g.2++aV s.g.1)::s.zs}) else (2,s)
def St.close (s:St):Int×St:=if s.op=true\/s.cl=true then (2,s) else (0,{s with cl:=true})
def St.titled (s:St) (t:ByteArray):Int×St:=if s.cl then (2,s) else if 100 < t.size then (1,s) else (0,{s with title:=t})
def St.page (s:St) (W H:Int):Int×St:=if s.op=true\/s.cl=true then (2,s) else if ¬ bG W 1 14400000\/¬ bG H 1 14400000 then (1,s) else if s.pages.length=80 then (3,s) else (0,{s with pages:=(W,H,[])::s.pages,op:=true,size:=0,g:=(lJ,[])})
def St.mark (s:St) (t:ByteArray):Int×St:=if s.op=false then (2,s) else if t.size=0\/100 < t.size then (1,s) else if 20<=s.marks.length then (3,s) else (0,{s with marks:=s.marks++[(t,s.pages.length - 1)]})
def St.draw (s:St) (o:bj):Int×St:=if s.drawing=false then (2,s) else if ¬ o.is then (1,s) else if 1048576 < s.size+o.text.length then (3,s) else (0,{s with pages:=s.put o,size:=s.size+o.text.length,g:=s.g.op o})
def St.begin (s:St) (o:bj):Int×St:=if s.drawing=false then (2,s) else if ¬ o.isFrame then (1,s) else if 1048576 < s.size+o.text.length+(o.co*o.ro).toNat then (3,s) else (0,{s with img:=o,left:=(o.co*o.ro).toNat,size:=s.size+o.text.length+(o.co*o.ro).toNat,g:=s.g.wr o.headB})
def St.more (s:St) (t:ByteArray):bj:={s.img with s:=s.img.s++t}
def St.data (s:St) (t:ByteArray):Int×St:=if s.left=0 then (2,s) else if s.left < t.size then (1,s) else if t.size < s.left then (0,{s with img:=s.more t,left:=s.left - t.size,g:=s.g.wr t.data.toList}) else (0,{s with img:=s.more t,left:=0,pages:=s.put (s.more t),g:=(s.g.wr t.data.toList).wr vq})
def iy:List (Value×(Int×Int×List bj))->List Value
 | []=>[]
 | x::l=>iy l++[.int .i64 x.2.1,.int .i64 x.2.2.1,x.1]
def iz:List (ByteArray×Nat)->List Value
 | []=>[]
 | x::l=>.string x.1::.int .i64 (x.2:Int)::iz l
theorem nf (l:List (ByteArray×Nat)) (x:ByteArray×Nat):iz (l++[x])=iz l++[.string x.1,.int .i64 (x.2:Int)]:=by
 induction l with
 | nil=>rfl
 | cons a l ih=>simp only [ZE,iz,ih]
def kg (ps:List (Value×(Int×Int×List bj))):List (Value×List bj):=ps.map fun x=>(x.1,x.2.2.2)
def lQ (B:Nat) (ps:List (Value×(Int×Int×List bj))) (ms:List (ByteArray×Nat)) (vp vm:Value):As:=
 ah (aW B 100 3 vp ps.length (iy ps)) (ah (dh B (kg ps)) (aW B 98 2 vm ms.length (iz ms)))
theorem lQ.thing (B:Nat) (ps:List (Value×(Int×Int×List bj))) (ms:List (ByteArray×Nat)) (vp vm:Value):aJ B (lQ B ps ms vp vm):=ah.thing (aW.thing _ _ _ _ _ _) (ah.thing (dh.thing _ _) (aW.thing _ _ _ _ _ _))
theorem ay (w:World) (q:Nat):Below w w (w.drewN q):=⟨rfl,rfl,rfl,ZW _,fun _ _=>rfl⟩
theorem eL {w:World} {B:Nat} {e:TypeId} {z n:Nat} {v:Value} {xs:List Value} (h:w.ownsRow B e z v n xs):∃ ad cap,v=.slice ad n cap:=by
 rcases h.2 with ⟨hu,hz⟩ | ⟨gg,cap,cur,hu,_⟩
 ·exact ⟨none,0,by rw [hu,hz]⟩
 ·exact ⟨_,_,hu⟩
theorem sj {t:ByteArray} (h:¬ t.size=0):t.toList.isEmpty=false:=by
 cases e:t.toList.isEmpty with
 | false=>rfl
 | true=>exact absurd (by have h2:=jm t;rw [List.isEmpty_iff.1 e] at h2;simpa using h2.symm) h
theorem ah.two {B:Nat} {P Q:As} (hP:aJ B P) {w:World} {S:Bl} (h:ah P Q w S):∃ S1 S2,P w S1/\Q w S2/\oo S1 S2/\∀ (Q':As) w' S2',Q' w' S2'->Mv S2 w S2' w'->∃ S',ah P Q' w' S'/\Mv S w S' w':=by
 obtain ⟨S1,S2,h1,h2,ho,rfl⟩:=h;refine ⟨S1,S2,h1,h2,ho,fun Q' w' S2' hq m=>?_⟩;obtain ⟨a,b⟩:=ah.left hP h1 (fun k h2 h1=>ho k h1 h2) hq m;exact ⟨_,ah.swap a,b.mono (fun k e=>e.elim .inr .inl) (fun k e=>.inl e)⟩
theorem xu {B:Nat} {w:World} {S:Bl} {l:List (Value×List bj)} (h:dh B l w S):∃ S',dh B ((.slice none 0 0,[])::l) w S'/\Mv S w S' w:=by
 refine ⟨cT S (ob (.slice none 0 0)),⟨S,_,h,aW.nil B _ 9 w,fun k _ e=>by simp [ob,Value.ownBlock] at e,rfl⟩,⟨Fr.refl _ _,fun k e=>e.elim .inl (fun e=>by simp [ob,Value.ownBlock] at e)⟩⟩
theorem iF {w:World} {B:Nat} {e:TypeId} {z n:Nat} {v:Value} {xs:List Value} (h:w.ownsRow B e z v n xs) (hn:0 < n):∃ g cap,v=.slice (zp g) n cap/\n<=cap/\cap<=9223372036854775807/\g < w.heap.size:=by
 have hlt:=h.lt;rcases h.2 with ⟨_,hz⟩ | ⟨g,cap,cur,hu,_,hg,h1,h2,_⟩
 ·omega
 ·exact ⟨g,cap,hu,h1,by unfold maxLen at h2;omega,(hlt g (by rw [hu];rfl)).2⟩
theorem eT:∀ ps,(iy ps).length=ps.length*3
 | []=>rfl
 | x::l=>by simp [iy,eT l];omega
theorem ah.two2 {B:Nat} {P Q:As} (hP:aJ B P) {w:World} {S:Bl} (h:ah P Q w S):∃ S1 S2,P w S1/\Q w S2/\oo S1 S2/\(∀ k,S2 k->S k)/\∀ (Q':As) w' S2',Q' w' S2'->Mv S2 w S2' w'->∃ S',ah P Q' w' S'/\Mv S w S' w':=by
 obtain ⟨S1,S2,h1,h2,ho,rfl⟩:=h;refine ⟨S1,S2,h1,h2,ho,fun k e=>.inr e,fun Q' w' S2' hq m=>?_⟩;obtain ⟨a,b⟩:=ah.left hP h1 (fun k h2 h1=>ho k h1 h2) hq m;exact ⟨_,ah.swap a,b.mono (fun k e=>e.elim .inr .inl) (fun k e=>.inl e)⟩
theorem Aj (ps:List (Value×(Int×Int×List bj))) (W H:Int) (ops ops':List bj) (v v':Value):(iy ((v,(W,H,ops))::ps)).set (ps.length*3+2) v'=iy ((v',(W,H,ops'))::ps):=by
 simp only [iy];rw [XB _ _ (by rw [eT];omega),eT,show ps.length*3+2 - ps.length*3=2 by omega];rfl
theorem bj.near.text_len {o:bj} (h:o.near):o.text.length<=10000:=by
 obtain ⟨k,a,b,c,d,e,co,ro,s⟩:=o;obtain ⟨⟨a1,a2⟩,⟨b1,b2⟩,⟨c1,c2⟩,⟨d1,d2⟩,⟨e1,e2⟩,⟨co1,co2⟩,⟨ro1,ro2⟩,hs,hs1⟩:=h;simp only at a1 a2 b1 b2 c1 c2 d1 d2 e1 e2 co1 co2 ro1 ro2 hs hs1;have la:=eu a a1 a2;have lb:=eu b b1 b2;have lc:=eu c c1 c2;have ld:=eu d d1 d2;have le:=eu e e1 e2;have lco:=ar co co1 co2;have lro:=ar ro ro1 ro2;have lq:=ii s.data.toList;have ls:=aP s;rw [ls] at lq;unfold bj.text;simp only;split
 ·rename_i hk
  have:=hs1 hk;simp only [ZY,ZX,ZR,aG,bc];omega
 ·split
  ·simp only [ZY,ZX,ZR,aG];omega
  ·split
   ·simp only [ZY,ZX,ZR,aG];omega
   ·simp only [ZY,ZX,ZR,aG];omega
end Go.Proofs.YtbklfkpjoinofaaGreatDoor
