import Derived.Test.YtbklfkpjoinofaaGreatDoorA31
import Derived.Test.YtbklfkpjoinofaaGreatDoorA30
import Derived.Deep.Slices
import Derived.ProofKit
set_option linter.all false
set_option maxRecDepth 100000
set_option maxHeartbeats 8000000
namespace Go.Proofs.YtbklfkpjoinofaaGreatDoor
open Go.RowKit Go.Proofs.Tryz
def Wn.at (B b:Nat) (lim:Int):Wn:=⟨B,b,b+1,b+2,b+3,b+4,lim⟩
theorem i6 (k:Nat):¬ ob (.slice none 0 0) k:=fun e=>by simp [ob,Value.ownBlock] at e
theorem WD.new (B:Nat) (w:World) (lim:Int) (hB:B<=w.heap.size) (hl:lim < 0) (hl2:-9223372036854775808<=lim):∃ S,WD (Wn.at B w.heap.size lim) St.new (fU w lim) S/\∀ k,S k->w.heap.size<=k:=by
 obtain ⟨u1,hu1⟩:∃ u,u=w.alloc (.cells #[lim,.slice none 0 0,false] 153):=⟨_,rfl⟩;have z1:u1.heap.size=w.heap.size+1:=by rw [hu1];simp
 have k1:jp B w.heap.size lim u1 (cC w.heap.size) []:=by
  have hc:aS B w.heap.size [.int .i64 lim,.slice none 0 0,.bool false] u1 (cC w.heap.size):=by rw [hu1];exact aS.alloc hB
  refine ⟨.slice none 0 0,⟨hc.at 0 _ rfl,hc.at 1 _ rfl,hc.at 2 _ rfl,hc.fz,Yj _ _ _ _,by simp [Value.ownBlock],by omega,by omega,?_,hl2,by omega⟩,?_,hB⟩
  ·first
    | exact .inl hl
    | (unfold uU;omega)
    | (unfold uU;simp;omega)
  ·funext k
   exact propext ⟨.inl,fun e=>e.elim id (fun e=>(i6 k e).elim)⟩
 obtain ⟨u2,hu2⟩:∃ u,u=u1.alloc (.cells #[.iface 89 (zp w),oz] 208):=⟨_,rfl⟩;have z2:u2.heap.size=w.heap.size+2:=by rw [hu2];simp [z1]
 have g2:af u1 u2:=by rw [hu2];exact aN _ _
 have c2:aS B (w.heap.size+1) [.iface 89 (zp w),.int .i64 0] u2 (cC (w.heap.size+1)):=by rw [hu2, <-z1];exact aS.alloc (by omega)
 have k2:CK (jp B w.heap.size lim) B (w.heap.size+1) 0 89 (zp w) u2 (cT (cC (w.heap.size+1)) (cC w.heap.size)) []:=by
  refine ⟨cC w.heap.size,(jp.thing B w.heap.size lim []).keep k1 (fun k hk=>g2.block k ((jp.thing B w.heap.size lim []).lt k1 hk)) g2.size,rfl,by omega,fun e=>by have:w.heap.size+1=w.heap.size:=e;omega,by omega,ZW _,c2.at 0 _ rfl,c2.at 1 _ rfl,c2.fz⟩
 have T2:=CK.thing (jp.thing B w.heap.size lim) (w.heap.size+1) 0 89 (zp w) [];obtain ⟨u3,hu3⟩:∃ u,u=u2.alloc (.cells #[zp (w.heap.size+1),.slice none 0 0,.slice none 0 0] 166):=⟨_,rfl⟩;have z3:u3.heap.size=w.heap.size+3:=by rw [hu3];simp [z2]
 have g3:af u2 u3:=by rw [hu3];exact aN _ _
 have c3:aS B (w.heap.size+2) [.pointer (some ⟨w.heap.size+1,0,none⟩),.slice none 0 0,.slice none 0 0] u3 (cC (w.heap.size+2)):=by rw [hu3, <-z2];exact aS.alloc (by omega)
 have f3:FB B (w.heap.size+2) (w.heap.size+1) [] [] u3 (cT (cC (w.heap.size+2)) (cT (ob (.slice none 0 0)) (ob (.slice none 0 0)))):=⟨.slice none 0 0,.slice none 0 0,_,_,c3,⟨_,_,aW.nil _ _ _ _,aW.nil _ _ _ _,fun k e=>(i6 k e).elim,rfl⟩,fun k _ e=>e.elim (i6 k) (i6 k),rfl⟩;obtain ⟨h3,m3⟩:=ah.new T2 k2 f3 g3 (fun k e=>e.elim (fun e=>by have:k=w.heap.size+2:=e;omega) (fun e=>(e.elim (i6 k) (i6 k)).elim));have T3:=aX.thing (jp.thing B w.heap.size lim) (w.heap.size+2) (w.heap.size+1) 89 (zp w) [] [] [];obtain ⟨u4,hu4⟩:∃ u,u=u3.alloc (.cells #[zp w.heap.size,zp (w.heap.size+2),.pointer none,oz,.string ⟨#[]⟩,.slice none 0 0] 93):=⟨_,rfl⟩;have z4:u4.heap.size=w.heap.size+4:=by rw [hu4];simp [z3]
 have g4:af u3 u4:=by rw [hu4];exact aN _ _
 have c4:aS B (w.heap.size+3) [.pointer (some ⟨w,0,none⟩),.pointer (some ⟨w.heap.size+2,0,none⟩),.pointer none,.int .i64 0,.string ⟨#[]⟩,.slice none 0 0] u4 (cC (w.heap.size+3)):=by rw [hu4, <-z3];exact aS.alloc (by omega)
 have r4:de B (w.heap.size+3) w.heap.size (w.heap.size+2) (.pointer none) 0 ⟨#[]⟩ 0 [] u4 (cT (cC (w.heap.size+3)) (ob (.slice none 0 0))):=⟨.slice none 0 0,_,_,c4,aW.nil _ _ _ _,fun k _ e=>i6 k e,rfl⟩;obtain ⟨h4,m4⟩:=ah.new T3 h3 r4 g4 (fun k e=>e.elim (fun e=>by have:k=w.heap.size+3:=e;omega) (fun e=>(i6 k e).elim));have T4:=ah.thing (de.thing B (w.heap.size+3) w.heap.size (w.heap.size+2) (.pointer none) 0 ⟨#[]⟩ 0 []) T3;obtain ⟨u5,hu5⟩:∃ u,u=u4.alloc (.cells #[zp (w.heap.size+3)] 72):=⟨_,rfl⟩;have g5:af u4 u5:=by rw [hu5];exact aN _ _
 have c5:aS B (w.heap.size+4) [.pointer (some ⟨w.heap.size+3,0,none⟩)] u5 (cC (w.heap.size+4)):=by rw [hu5, <-z4];exact aS.alloc (by omega)
 obtain ⟨h5,m5⟩:=ah.new T4 h4 c5 g5 (fun k e=>by have:k=w.heap.size+4:=e;omega);have hu:fU w lim=u5:=by rw [hu5,hu4,hu3,hu2,hu1];rfl
 rw [hu];refine ⟨_,⟨[],⟨fun x hx=>by simp at hx,rfl⟩,.inr (.inl ⟨rfl,rfl,rfl,[],.inl ⟨rfl,rfl⟩,h5⟩)⟩,?_⟩;rintro k (e | (e | e) | (e | e | e) | e | e)
 ·have:k=w.heap.size+4:=e;omega
 ·have:k=w.heap.size+3:=e;omega
 ·exact (i6 k e).elim
 ·have:k=w.heap.size+2:=e;omega
 ·exact (i6 k e).elim
 ·exact (i6 k e).elim
 ·have:k=w.heap.size+1:=e;omega
 ·have:k=w.heap.size:=e;omega
theorem oE (n:Wn) (s:St) (xs:List iB) (w:World) (S:Bl) (hl:(fO (aA xs) (aQ xs) s.mks s.title.data.toList).length<=2000000000) (h:n.closed s xs w S):QE 20 #[zp n.Wb] w (.string ⟨(fO (aA xs) (aQ xs) s.mks s.title.data.toList).toArray⟩):=by
 obtain ⟨c0,r0,_,_,_,R,hk⟩:=Wn.closed_read h;exact pd w n.B n.Wb n.Rb n.T n.lim R _ c0 r0 hk hl
structure St.fine (s:St):Prop where
 title:s.title.size<=100
 marks:∀ m∈s.marks,0 < m.1.size/\m.1.size<=100/\m.2 < s.pages.length
 up:s.marks.Pairwise (fun a b=>a.2<=b.2)
theorem St.new_fine:St.new.fine:=⟨by decide,fun m hm=>by simp [St.new] at hm,by simp [St.new]⟩
theorem St.fine.ended {s:St} (h:s.fine):s.endPage.2.fine:=by
 unfold St.endPage;split
 ·exact ⟨h.title,h.marks,h.up⟩
 ·exact h
theorem St.fine.closed {s:St} (h:s.fine):s.close.2.fine:=by
 unfold St.close;split
 ·exact h
 ·exact ⟨h.title,h.marks,h.up⟩
theorem St.fine.titled {s:St} (h:s.fine) (t:ByteArray):(s.titled t).2.fine:=by
 unfold St.titled;split
 ·exact h
 ·split
  ·exact h
  ·exact ⟨by simp only;omega,h.marks,h.up⟩
theorem St.fine.paged {s:St} (h:s.fine) (W H:Int):(s.page W H).2.fine:=by
 unfold St.page;split
 ·exact h
 ·split
  ·exact h
  ·split
   ·exact h
   ·refine ⟨h.title,fun m hm=>?_,h.up⟩;have:=h.marks m hm;simp only [ZX];omega
theorem St.fine.marked {s:St} (h:s.fine) (hok:s.ok) (t:ByteArray):(s.mark t).2.fine:=by
 unfold St.mark;split
 ·exact h
 ·rename_i hop
  split
  ·exact h
  ·rename_i ht
   split
   ·exact h
   ·refine ⟨h.title,fun m hm=>?_,?_⟩
    ·rcases Zu.1 hm with hm | hm
     ·exact h.marks m hm
     ·simp at hm;subst hm;obtain ⟨p,l,hp,_⟩:=hok.some (by simpa using hop);have hl:s.pages.length=l.length+1:=by rw [hp];rfl
      simp only;omega
    ·refine List.pairwise_append.2 ⟨h.up,by simp,fun a ha b hb=>?_⟩;simp at hb;subst hb;have:=(h.marks a ha).2.2;simp only;omega
theorem St.fine.drawn {s:St} (h:s.fine) (o:bj):(s.draw o).2.fine:=by
 unfold St.draw;split
 ·exact h
 ·split
  ·exact h
  ·split
   ·exact h
   ·exact ⟨h.title,fun m hm=>by simp only [St.put_len];exact h.marks m hm,h.up⟩
theorem St.fine.began {s:St} (h:s.fine) (o:bj):(s.begin o).2.fine:=by
 unfold St.begin;split
 ·exact h
 ·split
  ·exact h
  ·split
   ·exact h
   ·exact ⟨h.title,h.marks,h.up⟩
theorem St.fine.fed {s:St} (h:s.fine) (t:ByteArray):(s.data t).2.fine:=by
 unfold St.data;split
 ·exact h
 ·split
  ·exact h
  ·split
   ·exact ⟨h.title,h.marks,h.up⟩
   ·exact ⟨h.title,fun m hm=>by simp only [St.put_len];exact h.marks m hm,h.up⟩
theorem ah.sub {P Q P' Q':As} {w w':World} {S:Bl} (h:ah P Q w S) (hP:∀ S1,P w S1->∃ S1',P' w' S1'/\∀ k,S1' k->S1 k) (hQ:∀ S2,Q w S2->∃ S2',Q' w' S2'/\∀ k,S2' k->S2 k):∃ S',ah P' Q' w' S'/\∀ k,S' k->S k:=by
 obtain ⟨S1,S2,h1,h2,ho,rfl⟩:=h;obtain ⟨S1',h1',e1⟩:=hP S1 h1;obtain ⟨S2',h2',e2⟩:=hQ S2 h2;exact ⟨_,⟨S1',S2',h1',h2',fun k a b=>ho k (e1 k a) (e2 k b),rfl⟩,fun k e=>e.elim (fun a=>.inl (e1 k a)) (fun b=>.inr (e2 k b))⟩
theorem Mv.less {S S':Bl} {w:World} (h:∀ k,S' k->S k):Mv S w S' w:=⟨Fr.refl _ _,fun k hk=>.inl (h k hk)⟩
theorem aS.six {B b:Nat} {a0 a1 a2 a3 a4 a5:Value} {w:World} {S:Bl} (h:aS B b [a0,a1,a2,a3,a4,a5] w S) (v0 v1 v2 v3 v4 v5:Value):w.there b 0 6/\aS B b [v0,v1,v2,v3,v4,v5] (w.setCells b 0 [v0,v1,v2,v3,v4,v5]) S/\Mv S w S (w.setCells b 0 [v0,v1,v2,v3,v4,v5]):=by
 obtain ⟨h0,m0⟩:=h.set 0 v0 (by simp);obtain ⟨h1,m1⟩:=h0.set 1 v1 (by simp);obtain ⟨h2,m2⟩:=h1.set 2 v2 (by simp);obtain ⟨h3,m3⟩:=h2.set 3 v3 (by simp);obtain ⟨h4,m4⟩:=h3.set 4 v4 (by simp);obtain ⟨h5,m5⟩:=h4.set 5 v5 (by simp);refine ⟨fun j hj=>⟨?_,h.fz _⟩,h5,((((m0.trans m1).trans m2).trans m3).trans m4).trans m5⟩;rw [YF]
 match j,hj with
 | 0,_=>rw [h.at 0 _ rfl];rfl
 | 1,_=>rw [h.at 1 _ rfl];rfl
 | 2,_=>rw [h.at 2 _ rfl];rfl
 | 3,_=>rw [h.at 3 _ rfl];rfl
 | 4,_=>rw [h.at 4 _ rfl];rfl
 | 5,_=>rw [h.at 5 _ rfl];rfl
 | (j+6),hj=>omega
theorem tv (n:Wn) (s:St) (w:World) (S:Bl) (hlim:n.lim < 0) (hok:s.ok) (hfine:s.fine) (hB:n.B<=w.heap.size) (ht:bU n.B w) (h:WD n s w S):CP 18 #[zp n.Wb] w (dp n w S s.close):=by
 have HR:=dV n s w S h;unfold St.close;by_cases hcl:s.cl=true
 ·rw [ZN (.inr hcl)];obtain ⟨r1,r2⟩:=h.gone hcl;refine (pu w r1 r2 HR).mono ?_;rintro e w' ⟨rfl,q,rfl⟩;exact dp.same h (ay w q)
 have hc:s.cl=false:=by cases e:s.cl with | false=>rfl | true=>exact absurd e hcl
 by_cases hop:s.op=true
 ·rw [ZN (.inl hop)];obtain ⟨Pg,r2⟩:=h.opened hc hop;refine (uw w Pg r2 HR).mono ?_;rintro e w' ⟨rfl,q,rfl⟩;exact dp.same h (ay w q)
 have hop':s.op=false:=by cases e:s.op with | false=>rfl | true=>exact absurd e hop
 rw [ZO (fun e=>e.elim hop hcl)];obtain ⟨xs,X,⟨hx,hzs⟩,hxs,hX,hi⟩:=h.rests hc hop';obtain ⟨c0,r0,t2,r1,r2,r3,r4,fz,hRl,_⟩:=Wn.idle_read hi;have hxl:xs.length=s.pages.length:=by rw [<-hxs];simp
 have hp80:=hok.pages;refine uv w n.Fb _ r1 r2 HR ?_;intro qn;have hiq:=(Wn.idle_thing n s xs X).drewN hi qn;obtain ⟨S1,hrf,_,back1⟩:=ah.snd (aS.thing _ _ _) hiq;obtain ⟨S3,S4,hr,hf,ho34,_,back2⟩:=ah.two2 (de.thing _ _ _ _ _ _ _ _ _) hrf;have hr0:=hr;obtain ⟨vm,Sc,Sm,hcel,hrow,_,hS3⟩:=hr;have hLm:=hrow.lies;obtain ⟨adm,capm,hvm⟩:=hrow.form;subst hvm;have hoff:0 < s.marks.length->∀ b,adm=some ⟨b,0,none⟩->¬ S4 b:=by
  rintro _ b rfl hb;refine ho34 b ?_ hb;rw [hS3,show Sm=_ from hrow.1];exact .inr rfl
 refine (qu (w.drewN qn) n.Rb n.T n.Fb s.marks.length capm adm s.title 0 (0:Int)
  (fun w1=>∃ bg S',ah (aS n.B n.Wb [.pointer (some ⟨n.Rb,0,none⟩)]) (ah (de n.B n.Rb n.T n.Fb (.pointer none) 0 s.title s.marks.length (iz s.marks)) (aX n.K n.B n.Fb n.C 89 n.sk bg (aQ xs) (fO (aA xs) (aQ xs) s.mks s.title.data.toList))) w1 S'/\Mv S w S' w1) (fun _=>False) (fun e w'=>∃ v,e=.returned v/\dp n w S (0,{s with cl:=true}) (.returned v) w') hRl r1 r4 (hcel.at 5 _ rfl) ?_ ?_ ?_)
 ·intro wx hg;have hz:(w.drewN qn).heap.size<=wx.heap.size:=Below.size hg;have hf2:=(aX.thing (jp.thing n.B n.T n.lim) n.Fb n.C 89 n.sk (be 9 0 (aA xs)) (aQ xs) X).grow hf hg;have hzn:n.B<=wx.heap.size:=ZU hB hz;have htw:bU n.B wx:=ht.on ((cU (ZT _ w)).trans (YY hg hB));refine (zt n hlim wx S4 xs X s.title s.marks adm capm hx hX (by omega) hfine.title hok.marks (fun m hm=>by have:=hfine.marks m hm;omega) hzn htw (hLm.on hg) hoff hf2).mono ?_;rintro e w1 ⟨rfl,bg,S5,h5,m5⟩;obtain ⟨S6,h6,m6⟩:=back2 _ _ _ h5 ((Mv.grow hg S4).trans m5);obtain ⟨S7,h7,m7⟩:=back1 _ _ _ h6 m6;exact .inl ⟨rfl,bg,S7,h7,m7.undrew⟩
 ·rintro w1 ⟨bg,S1,h1,m1⟩;obtain ⟨S2,hr2,_,back⟩:=ah.mid (aS.thing _ _ _) (aX.thing (jp.thing _ _ _) _ _ _ _ _ _ _) h1;obtain ⟨vm,hr2⟩:=hr2;obtain ⟨S3,hc3,_,back3⟩:=ah.fst (aW.thing _ _ _ _ _ _) hr2;obtain ⟨hth,hc4,m4⟩:=hc3.six (zp n.T) (.pointer none) (.pointer none) (0:Int) (.string ⟨#[]⟩) (.slice none 0 0);obtain ⟨S5,h5,m5⟩:=back3 _ _ _ hc4 m4;obtain ⟨S6,h6,m6⟩:=back _ _ _ h5 m5;refine ⟨hc3.at 0 _ rfl,hth,_,rfl,rfl,?_⟩;obtain ⟨S7,h7,e7⟩:=ah.sub h6 (P':=aS n.B n.Wb [.pointer (some ⟨n.Rb,0,none⟩)]) (Q':=ah (aS n.B n.Rb [.pointer (some ⟨n.T,0,none⟩),.pointer none,.pointer none,.int .i64 0,.string ⟨#[]⟩,.slice none 0 0]) (fun w S=>n.K w S (fO (aA xs) (aQ xs) s.mks s.title.data.toList))) (fun S1 h=>⟨S1,h,fun _ e=>e⟩) (fun S2 h2=>ah.sub h2 (fun S1 h=>by
   obtain ⟨A1,A2,ha,_,_,rfl⟩:=h;exact ⟨A1,ha,fun k e=>.inl e⟩) (fun S1 h=>by
   obtain ⟨A1,A2,_,hck,_,rfl⟩:=h;obtain ⟨R,hk,hR⟩:=hck;exact ⟨R,hk,fun k e=>.inr (by first | exact hR.2.1 k e | (rw [hR.2.1];exact .inr e) | (rw [hR.1];exact .inr e))⟩))
  exact ⟨S7,⟨xs,⟨hx,hzs⟩,.inl ⟨rfl,hxs,h7⟩⟩,(m1.trans m6).trans (Mv.less e7)⟩
 ·intro w1 hf;exact hf.elim
def aM (c:Int) (n:Nat):Nat:=if c < 0 then (-(c+1)).toNat % n else c.toNat % n
theorem eP (c:Int) (n:Nat) (h:0 < n):aM c n < n:=by unfold aM;split <;> exact Yy _ h
theorem xE (w:World) (c:Int) (n:Nat) (h0:-9223372036854775808<=c) (h1:c<=9223372036854775807) (hn:0 < n) (hn2:n<=1000000000):
  QE 15 #[c,(n:Int)] w (aM c n:Int):=by
 by_cases hc:c < 0
 ·have HV:Hid (-((c+1).tmod (n:Int))=((aM c n:Nat):Int)):=by
   show _=_
   unfold aM;rw [ZN hc,Int.natCast_emod,XV (by omega), <-Int.neg_tmod,Int.tmod_eq_emod_of_nonneg (by omega)]
  have d0:decide (c < 0)=true:=by simp;omega
  go_enter func15,ntmps15
  go_wp2;go_ret;exact ⟨congrArg (fun z=>Ending.returned (.int .i64 z)) HV.out,rfl⟩
 ·have HV:Hid (c % (n:Int)=((aM c n:Nat):Int)):=by
   show _=_
   unfold aM;rw [ZO hc,Int.natCast_emod,XV (by omega)]
  have d0:decide (c < 0)=false:=by simp;omega
  go_enter func15,ntmps15
  go_wp2;go_ret;exact ⟨congrArg (fun z=>Ending.returned (.int .i64 z)) HV.out,rfl⟩
def au (c lo:Int):Int:=lo+(aM c (14400000 - lo+1).toNat:Int)
theorem bo (c lo:Int) (hl:lo<=14400000):lo<=au c lo/\au c lo<=14400000:=by
 have:=eP c (14400000 - lo+1).toNat (by omega);unfold au;omega
theorem lM (w:World) (c lo:Int) (h0:-9223372036854775808<=c) (h1:c<=9223372036854775807) (hl:-14400000<=lo) (hl2:lo<=14400000):
  QE 35 #[c,lo] w (au c lo:Int):=by
 obtain ⟨m,hm⟩:∃ m:Nat,((14400000 - lo+1).toNat)=m:=⟨_,rfl⟩;have e1:(14400000 - lo+1:Int)=(m:Int):=by omega
 have HP:=ai (xE w c m h0 h1 (by omega) (by omega));rw [<-e1] at HP;unfold au;rw [hm];have hlt:=eP c m (by omega);obtain ⟨q,hq⟩:∃ q,aM c m=q:=⟨_,rfl⟩;rw [hq] at HP hlt ⊢;have ew:wrap64 (lo+(q:Int))=lo+(q:Int):=by unfold wrap64;omega
 have HW:=ai ew;clear hq e1 hm ew;go_enter func35,ntmps35
 go_wp2_with fail
 refine HP.out.mono ?_;rintro e w1 ⟨rfl,rfl⟩;go_wp2;go_ret;exact ⟨congrArg (fun z=>Ending.returned (.int .i64 z)) HW.out,rfl⟩
theorem qC (w:World) (s:ByteArray) (hs:s.size<=9223372036854775807):
  QE 37 #[s,(100:Int)] w (.string (s.extract 0 100)):=by
 by_cases h:100 < s.size
 ·have d:decide ((100:Int) < (s.size:Int))=true:=by simp;omega
  go_enter func37,ntmps37
  go_wp2;go_ret;exact ⟨rfl,rfl⟩
 ·have d:decide ((100:Int) < (s.size:Int))=false:=by simp;omega
  have HE:Hid (s.extract 0 100=s):=by
   show _=_
   exact Zd (Array.toList_inj.1 (by rw [Zg,YV];simp only [List.extract,List.drop_zero,Nat.sub_zero];rw [Zy (by rw [aP];omega)]))
  go_enter func37,ntmps37
  go_wp2;go_ret;exact ⟨by rw [HE.out];rfl,rfl⟩
theorem ye (M:Nat) (hM:M<=21000) (w:World):(Instr.makeSlice 66 M M).run prog w=.ok (.slice w M M) (w.alloc (.cells (cells (List.replicate M 0)).toArray 5)):=by
 obtain ⟨i0,hi,hz0,hz1,hz2⟩:=XQ Tryz.info5;have h:=run_make (P:=prog) w 66 5 i0 (.int .u8 0) underlying66 hi hz0 .i64 .i64 M M (by omega) (by omega) (by rw [hz2];omega) (by omega);rw [h,hz1];have e:madeCells (Value.int IntKind.u8 0).cells ((M:Int).toNat*1)=(cells (List.replicate M 0)).toArray:=by
  apply Yl;have:=toList_madeCells_one (.int .u8 0) M;rw [Int.toNat_natCast,Nat.mul_one];refine this.trans ?_;simp [cells]
 rw [e,Int.toNat_natCast]
def ky (w:World) (base g M:Nat) (l:List UInt8):Prop:=l.length=M/\w.ownsRow base 5 1 (.slice g M M) M (cells l)
theorem Gf (w:World) (M:Nat) (hM:M<=21000):ky (w.alloc (.cells (cells (List.replicate M 0)).toArray 5)) w.heap.size w.heap.size M (List.replicate M 0):=by
 refine ⟨by simp,by simp [cells],.inr ⟨w.heap.size,M,(cells (List.replicate M 0)).toArray,rfl,ZW _,ZF w _,ZW _,by unfold maxLen;omega,by simp [cells],?_⟩⟩;simp [cells]
theorem ky.at {w:World} {base g M k:Nat} {l:List UInt8} (h:ky w base g M l) (hk:k < M):∃ x,w.cell? (zq g k)=some x:=by
 obtain ⟨h1,h2⟩:=h;rw [World.ownsRow.cellAt h2 k (by omega)];unfold cells;rw [YR,ZM (by omega)];exact ⟨_,rfl⟩
theorem ky.next {w:World} {base g M k:Nat} {l:List UInt8} (h:ky w base g M l) (hk:k < M) (c:UInt8):ky (w.setCell (zq g k) (.int .u8 (c.toNat:Nat))) base g M (l.set k c):=by
 obtain ⟨h1,h2⟩:=h;have hs:=(h2.stored k (.int .u8 (c.toNat:Nat))).1;refine ⟨by simpa using h1,?_⟩;have e:cells (l.set k c)=(cells l).set k (.int .u8 (c.toNat:Nat)):=by unfold cells;rw [<-List.map_set]
 rw [e];exact hs
theorem ky.str {w:World} {base g M:Nat} {l:List UInt8} (h:ky w base g M l):(convert 66 9 (.slice g M M)).run prog w=.ok (.string ⟨l.toArray⟩) w:=by
 obtain ⟨h1,h2⟩:=h;subst h1;have hr:=Yx (P:=prog) w 66 9 5 ⟨g,0,none⟩ l.length l underlying66 underlying5 underlying9 (by
  intro j hj;have hadd:(⟨g,0,none⟩:Addr).add j=⟨g,j,none⟩:=by
   unfold Addr.add;split
   ·next e=>rw [e]
   ·simp
  rw [hadd,World.ownsRow.cellAt h2 j (by omega)];unfold cells;rw [YR,ZM hj];simp)
 exact hr
theorem ky.fz {w:World} {base g M:Nat} {l:List UInt8} (h:ky w base g M l) (o:Nat):w.frozen? (zq g o)=false:=by
 rcases h.2.2 with ⟨hu,_⟩ | ⟨gg,cap,cur,hu,_,hh,_⟩
 ·cases hu
 ·cases hu;simp [World.frozen?,hh]
def wi (s:ByteArray) (n:Nat):Nat->List UInt8
 | 0=>List.replicate n 0
 | i+1=>if h:0 < s.size then ((wi s n i).set i (UInt8.ofNat (7*(i:Int) % 256).toNat)).set i (s[i % s.size]'(Yy _ h)) else (wi s n i).set i (UInt8.ofNat (7*(i:Int) % 256).toNat)
def CO (s:ByteArray) (n:Nat):ByteArray:=⟨(wi s n n).toArray⟩
theorem xN (s:ByteArray) (n:Nat):∀ i,(wi s n i).length=n
 | 0=>by simp [wi]
 | i+1=>by
  unfold wi;split <;> simp [xN s n i]
theorem CQ (s:ByteArray) (n:Nat):(CO s n).size=n:=by unfold CO;rw [ae,xN]
theorem DT (z:Int):((UInt8.ofNat (z % 256).toNat).toNat:Int)=z % 256:=by
 have h3:(z % 256).toNat < 256:=by omega
 simp;omega
theorem AY (w:World) (s:ByteArray) (n:Nat) (hs:s.size<=9223372036854775807) (hn:n<=400) (hn0:0 < n):
  QB 76 #[s,(n:Int)] w (.string (CO s n)):=by
 have hmk:=fun w=>ye n (by omega) w
 have HF:=ai (Gf w n (by omega));go_enter func76,ntmps76
 go_wp2;go_loopg [6] (n+1) (fun k x wr=>∃ (i:Nat),i<=n/\n - i < k/\x=.int .i64 (i:Int)/\Hid (ky wr w.heap.size w.heap.size n (wi s n i))/\Below w w wr)
 case atStart=>exact ⟨0,by omega,by omega,rfl,HF,(ZT _ w).alloc (ZW _) _⟩
 case round=>
  obtain ⟨i,hi,hk,rfl,hF0,hb⟩:=hrel;by_cases hlt:i < n
  ·have d1:decide ((i:Int) < (n:Int))=true:=by simp;omega
   obtain ⟨l,hl⟩:∃ l,wi s n i=l:=⟨_,rfl⟩;have HL:Hid (wi s n (i+1)=if h:0 < s.size then (l.set i (UInt8.ofNat (7*(i:Int) % 256).toNat)).set i (s[i % s.size]'(Yy _ h)) else l.set i (UInt8.ofNat (7*(i:Int) % 256).toNat)):=by show _=_;rw [<-hl];rfl
   rw [hl] at hF0;clear hl HF;have hF:=hF0.out;obtain ⟨x0,c0⟩:=hF.at hlt;have f0:=hF.fz i;have hc:=DT (7*(i:Int));have hF1:=hF.next hlt (UInt8.ofNat (7*(i:Int) % 256).toNat);rw [hc] at hF1;have hb1:Below w w (wr.setCell (zq w i) (.int .u8 (7*(i:Int) % 256))):=hb.setCell (p:=zq w i) (ZW _) _;obtain ⟨x1,c1⟩:=hF1.at hlt;have f1:=hF1.fz i;clear hF0;by_cases hs0:0 < s.size
   ·have d2:decide ((0:Int) < (s.size:Int))=true:=by simp;omega
    have hj0:(s.size:Int)≠0:=by omega
    have hj1:0<=(i:Int) % (s.size:Int):=Int.emod_nonneg _ hj0;have hj2:(i:Int) % (s.size:Int) < (s.size:Int):=Int.emod_lt_of_pos _ (by omega);have hj3:(((i:Int) % (s.size:Int)).toNat) < s.size:=by omega
    have HE:Hid (s[((i:Int) % (s.size:Int)).toNat]'hj3=s[i % s.size]'(Yy _ hs0)):=by
     show _=_
     congr 1
    have HF1:=ai hF1;have HB1:=ai hb1;clear hF1 hb1 hF hc;go_wp2;go_roundg (gk - 1)
    case measure=>omega
    case rel=>
     refine ⟨i+1,by omega,by omega,by congr 1,?_,HB1.out.setCell (p:=zq w i) (ZW _) _⟩;show ky _ _ _ _ _
     rw [HL.out,dif_pos hs0, <-HE.out];exact HF1.out.next hlt _
   ·have d2:decide ((0:Int) < (s.size:Int))=false:=by
     have:s.size=0:=by omega
     rw [this];rfl
    have HF1:=ai hF1;have HB1:=ai hb1;clear hF1 hb1 hF hc c1 f1;go_wp2;go_roundg (gk - 1)
    case measure=>omega
    case rel=>
     refine ⟨i+1,by omega,by omega,by congr 1,?_,HB1.out⟩;show ky _ _ _ _ _
     rw [HL.out,dif_neg hs0];exact HF1.out
  ·have e:i=n:=by omega
   subst e;have d1:decide ((i:Int) < (i:Int))=false:=by simp
   have hcv:=hF0.out.str;go_wp2;go_ret;exact ⟨rfl,hb⟩
theorem FM {w:World} {g i:Nat} {cs:Array Value} {t:TypeId} {fr:Nat×Nat} (h:w.heap[g]? =some (.cells cs t fr)) (v:Value):(w.setCell (zq g i) v).heap[g]? =some (.cells (cs.setIfInBounds i v) t fr):=by
 obtain ⟨hl,he⟩:=ZG.1 h;simp [World.setCell,Array.getElem?_modify,h]
structure B6 (w0:World) (g:Nat) (cs:List Value) (w:World):Prop where
 row:w.heap[g]? =some (.cells cs.toArray 31 (0,0))
 below:Below w0 w0 w
 ge:w0.heap.size<=g
theorem B6.at {w0 w:World} {g:Nat} {cs:List Value} (h:B6 w0 g cs w) (i:Nat) (v:Value) (hv:cs[i]? =some v):w.cell? (zq g i)=some v:=by rw [Zw w g i _ _ _ h.row];simpa using hv
theorem B6.fz {w0 w:World} {g:Nat} {cs:List Value} (h:B6 w0 g cs w) (o:Nat) (ho:o < 1000000):w.frozen? (zq g o)=false:=by simp [World.frozen?,h.row]
theorem B6.set {w0 w:World} {g:Nat} {cs:List Value} (h:B6 w0 g cs w) (i:Nat) (v:Value):B6 w0 g (cs.set i v) (w.setCell (zq g i) v):=⟨by have:=FM (i:=i) h.row v;simpa using this,h.below.setCell (p:=zq g i) h.ge v,h.ge⟩
theorem B6.grow {w0 w w':World} {g:Nat} {cs:List Value} (h:B6 w0 g cs w) (hb:Below w w w'):B6 w0 g cs w':=⟨(hb.block g (ZG.1 h.row).1).trans h.row,h.below.trans (hb.mono h.below.size),h.ge⟩
theorem Ee (w:World) (K A Bb C D E Co Ro a b:Int) (k:Nat) (s:ByteArray) (hk:k=1) (c:Int) (t:ByteArray)
  (HK:Hid (∀ wx,QE 15 #[K,(8:Int)] wx (k:Int)))
  (HPa:Hid (∀ wx,QE 35 #[A,(-14400000:Int)] wx a))
  (HPb:Hid (∀ wx,QE 35 #[Bb,(-14400000:Int)] wx b))
  (HC:Hid (∀ wx,QE 35 #[C,(1:Int)] wx c))
  (HS:Hid (∀ wx,QE 37 #[s,(100:Int)] wx t)):
  QB 32 #[.agg #[K,A,Bb,C,D,E,Co,Ro,s]] w (.agg #[(1:Int),a,b,c,oz,oz,oz,oz,t]):=by
 go_enter func32,ntmps32
 go_wp2_with fail
 obtain ⟨w0,hw0⟩:∃ w0,(w.alloc (Obj.cells #[Value.int IntKind.i64 K,Value.int IntKind.i64 A,Value.int IntKind.i64 Bb,Value.int IntKind.i64 C,Value.int IntKind.i64 D,Value.int IntKind.i64 E,Value.int IntKind.i64 Co,Value.int IntKind.i64 Ro,Value.string s] 76)).alloc (Obj.cells #[Value.int IntKind.i64 0,Value.int IntKind.i64 0,Value.int IntKind.i64 0,Value.int IntKind.i64 0,Value.int IntKind.i64 0,Value.int IntKind.i64 0,Value.int IntKind.i64 0,Value.int IntKind.i64 0,Value.string ⟨#[]⟩] 31)=w0:=⟨_,rfl⟩;have hb0:Below w w w0:=by rw [<-hw0];exact ((ZT _ w).alloc (ZW _) _).alloc (by simp) _
 have HA:Hid (∀ w1,af w0 w1->∀ i u,([.int .i64 K,.int .i64 A,.int .i64 Bb,.int .i64 C,.int .i64 D,.int .i64 E,.int .i64 Co,.int .i64 Ro,.string s]:List Value)[i]? =some u->w1.cell? (zq w i)=some u):=by
  intro w1 hG i u hu;rw [<-hw0] at hG;refine ((aS.thing _ _ _).grow ((aS.thing _ _ _).grow (aS.alloc (B:=0) (vs:=[.int .i64 K,.int .i64 A,.int .i64 Bb,.int .i64 C,.int .i64 D,.int .i64 E,.int .i64 Co,.int .i64 Ro,.string s]) (w:=w) (t:=76) (YO _)) ((ZT _ _).alloc (ZW _) _)) hG).at i u hu
 have hres:w0.heap[w.heap.size+1]? =some (.cells #[oz,oz,oz,oz,oz,oz,oz,oz,.string ⟨#[]⟩] 31 (0,0)):=by rw [<-hw0];exact Yz _ _ _
 have hsz0:w.heap.size+1 < w0.heap.size:=(ZG.1 hres).1;have HRS:=ai hres;rw [hw0];clear hw0 hres;obtain ⟨x0,hx0⟩:∃ x0,w.heap.size=x0:=⟨_,rfl⟩;rw [hx0] at HA HRS hsz0 hb0 ⊢;have HX0:=ai hx0;clear hx0;refine ap 11 _ (Ek w0.heap.size 10 31 #[oz,oz,oz,oz,oz,oz,oz,oz,.string ⟨#[]⟩] [.pointer (some ⟨x0,0,none⟩),.int .i64 K,.int .i64 (k:Int),.pointer (some ⟨x0,1,none⟩),.int .i64 A,.int .i64 a,.pointer (some ⟨x0,2,none⟩),.int .i64 Bb,.int .i64 b,.agg #[(k:Int),a,b,oz,oz,oz,oz,oz,.string ⟨#[]⟩],undef]) (by kernel_rfl) rfl (by kernel_rfl) nO ?_;simp only [TD];refine ⟨fun w1 hG hd=>?_,fun v0=>?_⟩
 ·clear hd;go_wp2;exact RG
 simp only [TN];refine ⟨fun w1 hG hd=>?_,fun v1=>?_⟩
 ·have d0:v0=.pointer (some ⟨x0,0,none⟩):=hd ⟨0,.data⟩ (by simp) rfl;clear hd;subst d0;have cc:=HA.out w1 hG 0 _ rfl;go_wp2;exact RG
 simp only [TN];refine ⟨fun w1 hG hd=>?_,fun v2=>?_⟩
 ·have d1:v1=.int .i64 K:=hd ⟨1,.data⟩ (by simp) rfl;clear hd;subst d1;have HX:=ai (HK.out w1);go_wp2_with fail
  refine HX.out.mono ?_;rintro e w2 ⟨rfl,rfl⟩;go_wp2;exact RG
 simp only [TN];refine ⟨fun w1 hG hd=>?_,fun v3=>?_⟩
 ·clear hd;go_wp2;exact RG
 simp only [TN];refine ⟨fun w1 hG hd=>?_,fun v4=>?_⟩
 ·have d3:v3=.pointer (some ⟨x0,1,none⟩):=hd ⟨3,.data⟩ (by simp) rfl;clear hd;subst d3;have cc:=HA.out w1 hG 1 _ rfl;go_wp2;exact RG
 simp only [TN];refine ⟨fun w1 hG hd=>?_,fun v5=>?_⟩
 ·have d4:v4=.int .i64 A:=hd ⟨4,.data⟩ (by simp) rfl;clear hd;subst d4;have HX:=ai (HPa.out w1);go_wp2_with fail
  refine HX.out.mono ?_;rintro e w2 ⟨rfl,rfl⟩;go_wp2;exact RG
 simp only [TN];refine ⟨fun w1 hG hd=>?_,fun v6=>?_⟩
 ·clear hd;go_wp2;exact RG
 simp only [TN];refine ⟨fun w1 hG hd=>?_,fun v7=>?_⟩
 ·have d6:v6=.pointer (some ⟨x0,2,none⟩):=hd ⟨6,.data⟩ (by simp) rfl;clear hd;subst d6;have cc:=HA.out w1 hG 2 _ rfl;go_wp2;exact RG
 simp only [TN];refine ⟨fun w1 hG hd=>?_,fun v8=>?_⟩
 ·have d7:v7=.int .i64 Bb:=hd ⟨7,.data⟩ (by simp) rfl;clear hd;subst d7;have HX:=ai (HPb.out w1);go_wp2_with fail
  refine HX.out.mono ?_;rintro e w2 ⟨rfl,rfl⟩;go_wp2;exact RG
 simp only [TN];refine ⟨fun w1 hG hd=>?_,fun v9=>?_⟩
 ·have d2:v2=.int .i64 (k:Int):=hd ⟨2,.data⟩ (by simp) rfl;have d5:v5=.int .i64 a:=hd ⟨5,.data⟩ (by simp) rfl;have d8:v8=.int .i64 b:=hd ⟨8,.data⟩ (by simp) rfl;clear hd;subst d2 d5 d8;go_wp2;exact RG
 simp only [TN];refine ⟨fun w1 hG hd=>?_,fun v10=>?_⟩
 ·clear hd;go_wp2;exact ⟨⟨_,rfl,hG.size,ZF _ _⟩,(ZT _ _).alloc (ZW _) _⟩
 simp only [TN];intro w2 hG hd;have d9:v9=.agg #[(k:Int),a,b,oz,oz,oz,oz,oz,.string ⟨#[]⟩]:=hd 9 (by omega);obtain ⟨g,d10,hzg,hbg⟩:∃ g,v10=.pointer (some ⟨g,0,none⟩)/\w0.heap.size<=g/\w2.heap[g]? =some (.cells #[oz,oz,oz,oz,oz,oz,oz,oz,.string ⟨#[]⟩] 31 (0,0)):=hd 10 (by omega);subst d9 d10;clear hd;have hrow:=YK w2 g _ #[(k:Int),a,b,oz,oz,oz,oz,oz,.string ⟨#[]⟩] _ _ hbg;refine Zj rfl 31 (.tmp 3) (.tmp 13) rfl g #[(k:Int),a,b,oz,oz,oz,oz,oz,.string ⟨#[]⟩] rfl rfl _ _ hbg (by kernel_rfl) rfl (by kernel_rfl) ?_;have hO:B6 w0 g [.int .i64 (k:Int),.int .i64 a,.int .i64 b,.int .i64 0,.int .i64 0,.int .i64 0,.int .i64 0,.int .i64 0,.string ⟨#[]⟩] (w2.setRow g #[(k:Int),a,b,oz,oz,oz,oz,oz,.string ⟨#[]⟩]):=⟨hrow,⟨hG.os,hG.tape,hG.output,ZU hG.size (Nat.le_of_eq (by simp [World.setRow])),fun k hk=>(setRow_other _ _ _ _ (by omega)).trans (hG.block k hk)⟩,hzg⟩;generalize w2.setRow g #[(k:Int),a,b,oz,oz,oz,oz,oz,.string ⟨#[]⟩]=w3 at hO ⊢;clear hG hbg hrow hzg HK HPa HPb;rw [hk] at hO ⊢;clear hk;have act:True:=trivial;have q0:=hO.at 0 _ rfl;have a1:=(hO.below.cell (p:=zq x0 3) (by show x0 < _;omega)).trans (HA.out w0 (af.refl _) 3 _ rfl);go_wp2_with fail
 refine (HC.out _).mono ?_;rintro e wz1 ⟨rfl,rfl⟩;have q1:=hO.at 3 _ rfl;have f1:=hO.fz 3 (by omega);have hO:=hO.set 3 (.int .i64 c);have a2:=(hO.below.cell (p:=zq x0 8) (by show x0 < _;omega)).trans (HA.out w0 (af.refl _) 8 _ rfl);go_wp2_with fail
 refine (HS.out _).mono ?_;rintro e wz2 ⟨rfl,rfl⟩;have q2:=hO.at 8 _ rfl;have f2:=hO.fz 8 (by omega);have hO:=hO.set 8 (.string t);have HRW:=ai hO.row;have HRE:=ai ((hO.below.block (x0+1) (by omega)).trans HRS.out);have hbf:=hb0.trans (hO.below.mono (by omega));have hne:=hO.ge;simp only [List.set_cons_succ,List.set_cons_zero] at HRW;clear HRS HA hO act;go_wp2_with (first
  | (refine Zi rfl 31 (.tmp 3) rfl g rfl 31 _ (0,0) _ HRW.out underlying31 rfl (by kernel_rfl) ?_)
  | (refine Zj rfl 31 (.tmp 2) (.tmp 82) rfl (x0+1) #[(1:Int),a,b,c,oz,oz,oz,oz,t] rfl rfl _ _ HRE.out (by kernel_rfl) rfl (by kernel_rfl) ?_))
 have hrf:=YK _ (x0+1) _ #[(1:Int),a,b,c,oz,oz,oz,oz,t] _ _ HRE.out;refine YT (YC rfl _ _ (x0+1) 31 _ (0,0) _ rfl hrf underlying31 rfl (by kernel_rfl)) rfl ?_;refine ⟨rfl,?_⟩;rw [HX0.out];exact ⟨hbf.os,hbf.tape,hbf.output,ZU hbf.size (Nat.le_of_eq (by simp [World.setRow])),fun k hk=>(setRow_other _ _ _ _ (by omega)).trans (hbf.block k hk)⟩
theorem Ec (w:World) (K A Bb C D E Co Ro a b:Int) (k:Nat) (s:ByteArray) (hk:k=2) (c d e9:Int)
  (HK:Hid (∀ wx,QE 15 #[K,(8:Int)] wx (k:Int)))
  (HPa:Hid (∀ wx,QE 35 #[A,(-14400000:Int)] wx a))
  (HPb:Hid (∀ wx,QE 35 #[Bb,(-14400000:Int)] wx b))
  (HC:Hid (∀ wx,QE 35 #[C,(-14400000:Int)] wx c))
  (HDd:Hid (∀ wx,QE 35 #[D,(-14400000:Int)] wx d))
  (HEe:Hid (∀ wx,QE 35 #[E,oz] wx e9)):
  QB 32 #[.agg #[K,A,Bb,C,D,E,Co,Ro,s]] w (.agg #[(2:Int),a,b,c,d,e9,oz,oz,.string ⟨#[]⟩]):=by
 go_enter func32,ntmps32
 go_wp2_with fail
 obtain ⟨w0,hw0⟩:∃ w0,(w.alloc (Obj.cells #[Value.int IntKind.i64 K,Value.int IntKind.i64 A,Value.int IntKind.i64 Bb,Value.int IntKind.i64 C,Value.int IntKind.i64 D,Value.int IntKind.i64 E,Value.int IntKind.i64 Co,Value.int IntKind.i64 Ro,Value.string s] 76)).alloc (Obj.cells #[Value.int IntKind.i64 0,Value.int IntKind.i64 0,Value.int IntKind.i64 0,Value.int IntKind.i64 0,Value.int IntKind.i64 0,Value.int IntKind.i64 0,Value.int IntKind.i64 0,Value.int IntKind.i64 0,Value.string ⟨#[]⟩] 31)=w0:=⟨_,rfl⟩;have hb0:Below w w w0:=by rw [<-hw0];exact ((ZT _ w).alloc (ZW _) _).alloc (by simp) _
 have HA:Hid (∀ w1,af w0 w1->∀ i u,([.int .i64 K,.int .i64 A,.int .i64 Bb,.int .i64 C,.int .i64 D,.int .i64 E,.int .i64 Co,.int .i64 Ro,.string s]:List Value)[i]? =some u->w1.cell? (zq w i)=some u):=by
  intro w1 hG i u hu;rw [<-hw0] at hG;refine ((aS.thing _ _ _).grow ((aS.thing _ _ _).grow (aS.alloc (B:=0) (vs:=[.int .i64 K,.int .i64 A,.int .i64 Bb,.int .i64 C,.int .i64 D,.int .i64 E,.int .i64 Co,.int .i64 Ro,.string s]) (w:=w) (t:=76) (YO _)) ((ZT _ _).alloc (ZW _) _)) hG).at i u hu
 have hres:w0.heap[w.heap.size+1]? =some (.cells #[oz,oz,oz,oz,oz,oz,oz,oz,.string ⟨#[]⟩] 31 (0,0)):=by rw [<-hw0];exact Yz _ _ _
 have hsz0:w.heap.size+1 < w0.heap.size:=(ZG.1 hres).1;have HRS:=ai hres;rw [hw0];clear hw0 hres;obtain ⟨x0,hx0⟩:∃ x0,w.heap.size=x0:=⟨_,rfl⟩;rw [hx0] at HA HRS hsz0 hb0 ⊢;have HX0:=ai hx0;clear hx0;refine ap 11 _ (Ek w0.heap.size 10 31 #[oz,oz,oz,oz,oz,oz,oz,oz,.string ⟨#[]⟩] [.pointer (some ⟨x0,0,none⟩),.int .i64 K,.int .i64 (k:Int),.pointer (some ⟨x0,1,none⟩),.int .i64 A,.int .i64 a,.pointer (some ⟨x0,2,none⟩),.int .i64 Bb,.int .i64 b,.agg #[(k:Int),a,b,oz,oz,oz,oz,oz,.string ⟨#[]⟩],undef]) (by kernel_rfl) rfl (by kernel_rfl) nO ?_;simp only [TD];refine ⟨fun w1 hG hd=>?_,fun v0=>?_⟩
 ·clear hd;go_wp2;exact RG
 simp only [TN];refine ⟨fun w1 hG hd=>?_,fun v1=>?_⟩
 ·have d0:v0=.pointer (some ⟨x0,0,none⟩):=hd ⟨0,.data⟩ (by simp) rfl;clear hd;subst d0;have cc:=HA.out w1 hG 0 _ rfl;go_wp2;exact RG
 simp only [TN];refine ⟨fun w1 hG hd=>?_,fun v2=>?_⟩
 ·have d1:v1=.int .i64 K:=hd ⟨1,.data⟩ (by simp) rfl;clear hd;subst d1;have HX:=ai (HK.out w1);go_wp2_with fail
  refine HX.out.mono ?_;rintro e w2 ⟨rfl,rfl⟩;go_wp2;exact RG
 simp only [TN];refine ⟨fun w1 hG hd=>?_,fun v3=>?_⟩
 ·clear hd;go_wp2;exact RG
 simp only [TN];refine ⟨fun w1 hG hd=>?_,fun v4=>?_⟩
 ·have d3:v3=.pointer (some ⟨x0,1,none⟩):=hd ⟨3,.data⟩ (by simp) rfl;clear hd;subst d3;have cc:=HA.out w1 hG 1 _ rfl;go_wp2;exact RG
 simp only [TN];refine ⟨fun w1 hG hd=>?_,fun v5=>?_⟩
 ·have d4:v4=.int .i64 A:=hd ⟨4,.data⟩ (by simp) rfl;clear hd;subst d4;have HX:=ai (HPa.out w1);go_wp2_with fail
  refine HX.out.mono ?_;rintro e w2 ⟨rfl,rfl⟩;go_wp2;exact RG
 simp only [TN];refine ⟨fun w1 hG hd=>?_,fun v6=>?_⟩
 ·clear hd;go_wp2;exact RG
 simp only [TN];refine ⟨fun w1 hG hd=>?_,fun v7=>?_⟩
 ·have d6:v6=.pointer (some ⟨x0,2,none⟩):=hd ⟨6,.data⟩ (by simp) rfl;clear hd;subst d6;have cc:=HA.out w1 hG 2 _ rfl;go_wp2;exact RG
 simp only [TN];refine ⟨fun w1 hG hd=>?_,fun v8=>?_⟩
 ·have d7:v7=.int .i64 Bb:=hd ⟨7,.data⟩ (by simp) rfl;clear hd;subst d7;have HX:=ai (HPb.out w1);go_wp2_with fail
  refine HX.out.mono ?_;rintro e w2 ⟨rfl,rfl⟩;go_wp2;exact RG
 simp only [TN];refine ⟨fun w1 hG hd=>?_,fun v9=>?_⟩
 ·have d2:v2=.int .i64 (k:Int):=hd ⟨2,.data⟩ (by simp) rfl;have d5:v5=.int .i64 a:=hd ⟨5,.data⟩ (by simp) rfl;have d8:v8=.int .i64 b:=hd ⟨8,.data⟩ (by simp) rfl;clear hd;subst d2 d5 d8;go_wp2;exact RG
 simp only [TN];refine ⟨fun w1 hG hd=>?_,fun v10=>?_⟩
 ·clear hd;go_wp2;exact ⟨⟨_,rfl,hG.size,ZF _ _⟩,(ZT _ _).alloc (ZW _) _⟩
 simp only [TN];intro w2 hG hd;have d9:v9=.agg #[(k:Int),a,b,oz,oz,oz,oz,oz,.string ⟨#[]⟩]:=hd 9 (by omega);obtain ⟨g,d10,hzg,hbg⟩:∃ g,v10=.pointer (some ⟨g,0,none⟩)/\w0.heap.size<=g/\w2.heap[g]? =some (.cells #[oz,oz,oz,oz,oz,oz,oz,oz,.string ⟨#[]⟩] 31 (0,0)):=hd 10 (by omega);subst d9 d10;clear hd;have hrow:=YK w2 g _ #[(k:Int),a,b,oz,oz,oz,oz,oz,.string ⟨#[]⟩] _ _ hbg;refine Zj rfl 31 (.tmp 3) (.tmp 13) rfl g #[(k:Int),a,b,oz,oz,oz,oz,oz,.string ⟨#[]⟩] rfl rfl _ _ hbg (by kernel_rfl) rfl (by kernel_rfl) ?_;have hO:B6 w0 g [.int .i64 (k:Int),.int .i64 a,.int .i64 b,.int .i64 0,.int .i64 0,.int .i64 0,.int .i64 0,.int .i64 0,.string ⟨#[]⟩] (w2.setRow g #[(k:Int),a,b,oz,oz,oz,oz,oz,.string ⟨#[]⟩]):=⟨hrow,⟨hG.os,hG.tape,hG.output,ZU hG.size (Nat.le_of_eq (by simp [World.setRow])),fun k hk=>(setRow_other _ _ _ _ (by omega)).trans (hG.block k hk)⟩,hzg⟩;generalize w2.setRow g #[(k:Int),a,b,oz,oz,oz,oz,oz,.string ⟨#[]⟩]=w3 at hO ⊢;clear hG hbg hrow hzg HK HPa HPb;rw [hk] at hO ⊢;clear hk;have act:True:=trivial;have q0:=hO.at 0 _ rfl;have a1:=(hO.below.cell (p:=zq x0 3) (by show x0 < _;omega)).trans (HA.out w0 (af.refl _) 3 _ rfl);go_wp2_with fail
 refine (HC.out _).mono ?_;rintro e wz1 ⟨rfl,rfl⟩;have q1:=hO.at 3 _ rfl;have f1:=hO.fz 3 (by omega);have hO:=hO.set 3 (.int .i64 c);have a2:=(hO.below.cell (p:=zq x0 4) (by show x0 < _;omega)).trans (HA.out w0 (af.refl _) 4 _ rfl);go_wp2_with fail
 refine (HDd.out _).mono ?_;rintro e wz2 ⟨rfl,rfl⟩;have q2:=hO.at 4 _ rfl;have f2:=hO.fz 4 (by omega);have hO:=hO.set 4 (.int .i64 d);have a3:=(hO.below.cell (p:=zq x0 5) (by show x0 < _;omega)).trans (HA.out w0 (af.refl _) 5 _ rfl);go_wp2_with fail
 refine (HEe.out _).mono ?_;rintro e wz3 ⟨rfl,rfl⟩;have q3:=hO.at 5 _ rfl;have f3:=hO.fz 5 (by omega);have hO:=hO.set 5 (.int .i64 e9);have HRW:=ai hO.row;have HRE:=ai ((hO.below.block (x0+1) (by omega)).trans HRS.out);have hbf:=hb0.trans (hO.below.mono (by omega));have hne:=hO.ge;simp only [List.set_cons_succ,List.set_cons_zero] at HRW;clear HRS HA hO act;go_wp2_with (first
  | (refine Zi rfl 31 (.tmp 3) rfl g rfl 31 _ (0,0) _ HRW.out underlying31 rfl (by kernel_rfl) ?_)
  | (refine Zj rfl 31 (.tmp 2) (.tmp 82) rfl (x0+1) #[(2:Int),a,b,c,d,e9,oz,oz,.string ⟨#[]⟩] rfl rfl _ _ HRE.out (by kernel_rfl) rfl (by kernel_rfl) ?_))
 have hrf:=YK _ (x0+1) _ #[(2:Int),a,b,c,d,e9,oz,oz,.string ⟨#[]⟩] _ _ HRE.out;refine YT (YC rfl _ _ (x0+1) 31 _ (0,0) _ rfl hrf underlying31 rfl (by kernel_rfl)) rfl ?_;refine ⟨rfl,?_⟩;rw [HX0.out];exact ⟨hbf.os,hbf.tape,hbf.output,ZU hbf.size (Nat.le_of_eq (by simp [World.setRow])),fun k hk=>(setRow_other _ _ _ _ (by omega)).trans (hbf.block k hk)⟩
theorem Ed (w:World) (K A Bb C D E Co Ro a b:Int) (k:Nat) (s:ByteArray) (hk:k=3) (c d:Int) (e9:Nat)
  (HK:Hid (∀ wx,QE 15 #[K,(8:Int)] wx (k:Int)))
  (HPa:Hid (∀ wx,QE 35 #[A,(-14400000:Int)] wx a))
  (HPb:Hid (∀ wx,QE 35 #[Bb,(-14400000:Int)] wx b))
  (HC:Hid (∀ wx,QE 35 #[C,oz] wx c))
  (HDd:Hid (∀ wx,QE 35 #[D,oz] wx d))
  (HEe:Hid (∀ wx,QE 15 #[E,(1001:Int)] wx (e9:Int))):
  QB 32 #[.agg #[K,A,Bb,C,D,E,Co,Ro,s]] w (.agg #[(3:Int),a,b,c,d,(e9:Int),oz,oz,.string ⟨#[]⟩]):=by
 go_enter func32,ntmps32
 go_wp2_with fail
 obtain ⟨w0,hw0⟩:∃ w0,(w.alloc (Obj.cells #[Value.int IntKind.i64 K,Value.int IntKind.i64 A,Value.int IntKind.i64 Bb,Value.int IntKind.i64 C,Value.int IntKind.i64 D,Value.int IntKind.i64 E,Value.int IntKind.i64 Co,Value.int IntKind.i64 Ro,Value.string s] 76)).alloc (Obj.cells #[Value.int IntKind.i64 0,Value.int IntKind.i64 0,Value.int IntKind.i64 0,Value.int IntKind.i64 0,Value.int IntKind.i64 0,Value.int IntKind.i64 0,Value.int IntKind.i64 0,Value.int IntKind.i64 0,Value.string ⟨#[]⟩] 31)=w0:=⟨_,rfl⟩;have hb0:Below w w w0:=by rw [<-hw0];exact ((ZT _ w).alloc (ZW _) _).alloc (by simp) _
 have HA:Hid (∀ w1,af w0 w1->∀ i u,([.int .i64 K,.int .i64 A,.int .i64 Bb,.int .i64 C,.int .i64 D,.int .i64 E,.int .i64 Co,.int .i64 Ro,.string s]:List Value)[i]? =some u->w1.cell? (zq w i)=some u):=by
  intro w1 hG i u hu;rw [<-hw0] at hG;refine ((aS.thing _ _ _).grow ((aS.thing _ _ _).grow (aS.alloc (B:=0) (vs:=[.int .i64 K,.int .i64 A,.int .i64 Bb,.int .i64 C,.int .i64 D,.int .i64 E,.int .i64 Co,.int .i64 Ro,.string s]) (w:=w) (t:=76) (YO _)) ((ZT _ _).alloc (ZW _) _)) hG).at i u hu
 have hres:w0.heap[w.heap.size+1]? =some (.cells #[oz,oz,oz,oz,oz,oz,oz,oz,.string ⟨#[]⟩] 31 (0,0)):=by rw [<-hw0];exact Yz _ _ _
 have hsz0:w.heap.size+1 < w0.heap.size:=(ZG.1 hres).1;have HRS:=ai hres;rw [hw0];clear hw0 hres;obtain ⟨x0,hx0⟩:∃ x0,w.heap.size=x0:=⟨_,rfl⟩;rw [hx0] at HA HRS hsz0 hb0 ⊢;have HX0:=ai hx0;clear hx0;refine ap 11 _ (Ek w0.heap.size 10 31 #[oz,oz,oz,oz,oz,oz,oz,oz,.string ⟨#[]⟩] [.pointer (some ⟨x0,0,none⟩),.int .i64 K,.int .i64 (k:Int),.pointer (some ⟨x0,1,none⟩),.int .i64 A,.int .i64 a,.pointer (some ⟨x0,2,none⟩),.int .i64 Bb,.int .i64 b,.agg #[(k:Int),a,b,oz,oz,oz,oz,oz,.string ⟨#[]⟩],undef]) (by kernel_rfl) rfl (by kernel_rfl) nO ?_;simp only [TD];refine ⟨fun w1 hG hd=>?_,fun v0=>?_⟩
 ·clear hd;go_wp2;exact RG
 simp only [TN];refine ⟨fun w1 hG hd=>?_,fun v1=>?_⟩
 ·have d0:v0=.pointer (some ⟨x0,0,none⟩):=hd ⟨0,.data⟩ (by simp) rfl;clear hd;subst d0;have cc:=HA.out w1 hG 0 _ rfl;go_wp2;exact RG
 simp only [TN];refine ⟨fun w1 hG hd=>?_,fun v2=>?_⟩
 ·have d1:v1=.int .i64 K:=hd ⟨1,.data⟩ (by simp) rfl;clear hd;subst d1;have HX:=ai (HK.out w1);go_wp2_with fail
  refine HX.out.mono ?_;rintro e w2 ⟨rfl,rfl⟩;go_wp2;exact RG
 simp only [TN];refine ⟨fun w1 hG hd=>?_,fun v3=>?_⟩
 ·clear hd;go_wp2;exact RG
 simp only [TN];refine ⟨fun w1 hG hd=>?_,fun v4=>?_⟩
 ·have d3:v3=.pointer (some ⟨x0,1,none⟩):=hd ⟨3,.data⟩ (by simp) rfl;clear hd;subst d3;have cc:=HA.out w1 hG 1 _ rfl;go_wp2;exact RG
 simp only [TN];refine ⟨fun w1 hG hd=>?_,fun v5=>?_⟩
 ·have d4:v4=.int .i64 A:=hd ⟨4,.data⟩ (by simp) rfl;clear hd;subst d4;have HX:=ai (HPa.out w1);go_wp2_with fail
  refine HX.out.mono ?_;rintro e w2 ⟨rfl,rfl⟩;go_wp2;exact RG
 simp only [TN];refine ⟨fun w1 hG hd=>?_,fun v6=>?_⟩
 ·clear hd;go_wp2;exact RG
 simp only [TN];refine ⟨fun w1 hG hd=>?_,fun v7=>?_⟩
 ·have d6:v6=.pointer (some ⟨x0,2,none⟩):=hd ⟨6,.data⟩ (by simp) rfl;clear hd;subst d6;have cc:=HA.out w1 hG 2 _ rfl;go_wp2;exact RG
 simp only [TN];refine ⟨fun w1 hG hd=>?_,fun v8=>?_⟩
 ·have d7:v7=.int .i64 Bb:=hd ⟨7,.data⟩ (by simp) rfl;clear hd;subst d7;have HX:=ai (HPb.out w1);go_wp2_with fail
  refine HX.out.mono ?_;rintro e w2 ⟨rfl,rfl⟩;go_wp2;exact RG
 simp only [TN];refine ⟨fun w1 hG hd=>?_,fun v9=>?_⟩
 ·have d2:v2=.int .i64 (k:Int):=hd ⟨2,.data⟩ (by simp) rfl;have d5:v5=.int .i64 a:=hd ⟨5,.data⟩ (by simp) rfl;have d8:v8=.int .i64 b:=hd ⟨8,.data⟩ (by simp) rfl;clear hd;subst d2 d5 d8;go_wp2;exact RG
 simp only [TN];refine ⟨fun w1 hG hd=>?_,fun v10=>?_⟩
 ·clear hd;go_wp2;exact ⟨⟨_,rfl,hG.size,ZF _ _⟩,(ZT _ _).alloc (ZW _) _⟩
 simp only [TN];intro w2 hG hd;have d9:v9=.agg #[(k:Int),a,b,oz,oz,oz,oz,oz,.string ⟨#[]⟩]:=hd 9 (by omega);obtain ⟨g,d10,hzg,hbg⟩:∃ g,v10=.pointer (some ⟨g,0,none⟩)/\w0.heap.size<=g/\w2.heap[g]? =some (.cells #[oz,oz,oz,oz,oz,oz,oz,oz,.string ⟨#[]⟩] 31 (0,0)):=hd 10 (by omega);subst d9 d10;clear hd;have hrow:=YK w2 g _ #[(k:Int),a,b,oz,oz,oz,oz,oz,.string ⟨#[]⟩] _ _ hbg;refine Zj rfl 31 (.tmp 3) (.tmp 13) rfl g #[(k:Int),a,b,oz,oz,oz,oz,oz,.string ⟨#[]⟩] rfl rfl _ _ hbg (by kernel_rfl) rfl (by kernel_rfl) ?_;have hO:B6 w0 g [.int .i64 (k:Int),.int .i64 a,.int .i64 b,.int .i64 0,.int .i64 0,.int .i64 0,.int .i64 0,.int .i64 0,.string ⟨#[]⟩] (w2.setRow g #[(k:Int),a,b,oz,oz,oz,oz,oz,.string ⟨#[]⟩]):=⟨hrow,⟨hG.os,hG.tape,hG.output,ZU hG.size (Nat.le_of_eq (by simp [World.setRow])),fun k hk=>(setRow_other _ _ _ _ (by omega)).trans (hG.block k hk)⟩,hzg⟩;generalize w2.setRow g #[(k:Int),a,b,oz,oz,oz,oz,oz,.string ⟨#[]⟩]=w3 at hO ⊢;clear hG hbg hrow hzg HK HPa HPb;rw [hk] at hO ⊢;clear hk;have act:True:=trivial;have q0:=hO.at 0 _ rfl;have a1:=(hO.below.cell (p:=zq x0 3) (by show x0 < _;omega)).trans (HA.out w0 (af.refl _) 3 _ rfl);go_wp2_with fail
 refine (HC.out _).mono ?_;rintro e wz1 ⟨rfl,rfl⟩;have q1:=hO.at 3 _ rfl;have f1:=hO.fz 3 (by omega);have hO:=hO.set 3 (.int .i64 c);have a2:=(hO.below.cell (p:=zq x0 4) (by show x0 < _;omega)).trans (HA.out w0 (af.refl _) 4 _ rfl);go_wp2_with fail
 refine (HDd.out _).mono ?_;rintro e wz2 ⟨rfl,rfl⟩;have q2:=hO.at 4 _ rfl;have f2:=hO.fz 4 (by omega);have hO:=hO.set 4 (.int .i64 d);have a3:=(hO.below.cell (p:=zq x0 5) (by show x0 < _;omega)).trans (HA.out w0 (af.refl _) 5 _ rfl);go_wp2_with fail
 refine (HEe.out _).mono ?_;rintro e wz3 ⟨rfl,rfl⟩;have q3:=hO.at 5 _ rfl;have f3:=hO.fz 5 (by omega);have hO:=hO.set 5 (.int .i64 (e9:Int));have HRW:=ai hO.row;have HRE:=ai ((hO.below.block (x0+1) (by omega)).trans HRS.out);have hbf:=hb0.trans (hO.below.mono (by omega));have hne:=hO.ge;simp only [List.set_cons_succ,List.set_cons_zero] at HRW;clear HRS HA hO act;go_wp2_with (first
  | (refine Zi rfl 31 (.tmp 3) rfl g rfl 31 _ (0,0) _ HRW.out underlying31 rfl (by kernel_rfl) ?_)
  | (refine Zj rfl 31 (.tmp 2) (.tmp 82) rfl (x0+1) #[(3:Int),a,b,c,d,(e9:Int),oz,oz,.string ⟨#[]⟩] rfl rfl _ _ HRE.out (by kernel_rfl) rfl (by kernel_rfl) ?_))
 have hrf:=YK _ (x0+1) _ #[(3:Int),a,b,c,d,(e9:Int),oz,oz,.string ⟨#[]⟩] _ _ HRE.out;refine YT (YC rfl _ _ (x0+1) 31 _ (0,0) _ rfl hrf underlying31 rfl (by kernel_rfl)) rfl ?_;refine ⟨rfl,?_⟩;rw [HX0.out];exact ⟨hbf.os,hbf.tape,hbf.output,ZU hbf.size (Nat.le_of_eq (by simp [World.setRow])),fun k hk=>(setRow_other _ _ _ _ (by omega)).trans (hbf.block k hk)⟩
theorem CX (w:World) (K A Bb C D E Co Ro a b:Int) (k:Nat) (s:ByteArray) (hk1:((k:Int)==1)=false) (hk2:((k:Int)==2)=false) (hk3:((k:Int)==3)=false) (c d:Int) (pc pr m:Nat) (hpc:pc < 20) (hpr:pr < 20) (hm:(1+(pc:Int))*(1+(pr:Int))=(m:Int)) (hm4:m<=400) (Tt:ByteArray->Prop)
  (HK:Hid (∀ wx,QE 15 #[K,(8:Int)] wx (k:Int)))
  (HPa:Hid (∀ wx,QE 35 #[A,(-14400000:Int)] wx a))
  (HPb:Hid (∀ wx,QE 35 #[Bb,(-14400000:Int)] wx b))
  (HC:Hid (∀ wx,QE 35 #[C,(1:Int)] wx c))
  (HDd:Hid (∀ wx,QE 35 #[D,(1:Int)] wx d))
  (HCo:Hid (∀ wx,QE 15 #[Co,(20:Int)] wx (pc:Int)))
  (HRo:Hid (∀ wx,QE 15 #[Ro,(20:Int)] wx (pr:Int)))
  (HIm:Hid (∀ wx,CP 76 #[s,(m:Int)] wx fun e w'=>∃ t,e=.returned (.string t)/\Tt t/\Below wx wx w')):
  CP 32 #[.agg #[K,A,Bb,C,D,E,Co,Ro,s]] w fun e w'=>∃ t,e=.returned (.agg #[(4:Int),a,b,c,d,oz,(1+(pc:Int):Int),(1+(pr:Int):Int),.string t])/\Tt t/\Below w w w':=by
 go_enter func32,ntmps32
 go_wp2_with fail
 obtain ⟨w0,hw0⟩:∃ w0,(w.alloc (Obj.cells #[Value.int IntKind.i64 K,Value.int IntKind.i64 A,Value.int IntKind.i64 Bb,Value.int IntKind.i64 C,Value.int IntKind.i64 D,Value.int IntKind.i64 E,Value.int IntKind.i64 Co,Value.int IntKind.i64 Ro,Value.string s] 76)).alloc (Obj.cells #[Value.int IntKind.i64 0,Value.int IntKind.i64 0,Value.int IntKind.i64 0,Value.int IntKind.i64 0,Value.int IntKind.i64 0,Value.int IntKind.i64 0,Value.int IntKind.i64 0,Value.int IntKind.i64 0,Value.string ⟨#[]⟩] 31)=w0:=⟨_,rfl⟩;have hb0:Below w w w0:=by rw [<-hw0];exact ((ZT _ w).alloc (ZW _) _).alloc (by simp) _
 have HA:Hid (∀ w1,af w0 w1->∀ i u,([.int .i64 K,.int .i64 A,.int .i64 Bb,.int .i64 C,.int .i64 D,.int .i64 E,.int .i64 Co,.int .i64 Ro,.string s]:List Value)[i]? =some u->w1.cell? (zq w i)=some u):=by
  intro w1 hG i u hu;rw [<-hw0] at hG;refine ((aS.thing _ _ _).grow ((aS.thing _ _ _).grow (aS.alloc (B:=0) (vs:=[.int .i64 K,.int .i64 A,.int .i64 Bb,.int .i64 C,.int .i64 D,.int .i64 E,.int .i64 Co,.int .i64 Ro,.string s]) (w:=w) (t:=76) (YO _)) ((ZT _ _).alloc (ZW _) _)) hG).at i u hu
 have hres:w0.heap[w.heap.size+1]? =some (.cells #[oz,oz,oz,oz,oz,oz,oz,oz,.string ⟨#[]⟩] 31 (0,0)):=by rw [<-hw0];exact Yz _ _ _
 have hsz0:w.heap.size+1 < w0.heap.size:=(ZG.1 hres).1;have HRS:=ai hres;rw [hw0];clear hw0 hres;obtain ⟨x0,hx0⟩:∃ x0,w.heap.size=x0:=⟨_,rfl⟩;rw [hx0] at HA HRS hsz0 hb0 ⊢;have HX0:=ai hx0;clear hx0;refine ap 11 _ (Ek w0.heap.size 10 31 #[oz,oz,oz,oz,oz,oz,oz,oz,.string ⟨#[]⟩] [.pointer (some ⟨x0,0,none⟩),.int .i64 K,.int .i64 (k:Int),.pointer (some ⟨x0,1,none⟩),.int .i64 A,.int .i64 a,.pointer (some ⟨x0,2,none⟩),.int .i64 Bb,.int .i64 b,.agg #[(k:Int),a,b,oz,oz,oz,oz,oz,.string ⟨#[]⟩],undef]) (by kernel_rfl) rfl (by kernel_rfl) nO ?_;simp only [TD];refine ⟨fun w1 hG hd=>?_,fun v0=>?_⟩
 ·clear hd;go_wp2;exact RG
 simp only [TN];refine ⟨fun w1 hG hd=>?_,fun v1=>?_⟩
 ·have d0:v0=.pointer (some ⟨x0,0,none⟩):=hd ⟨0,.data⟩ (by simp) rfl;clear hd;subst d0;have cc:=HA.out w1 hG 0 _ rfl;go_wp2;exact RG
 simp only [TN];refine ⟨fun w1 hG hd=>?_,fun v2=>?_⟩
 ·have d1:v1=.int .i64 K:=hd ⟨1,.data⟩ (by simp) rfl;clear hd;subst d1;have HX:=ai (HK.out w1);go_wp2_with fail
  refine HX.out.mono ?_;rintro e w2 ⟨rfl,rfl⟩;go_wp2;exact RG
 simp only [TN];refine ⟨fun w1 hG hd=>?_,fun v3=>?_⟩
 ·clear hd;go_wp2;exact RG
 simp only [TN];refine ⟨fun w1 hG hd=>?_,fun v4=>?_⟩
 ·have d3:v3=.pointer (some ⟨x0,1,none⟩):=hd ⟨3,.data⟩ (by simp) rfl;clear hd;subst d3;have cc:=HA.out w1 hG 1 _ rfl;go_wp2;exact RG
 simp only [TN];refine ⟨fun w1 hG hd=>?_,fun v5=>?_⟩
 ·have d4:v4=.int .i64 A:=hd ⟨4,.data⟩ (by simp) rfl;clear hd;subst d4;have HX:=ai (HPa.out w1);go_wp2_with fail
  refine HX.out.mono ?_;rintro e w2 ⟨rfl,rfl⟩;go_wp2;exact RG
 simp only [TN];refine ⟨fun w1 hG hd=>?_,fun v6=>?_⟩
 ·clear hd;go_wp2;exact RG
 simp only [TN];refine ⟨fun w1 hG hd=>?_,fun v7=>?_⟩
 ·have d6:v6=.pointer (some ⟨x0,2,none⟩):=hd ⟨6,.data⟩ (by simp) rfl;clear hd;subst d6;have cc:=HA.out w1 hG 2 _ rfl;go_wp2;exact RG
 simp only [TN];refine ⟨fun w1 hG hd=>?_,fun v8=>?_⟩
 ·have d7:v7=.int .i64 Bb:=hd ⟨7,.data⟩ (by simp) rfl;clear hd;subst d7;have HX:=ai (HPb.out w1);go_wp2_with fail
  refine HX.out.mono ?_;rintro e w2 ⟨rfl,rfl⟩;go_wp2;exact RG
 simp only [TN];refine ⟨fun w1 hG hd=>?_,fun v9=>?_⟩
 ·have d2:v2=.int .i64 (k:Int):=hd ⟨2,.data⟩ (by simp) rfl;have d5:v5=.int .i64 a:=hd ⟨5,.data⟩ (by simp) rfl;have d8:v8=.int .i64 b:=hd ⟨8,.data⟩ (by simp) rfl;clear hd;subst d2 d5 d8;go_wp2;exact RG
 simp only [TN];refine ⟨fun w1 hG hd=>?_,fun v10=>?_⟩
 ·clear hd;go_wp2;exact ⟨⟨_,rfl,hG.size,ZF _ _⟩,(ZT _ _).alloc (ZW _) _⟩
 simp only [TN];intro w2 hG hd;have d9:v9=.agg #[(k:Int),a,b,oz,oz,oz,oz,oz,.string ⟨#[]⟩]:=hd 9 (by omega);obtain ⟨g,d10,hzg,hbg⟩:∃ g,v10=.pointer (some ⟨g,0,none⟩)/\w0.heap.size<=g/\w2.heap[g]? =some (.cells #[oz,oz,oz,oz,oz,oz,oz,oz,.string ⟨#[]⟩] 31 (0,0)):=hd 10 (by omega);subst d9 d10;clear hd;have hrow:=YK w2 g _ #[(k:Int),a,b,oz,oz,oz,oz,oz,.string ⟨#[]⟩] _ _ hbg;refine Zj rfl 31 (.tmp 3) (.tmp 13) rfl g #[(k:Int),a,b,oz,oz,oz,oz,oz,.string ⟨#[]⟩] rfl rfl _ _ hbg (by kernel_rfl) rfl (by kernel_rfl) ?_;have hO:B6 w0 g [.int .i64 (k:Int),.int .i64 a,.int .i64 b,.int .i64 0,.int .i64 0,.int .i64 0,.int .i64 0,.int .i64 0,.string ⟨#[]⟩] (w2.setRow g #[(k:Int),a,b,oz,oz,oz,oz,oz,.string ⟨#[]⟩]):=⟨hrow,⟨hG.os,hG.tape,hG.output,ZU hG.size (Nat.le_of_eq (by simp [World.setRow])),fun k hk=>(setRow_other _ _ _ _ (by omega)).trans (hG.block k hk)⟩,hzg⟩;generalize w2.setRow g #[(k:Int),a,b,oz,oz,oz,oz,oz,.string ⟨#[]⟩]=w3 at hO ⊢;clear hG hbg hrow hzg HK HPa HPb;have act:True:=trivial;have q0:=hO.at 0 _ rfl;have f0:=hO.fz 0 (by omega);have hO:=hO.set 0 (.int .i64 4);have a1:=(hO.below.cell (p:=zq x0 3) (by show x0 < _;omega)).trans (HA.out w0 (af.refl _) 3 _ rfl);go_wp2_with fail
 refine (HC.out _).mono ?_;rintro e wz1 ⟨rfl,rfl⟩;have q1:=hO.at 3 _ rfl;have f1:=hO.fz 3 (by omega);have hO:=hO.set 3 (.int .i64 c);have a2:=(hO.below.cell (p:=zq x0 4) (by show x0 < _;omega)).trans (HA.out w0 (af.refl _) 4 _ rfl);go_wp2_with fail
 refine (HDd.out _).mono ?_;rintro e wz2 ⟨rfl,rfl⟩;have q2:=hO.at 4 _ rfl;have f2:=hO.fz 4 (by omega);have hO:=hO.set 4 (.int .i64 d);have a3:=(hO.below.cell (p:=zq x0 6) (by show x0 < _;omega)).trans (HA.out w0 (af.refl _) 6 _ rfl);go_wp2_with fail
 refine (HCo.out _).mono ?_;rintro e wz3 ⟨rfl,rfl⟩;have q3:=hO.at 6 _ rfl;have f3:=hO.fz 6 (by omega);have hO:=hO.set 6 (.int .i64 (1+(pc:Int)));have a4:=(hO.below.cell (p:=zq x0 7) (by show x0 < _;omega)).trans (HA.out w0 (af.refl _) 7 _ rfl);go_wp2_with fail
 refine (HRo.out _).mono ?_;rintro e wz4 ⟨rfl,rfl⟩;have q4:=hO.at 7 _ rfl;have f4:=hO.fz 7 (by omega);have hO:=hO.set 7 (.int .i64 (1+(pr:Int)));have a8:=(hO.below.cell (p:=zq x0 8) (by show x0 < _;omega)).trans (HA.out w0 (af.refl _) 8 _ rfl);have r6:=hO.at 6 _ rfl;have r7:=hO.at 7 _ rfl;go_wp2_with fail
 refine (HIm.out _).mono ?_;rintro e wz9 ⟨t,rfl,hTt,hbz⟩;have hO:=hO.grow hbz;have q9:=hO.at 8 _ rfl;have f9:=hO.fz 8 (by omega);have hO:=hO.set 8 (.string t);have HRW:=ai hO.row;have HRE:=ai ((hO.below.block (x0+1) (by omega)).trans HRS.out);have hbf:=hb0.trans (hO.below.mono (by omega));have hne:=hO.ge;simp only [List.set_cons_succ,List.set_cons_zero] at HRW;clear HRS HA hO act;go_wp2_with (first
  | (refine Zi rfl 31 (.tmp 3) rfl g rfl 31 _ (0,0) _ HRW.out underlying31 rfl (by kernel_rfl) ?_)
  | (refine Zj rfl 31 (.tmp 2) (.tmp 82) rfl (x0+1) #[(4:Int),a,b,c,d,oz,(1+(pc:Int):Int),(1+(pr:Int):Int),t] rfl rfl _ _ HRE.out (by kernel_rfl) rfl (by kernel_rfl) ?_))
 have hrf:=YK _ (x0+1) _ #[(4:Int),a,b,c,d,oz,(1+(pc:Int):Int),(1+(pr:Int):Int),t] _ _ HRE.out;refine YT (YC rfl _ _ (x0+1) 31 _ (0,0) _ rfl hrf underlying31 rfl (by kernel_rfl)) rfl ?_;refine ⟨t,rfl,hTt,?_⟩;rw [HX0.out];exact ⟨hbf.os,hbf.tape,hbf.output,ZU hbf.size (Nat.le_of_eq (by simp [World.setRow])),fun k hk=>(setRow_other _ _ _ _ (by omega)).trans (hbf.block k hk)⟩
theorem pD (o:bj) (ho:o.is) (hs:o.s.size<=400):o.text.length<=1500:=by
 obtain ⟨ha,hb,h⟩:=ho;have r:∀ {z lo hi:Int},bG z lo hi->-100000000<=lo->hi<=100000000->-100000000<=z/\z<=100000000:=fun h h1 h2=>⟨by have:=h.1;omega,by have:=h.2;omega⟩
 have l1:∀ x:Int,(-100000000<=x/\x<=100000000)->(aG [x]).length<=27:=fun x hx=>dL [x] (fun z hz=>by simp at hz;rw [hz];exact hx)
 have l2:∀ x y:Int,(-100000000<=x/\x<=100000000)->(-100000000<=y/\y<=100000000)->(aG [x,y]).length<=54:=fun x y hx hy=>dL [x,y] (fun z hz=>by simp at hz;rcases hz with rfl | rfl <;> assumption)
 have l3:∀ x y u:Int,(-100000000<=x/\x<=100000000)->(-100000000<=y/\y<=100000000)->(-100000000<=u/\u<=100000000)->(aG [x,y,u]).length<=81:=fun x y u hx hy hu=>dL [x,y,u] (fun z hz=>by simp at hz;rcases hz with rfl | rfl | rfl <;> assumption)
 have l4:∀ x y u v:Int,(-100000000<=x/\x<=100000000)->(-100000000<=y/\y<=100000000)->(-100000000<=u/\u<=100000000)->(-100000000<=v/\v<=100000000)->(aG [x,y,u,v]).length<=108:=fun x y u v hx hy hu hv=>dL [x,y,u,v] (fun z hz=>by simp at hz;rcases hz with rfl | rfl | rfl | rfl <;> assumption)
 have hA:=r ha (by omega) (by omega);have hB:=r hb (by omega) (by omega);rcases h with ⟨hk,hc,_,_,_,_,hz⟩ | ⟨hk,hc,hd,he,_⟩ | ⟨hk,hc,hd,he,_⟩ | ⟨hk,hc,hd,hco,hro,_,_⟩
 ·have q1:=l1 o.c (r hc (by omega) (by omega));have q2:=l2 o.a o.b hA hB;have q3:=gX o.s.data.toList;rw [aP] at q3;unfold bj.text;rw [ZN hk];simp only [ZY,ZX,ZR];omega
 ·have q1:=l1 o.e (r he (by omega) (by omega));have q2:=l2 o.a o.b hA hB;have q3:=l2 o.c o.d (r hc (by omega) (by omega)) (r hd (by omega) (by omega));unfold bj.text;rw [ZO (by omega),ZN hk];simp only [ZY,ZX,ZR];omega
 ·have q1:=l1 o.e (r he (by omega) (by omega));have q2:=l4 o.a o.b o.c o.d hA hB (r hc (by omega) (by omega)) (r hd (by omega) (by omega));unfold bj.text;rw [ZO (by omega),ZO (by omega),ZN hk];simp only [ZY,ZX,ZR];omega
 ·have q1:=l1 o.c (r hc (by omega) (by omega));have q2:=l3 o.d o.a o.b (r hd (by omega) (by omega)) hA hB;have q3:=ar o.co (by have:=hco.1;omega) (by have:=hco.2;omega);have q4:=ar o.ro (by have:=hro.1;omega) (by have:=hro.2;omega);unfold bj.text;rw [ZO (by omega),ZO (by omega),ZO (by omega)];simp only [ZY,ZX,ZR,aP];omega
theorem aw {w w':World} (h:af w w') {a:Addr} {v:Value} (hc:w.cell? a=some v):w'.cell? a=some v:=by
 rw [h.cell (ZD w a hc)];exact hc
def Dh (z:Int):Prop:=-9223372036854775808<=z/\z<=9223372036854775807
structure pE where
 (k a b c d e co ro:Int)
 (s:ByteArray)
def pE.fits (x:pE):Prop:=Dh x.k/\Dh x.a/\Dh x.b/\Dh x.c/\Dh x.d/\Dh x.e/\Dh x.co/\Dh x.ro/\x.s.size<=9223372036854775807
def pE.val (x:pE):Value:=.agg #[x.k,x.a,x.b,x.c,x.d,x.e,x.co,x.ro,x.s]
def zr (x:pE):bj:=
 if aM x.k 8=1 then ⟨1,au x.a (-14400000),au x.b (-14400000),au x.c 1,0,0,0,0,x.s.extract 0 100⟩
 else if aM x.k 8=2 then ⟨2,au x.a (-14400000),au x.b (-14400000),au x.c (-14400000),au x.d (-14400000),au x.e 0,0,0,⟨#[]⟩⟩
 else if aM x.k 8=3 then ⟨3,au x.a (-14400000),au x.b (-14400000),au x.c 0,au x.d 0,(aM x.e 1001:Int),0,0,⟨#[]⟩⟩
 else ⟨4,au x.a (-14400000),au x.b (-14400000),au x.c 1,au x.d 1,0,1+(aM x.co 20:Int),1+(aM x.ro 20:Int),CO x.s ((1+aM x.co 20)*(1+aM x.ro 20))⟩
theorem BC (x:pE):(zr x).is/\(zr x).s.size<=400:=by
 have pa:=bo x.a (-14400000) (by omega);have pb:=bo x.b (-14400000) (by omega);unfold zr;split
 ·have hsz:(x.s.extract 0 100).size<=100:=by simp;omega
  exact ⟨⟨pa,pb,.inl ⟨rfl,bo x.c 1 (by omega),rfl,rfl,rfl,rfl,hsz⟩⟩,by show (x.s.extract 0 100).size<=400;omega⟩
 split
 ·exact ⟨⟨pa,pb,.inr (.inl ⟨rfl,bo x.c _ (by omega),bo x.d _ (by omega),bo x.e 0 (by omega),rfl,rfl,rfl⟩)⟩,by show (⟨#[]⟩:ByteArray).size<=400;decide⟩
 split
 ·have h11:=eP x.e 1001 (by omega);exact ⟨⟨pa,pb,.inr (.inr (.inl ⟨rfl,bo x.c _ (by omega),bo x.d _ (by omega),⟨by show (0:Int)<=(aM x.e 1001:Int);omega,by show (aM x.e 1001:Int)<=1000;omega⟩,rfl,rfl,rfl⟩))⟩,by show (⟨#[]⟩:ByteArray).size<=400;decide⟩
 ·have c1:=eP x.co 20 (by omega);have c2:=eP x.ro 20 (by omega);have hm4:(1+aM x.co 20)*(1+aM x.ro 20)<=400:=XF (by omega:1+aM x.co 20<=20) (by omega:1+aM x.ro 20<=20);have ht:=CQ x.s ((1+aM x.co 20)*(1+aM x.ro 20));refine ⟨⟨pa,pb,.inr (.inr (.inr ⟨rfl,bo x.c _ (by omega),bo x.d _ (by omega),⟨by show (1:Int)<=1+_;omega,by show 1+_<=(64:Int);omega⟩,⟨by show (1:Int)<=1+_;omega,by show 1+_<=(64:Int);omega⟩,rfl,?_⟩))⟩,by rw [ht];exact hm4⟩;show ((CO x.s _).size:Int)=_
  rw [ht];simp [Int.natCast_mul,Int.natCast_add]
theorem Fu (w:World) (x:pE) (hx:x.fits):
  CP 32 #[x.val] w fun e w'=>e=.returned (zr x).val/\Below w w w':=by
 obtain ⟨h1,h2,h3,h4,h5,h6,h7,h8,h9⟩:=hx;have HK:=fun wx=>xE wx x.k 8 h1.1 h1.2 (by omega) (by omega)
 have HA:=fun wx=>lM wx x.a (-14400000) h2.1 h2.2 (by omega) (by omega)
 have HB:=fun wx=>lM wx x.b (-14400000) h3.1 h3.2 (by omega) (by omega)
 have PT:=fun (c lo:Int) (hc:Dh c) (h:-14400000<=lo) (h':lo<=14400000) wx=>lM wx c lo hc.1 hc.2 h h'
 unfold zr;obtain ⟨k,hk⟩:∃ k,aM x.k 8=k:=⟨_,rfl⟩;rw [hk] at HK ⊢;by_cases k1:k=1
 ·rw [ZN k1];exact Ee w x.k x.a x.b x.c x.d x.e x.co x.ro _ _ k x.s k1 (au x.c 1) (x.s.extract 0 100) HK HA HB (PT x.c 1 h4 (by omega) (by omega)) (fun wx=>qC wx x.s h9)
 rw [ZO k1];by_cases k2:k=2
 ·rw [ZN k2];exact Ec w x.k x.a x.b x.c x.d x.e x.co x.ro _ _ k x.s k2 (au x.c (-14400000)) (au x.d (-14400000)) (au x.e 0) HK HA HB (PT x.c _ h4 (by omega) (by omega)) (PT x.d _ h5 (by omega) (by omega)) (PT x.e 0 h6 (by omega) (by omega))
 rw [ZO k2];by_cases k3:k=3
 ·rw [ZN k3];exact Ed w x.k x.a x.b x.c x.d x.e x.co x.ro _ _ k x.s k3 (au x.c 0) (au x.d 0) (aM x.e 1001) HK HA HB (PT x.c 0 h4 (by omega) (by omega)) (PT x.d 0 h5 (by omega) (by omega)) (fun wx=>xE wx x.e 1001 h6.1 h6.2 (by omega) (by omega))
 ·rw [ZO k3];have c1:=eP x.co 20 (by omega);have c2:=eP x.ro 20 (by omega);have hm:(1+(aM x.co 20:Int))*(1+(aM x.ro 20:Int))=(((1+aM x.co 20)*(1+aM x.ro 20):Nat):Int):=by simp [Int.natCast_mul,Int.natCast_add]
  have hm4:(1+aM x.co 20)*(1+aM x.ro 20)<=400:=XF (by omega:1+aM x.co 20<=20) (by omega:1+aM x.ro 20<=20);have hm0:0 < (1+aM x.co 20)*(1+aM x.ro 20):=Nat.mul_pos (by omega) (by omega);refine (CX w x.k x.a x.b x.c x.d x.e x.co x.ro _ _ k x.s (by simp;omega) (by simp;omega) (by simp;omega) (au x.c 1) (au x.d 1) (aM x.co 20) (aM x.ro 20) _ c1 c2 hm hm4 (fun t=>t=CO x.s ((1+aM x.co 20)*(1+aM x.ro 20))) HK HA HB (PT x.c 1 h4 (by omega) (by omega)) (PT x.d 1 h5 (by omega) (by omega)) (fun wx=>xE wx x.co 20 h7.1 h7.2 (by omega) (by omega)) (fun wx=>xE wx x.ro 20 h8.1 h8.2 (by omega) (by omega)) (fun wx=>(AY wx x.s _ h9 hm4 hm0).mono (fun e w' ⟨a,b⟩=>⟨_,a,rfl,b⟩))).mono ?_;rintro e w' ⟨t,rfl,rfl,hb⟩;exact ⟨rfl,hb⟩
section
open Go.ChangeShapes Go.WideShapes Go.ChangeAt Go.RowKit
theorem Ka.cellsAct:Tryz.prog.cellsOf 76=9:=by kernel_rfl
theorem Ka.cellsInt:Tryz.prog.cellsOf 3=1:=by kernel_rfl
theorem Ka.cellsStr:Tryz.prog.cellsOf 9=1:=by kernel_rfl
def pE.cs (x:pE):List Value:=[.int .i64 x.k,.int .i64 x.a,.int .i64 x.b,.int .i64 x.c,.int .i64 x.d,.int .i64 x.e,.int .i64 x.co,.int .i64 x.ro,.string x.s]
section
variable {H:Type} {enc:TypeId×Value->H} {W:World}
theorem gF {n:Nat} {v:Value} {y:DataW H×List MemPlace} (h:DataW.trod enc prog W 0 (fun _=>true) true n 3 [v]=some y):∃ k:Int,v=.int .i64 k/\Dh k:=by
 obtain ⟨k,hk,_,hw⟩:=DataW.trod_int underlying3 h;refine ⟨k,by simpa using hk,?_⟩;have hm:IntKind.i64.min=-9223372036854775808:=by decide
 have hM:IntKind.i64.max=9223372036854775807:=by decide
 simp [Lit.wf,hm,hM] at hw;unfold Dh;omega
theorem Dw {n:Nat} {v:Value} {y:DataW H×List MemPlace} (h:DataW.trod enc prog W 0 (fun _=>true) true n 9 [v]=some y):∃ s:ByteArray,v=.string s/\s.size<=9223372036854775807:=by
 obtain ⟨s,hs,_,hz⟩:=DataW.trod_string underlying9 h;exact ⟨s,by simpa using hs,by unfold maxLen at hz;omega⟩
theorem Ev {n:Nat} {cs:List Value} {x:DataW H×List MemPlace} (h:DataW.trod enc prog W 0 (fun _=>true) true n 76 cs=some x):∃ st:pE,cs=st.cs/\st.fits:=by
 obtain ⟨xs,k,_,_,hl,hx,hf⟩:=DataW.trod_struct underlying76 h;rw [Ka.cellsAct] at hl;have hx9:xs.length=9:=hx
 match cs,hl,xs,hx9 with
 | [v0,v1,v2,v3,v4,v5,v6,v7,v8],_,[y0,y1,y2,y3,y4,y5,y6,y7,y8],_=>
  have f0:DataW.trod enc prog W 0 (fun _=>true) true k 3 (List.take (Tryz.prog.cellsOf 3) (List.drop 0 _))=some y0:=hf 0 _ rfl;rw [Ka.cellsInt] at f0;have f1:DataW.trod enc prog W 0 (fun _=>true) true k 3 (List.take (Tryz.prog.cellsOf 3) (List.drop 1 _))=some y1:=hf 1 _ rfl;rw [Ka.cellsInt] at f1;have f2:DataW.trod enc prog W 0 (fun _=>true) true k 3 (List.take (Tryz.prog.cellsOf 3) (List.drop 2 _))=some y2:=hf 2 _ rfl;rw [Ka.cellsInt] at f2;have f3:DataW.trod enc prog W 0 (fun _=>true) true k 3 (List.take (Tryz.prog.cellsOf 3) (List.drop 3 _))=some y3:=hf 3 _ rfl;rw [Ka.cellsInt] at f3;have f4:DataW.trod enc prog W 0 (fun _=>true) true k 3 (List.take (Tryz.prog.cellsOf 3) (List.drop 4 _))=some y4:=hf 4 _ rfl;rw [Ka.cellsInt] at f4;have f5:DataW.trod enc prog W 0 (fun _=>true) true k 3 (List.take (Tryz.prog.cellsOf 3) (List.drop 5 _))=some y5:=hf 5 _ rfl;rw [Ka.cellsInt] at f5;have f6:DataW.trod enc prog W 0 (fun _=>true) true k 3 (List.take (Tryz.prog.cellsOf 3) (List.drop 6 _))=some y6:=hf 6 _ rfl;rw [Ka.cellsInt] at f6;have f7:DataW.trod enc prog W 0 (fun _=>true) true k 3 (List.take (Tryz.prog.cellsOf 3) (List.drop 7 _))=some y7:=hf 7 _ rfl;rw [Ka.cellsInt] at f7;have f8:DataW.trod enc prog W 0 (fun _=>true) true k 9 (List.take (Tryz.prog.cellsOf 9) (List.drop 8 _))=some y8:=hf 8 _ rfl;rw [Ka.cellsStr] at f8;obtain ⟨k0,rfl,r0⟩:=gF f0;obtain ⟨k1,rfl,r1⟩:=gF f1;obtain ⟨k2,rfl,r2⟩:=gF f2;obtain ⟨k3,rfl,r3⟩:=gF f3;obtain ⟨k4,rfl,r4⟩:=gF f4;obtain ⟨k5,rfl,r5⟩:=gF f5;obtain ⟨k6,rfl,r6⟩:=gF f6;obtain ⟨k7,rfl,r7⟩:=gF f7;obtain ⟨s8,rfl,z8⟩:=Dw f8;exact ⟨⟨k0,k1,k2,k3,k4,k5,k6,k7,s8⟩,rfl,r0,r1,r2,r3,r4,r5,r6,r7,z8⟩
instance:Inhabited pE:=⟨⟨0,0,0,0,0,0,0,0,⟨#[]⟩⟩⟩
theorem C9 {a0:Option Addr} {len cap fuel:Nat} {x:DataW H×List MemPlace} (hf:DataW.trod enc prog W 0 (fun _=>true) true fuel 41 [.slice a0 len cap]=some x):
  ∃ (b off:Nat) (sc:Nat->pE),len<=maxLen/\(0 < len->a0=some ⟨b,off,none⟩)/\(∀ i,i < len->(sc i).fits)/\
   ∀ i,i < len->b < W.heap.size/\∀ (j:Nat) u,(sc i).cs[j]? =some u->W.cell? (zq b (off+i*9+j))=some u:=by
 rcases Go.Deep.open_slice underlying41 hf with ⟨hcs,_⟩ | ⟨a,len',cap',m,n,D,Pl,hcs,_,hl,hm,hmm,_,hx⟩
 ·simp at hcs;obtain ⟨rfl,rfl,rfl⟩:=hcs;exact ⟨0,0,fun _=>default,YO _,fun h=>absurd h (by omega),fun i h=>absurd h (by omega),fun i h=>absurd h (by omega)⟩
 ·simp at hcs;obtain ⟨rfl,rfl,rfl⟩:=hcs;simp only [if_true] at hmm;obtain ⟨b,off,spot⟩:=a;have each:∀ i,i < len->∃ st:pE,st.fits/\∀ (j:Nat) u,st.cs[j]? =some u->W.cell? ((⟨b,off,spot⟩:Addr).add (i*9+j))=some u:=by
   intro i hi;obtain ⟨cs',h1,h2⟩:=hx i (by omega);rw [Ka.cellsAct] at h1;obtain ⟨_,hlen,hcell⟩:=World.cells?_some h1;obtain ⟨st,rfl,o1⟩:=Ev h2;have hc:∀ (j:Nat) u,st.cs[j]? =some u->W.cell? ((⟨b,off,spot⟩:Addr).add (i*9+j))=some u:=by
    intro j u hj;have hjl:j < 9:=by
     have:=(Zx.1 hj).1;omega
    have:=hcell j hjl;rw [Go.Deep.add_add] at this;rw [this,hj]
   exact ⟨st,o1,hc⟩
  obtain ⟨sc,hsc⟩:=Go.Deep.choose_lt each;have hsp:0 < len->spot=none:=fun h0=>by
   have hk:(sc 0).cs[0]? =some (.int .i64 (sc 0).k):=by cases sc 0;rfl
   simpa [Addr.add] using World.cell?_spot ((hsc 0 h0).2 0 _ hk)
  refine ⟨b,off,sc,by omega,fun h0=>?_,fun i hi=>(hsc i hi).1,fun i hi=>?_⟩
  ·rw [hsp h0]
  ·obtain ⟨_,hc⟩:=hsc i hi;have hs:=hsp (by omega);subst hs;have hadd:∀ k,(⟨b,off,none⟩:Addr).add k=⟨b,off+k,none⟩:=fun k=>by unfold Addr.add;split <;> simp_all
   have h0:(sc i).cs[0]? =some (.int .i64 (sc i).k):=by cases sc i;rfl
   refine ⟨?_,fun j u hj=>?_⟩
   ·have:=hc 0 _ h0;rw [hadd] at this;exact ZD W ⟨b,_,none⟩ this
   ·have:=hc j u hj;rw [hadd, <-YS] at this;exact this
end
end
theorem DY (w:World) (q:Nat):af w (w.drewN q):=⟨rfl,rfl,rfl,ZW _,fun _ _=>rfl⟩
theorem xD (w:World) (y Wb c fl:Nat) (hc:c<=1000000000) (hfl:fl<=5) (B:Nat) (vs:List Value) (S:Bl) (hC:aS B y vs w S) (h0:vs[0]? =some (.pointer (some ⟨Wb,0,none⟩))) (h6:vs[6]? =some (.int .i64 (fl:Int))) (h7:vs[7]? =some (.int .i64 (c:Int))) (Z:World->Prop)
  (HN:Hid (∀ w9,af (w.setCell (zq y 7) ((c:Int)+1:Int)) w9->Z w9))
  (HF:Hid (∀ w9,af (w.setCell (zq y 7) ((c:Int)+1:Int)) w9->CP 38 #[zp Wb] w9 fun e w'=>e=.returned (0:Int)/\Z w')):
  CP 52 #[zp y] w fun e w'=>e=.returned true/\Z w':=by
 have c6:=hC.at 6 _ h6;have c7:=hC.at 7 _ h7;have f7:=hC.fz 7;have hC2:=(hC.set 7 (.int .i64 ((c:Int)+1)) (Zx.1 h7).1).1;have k0:=hC2.at 0 _ (by rw [List.getElem?_set_ne (by decide)];exact h0);have k6:=hC2.at 6 _ (by rw [List.getElem?_set_ne (by decide)];exact h6);have k7:=hC2.at 7 _ (by rw [List.getElem?_set_self (Zx.1 h7).1]);clear hC h6 h7 hC2 h0;go_enter func52,ntmps52
 go_wp2_with fail
 clear c6 c7 f7;generalize w.setCell (zq y 7) ((c:Int)+1:Int)=w1 at HN HF k0 k6 k7 ⊢;by_cases hf0:fl=0
 ·subst hf0;have d1:decide (((0:Nat):Int)=0)=true:=by simp
  go_quiet (fail)
  go_wp2;go_ret;exact ⟨rfl,HN.out _ (DY _ _)⟩
 ·have d1:decide ((fl:Int)=0)=false:=by simp;omega
  have hm0:(fl:Int)≠0:=by omega
  go_quiet (fail)
  go_wp2_with fail
  ·go_ret;exact ⟨rfl,HN.out _ (DY _ _)⟩
  ·refine (HF.out _ (DY _ _)).mono ?_;rintro e w2 ⟨rfl,hz⟩;have HZ:=ai hz;clear hz;go_wp2;go_ret;exact ⟨rfl,HZ.out⟩
theorem pm (w:World) (lim sp fl:Int):
  CP 21 #[lim,sp,fl] w fun e w'=>e=.returned (zp (w.heap.size+5))/\w'=(fU w lim).alloc (.cells #[zp (w.heap.size+4),.string ⟨#[]⟩,.slice none 0 0,.slice none 0 0,false,sp,fl,oz] 64):=by
 have HN:=ai (Fz w lim);have HZ:Hid ((fU w lim).heap.size=w.heap.size+5):=by show _=_;simp [fU]
 generalize fU w lim=u at HN HZ ⊢;go_enter func21,ntmps21
 go_wp2_with fail
 refine HN.out.mono ?_;rintro e w1 ⟨rfl,rfl⟩;go_wp2;go_ret;exact ⟨by rw [HZ.out];rfl,rfl⟩
theorem yN (w:World) (y Wb sp:Nat) (K A X C D E Co Ro:Int) (t:ByteArray) (ht:t.size<=9223372036854775807) (hsp:0 < sp) (hsp2:sp<=1000) (J:ByteArray->World->Prop) (Z:World->Prop)
  (c0:w.cell? y=zp Wb) (hy:y < w.heap.size)
  (H0:Hid (∀ wa,af w wa->CP 40 #[zp Wb,.agg #[K,A,X,C,D,E,Co,Ro,.string ⟨#[]⟩]] wa fun e w'=>e=.returned (0:Int)/\J t w'))
  (HC:Hid (∀ t' wr,J t' wr->t'.size<=t.size/\wr.cell? y=some (.pointer (some ⟨Wb,0,none⟩))/\wr.cell? (zq y 5)=some (.int .i64 (sp:Int))))
  (HD:Hid (∀ t' wr w9,J t' wr->0 < t'.size->af wr w9->CP 41 #[zp Wb,.string (t'.extract 0 (min sp t'.size))] w9 fun e w1=>e=.returned (0:Int)/\CP 52 #[zp y] w1 fun e w2=>e=.returned true/\J (t'.extract (min sp t'.size) t'.size) w2))
  (HE:Hid (∀ t' wr,J t' wr->t'.size=0->Z wr)):
  CP 149 #[zp y,.agg #[K,A,X,C,D,E,Co,Ro,t]] w fun e w'=>e=.returned true/\Z w':=by
 have gw:af w (w.alloc (.cells #[K,A,X,C,D,E,Co,Ro,.string ⟨#[]⟩] 31)):=(ZT _ w).alloc (ZW _) _;have rw0:(w.alloc (.cells #[K,A,X,C,D,E,Co,Ro,.string ⟨#[]⟩] 31)).heap[w.heap.size]? =some (.cells #[K,A,X,C,D,E,Co,Ro,.string ⟨#[]⟩] 31 (0,0)):=ZF w _;have c0a:(w.alloc (.cells #[K,A,X,C,D,E,Co,Ro,.string ⟨#[]⟩] 31)).cell? y=zp Wb:=(ZQ (a:=y) (Zf w _ y hy)).trans c0;have HR:=ai rw0;have GW:=ai gw;have C0:=ai c0a;clear rw0 gw c0a c0 hy;go_enter func149,ntmps149
 go_wp2_with fail
 generalize w.alloc (.cells #[K,A,X,C,D,E,Co,Ro,.string ⟨#[]⟩] 31)=wa at HR GW C0 ⊢;generalize w.heap.size=b0 at HR ⊢;refine ap 5 _ (ag [zp y,zp y,zp y,zp Wb,.agg #[K,A,X,C,D,E,Co,Ro,.string ⟨#[]⟩]]) (by kernel_rfl) rfl (by kernel_rfl) aq ?_;simp only [TD];refine ⟨fun w1 hG hd=>?_,fun v0=>?_⟩
 ·clear hd;go_wp2;exact RG
 simp only [TN];refine ⟨fun w1 hG hd=>?_,fun v1=>?_⟩
 ·have d0:v0=.pointer (some ⟨y,0,none⟩):=hd ⟨0,.data⟩ (by simp) rfl;clear hd;subst d0;go_wp2;exact RG
 simp only [TN];refine ⟨fun w1 hG hd=>?_,fun v2=>?_⟩
 ·have d1:v1=.pointer (some ⟨y,0,none⟩):=hd ⟨1,.data⟩ (by simp) rfl;clear hd;subst d1;go_wp2;exact RG
 simp only [TN];refine ⟨fun w1 hG hd=>?_,fun v3=>?_⟩
 ·have d2:v2=.pointer (some ⟨y,0,none⟩):=hd ⟨2,.data⟩ (by simp) rfl;clear hd;subst d2;have c:w1.cell? y=zp Wb:=(hG.cell (ZD wa _ C0.out)).trans C0.out;go_wp2;exact RG
 simp only [TN];refine ⟨fun w1 hG hd=>?_,fun v4=>?_⟩
 ·clear hd;refine Zi rfl 31 (.tmp 3) rfl b0 rfl 31 _ (0,0) _ ((hG.block b0 (ZG.1 HR.out).1).trans HR.out) underlying31 rfl (by kernel_rfl) ?_;refine YN ?_;exact ⟨rfl,rfl,rfl,af.refl _⟩
 simp only [TN];intro w9 hG hd;have d3:v3=.pointer (some ⟨Wb,0,none⟩):=hd 3 (by omega);have d4:v4=.agg #[K,A,X,C,D,E,Co,Ro,.string ⟨#[]⟩]:=hd 4 (by omega);subst d3 d4;clear hd;have HX:=ai (H0.out w9 (af.trans GW.out hG));clear H0 GW HR C0 hG;go_wp2_with fail
 refine HX.out.mono ?_;rintro e w2 ⟨rfl,hJ⟩;have HJ:=ai hJ;clear hJ HX;go_wp2_with fail
 go_loopg [5,6,7,8] (t.size+1) (fun gg vs ve _ _ wr=>∃ t':ByteArray,t'.size < gg/\vs=.string t'/\ve=.int .i64 0/\Hid (J t' wr))
 case atStart=>exact ⟨t,by omega,rfl,rfl,HJ⟩
 case round=>
  obtain ⟨t',hlt,rfl,rfl,hJ⟩:=hrel;clear HJ;obtain ⟨hle,k0,k5⟩:=HC.out t' wr hJ.out;by_cases h0:0 < t'.size
  ·have d1:decide ((0:Int) < (t'.size:Int))=true:=by simp;omega
   have HDx:=ai (fun w9 hg=>HD.out t' wr w9 hJ.out h0 hg);clear HC HD HE hJ;by_cases hs:t'.size < sp
   ·have d2:decide ((t'.size:Int) < (sp:Int))=true:=by simp;omega
    obtain ⟨n,hn⟩:∃ n,t'.size=n:=⟨_,rfl⟩;rw [show min sp t'.size=n by omega] at HDx;go_wp2_with fail
    have hnt:n<=t'.size:=by omega
    have hn0:0 < n:=by omega
    clear hn;have HH:=ai (show t'.size < gk/\0 < t'.size/\n<=t'.size/\0 < n by omega);have hns:n<=t'.size:=HH.out.2.2.1;clear d1 d2 hlt hle hs h0 hsp hsp2 ht hnt hn0 k5;refine bO 7 (by kernel_rfl) (by kernel_rfl) ?_;simp only [TD]
    repeat (go_big_quiet_step (fail))
    refine Ym ?_;intro _ hw';obtain ⟨nq2,hw''⟩:=hw';subst hw'';have HX:=ai (HDx.out _ (ay wr nq2));clear HDx k0 hns;go_wp2_with fail
    refine HX.out.mono ?_;rintro e w3 ⟨rfl,h3⟩;have H3:=ai h3;clear h3 HX;have hns:n<=t'.size:=HH.out.2.2.1;go_wp2_with fail
    refine H3.out.mono ?_;rintro e w4 ⟨rfl,h4⟩;have H4:=ai h4;clear h4 H3;go_wp2;go_roundg (gk - 1)
    case measure=>have:=HH.out;omega
    case rel=>exact ⟨t'.extract n t'.size,by have:=HH.out;rw [ByteArray.size_extract];omega,rfl,rfl,H4⟩
   ·have d2:decide ((t'.size:Int) < (sp:Int))=false:=by simp;omega
    rw [Yr (by omega:sp<=t'.size)] at HDx;go_wp2_with fail
    have HH:=ai (show t'.size < gk/\0 < t'.size/\sp<=t'.size/\0 < sp by omega);have hns:sp<=t'.size:=HH.out.2.2.1;clear d1 d2 hlt hle hs h0 hsp hsp2 ht k5;refine bO 7 (by kernel_rfl) (by kernel_rfl) ?_;simp only [TD]
    repeat (go_big_quiet_step (fail))
    refine Ym ?_;intro _ hw';obtain ⟨nq2,hw''⟩:=hw';subst hw'';have HX:=ai (HDx.out _ (ay wr nq2));clear HDx k0 hns;go_wp2_with fail
    refine HX.out.mono ?_;rintro e w3 ⟨rfl,h3⟩;have H3:=ai h3;clear h3 HX;have hns:sp<=t'.size:=HH.out.2.2.1;go_wp2_with fail
    refine H3.out.mono ?_;rintro e w4 ⟨rfl,h4⟩;have H4:=ai h4;clear h4 H3;go_wp2;go_roundg (gk - 1)
    case measure=>have:=HH.out;omega
    case rel=>exact ⟨t'.extract sp t'.size,by have:=HH.out;rw [ByteArray.size_extract];omega,rfl,rfl,H4⟩
  ·have d1:decide ((0:Int) < (t'.size:Int))=false:=Zo (by omega);have HZ:=ai (HE.out t' wr hJ.out (by omega));clear HC HD HE hJ;go_wp2
   first | exact ⟨rfl,HZ.out⟩ | (go_ret;exact ⟨rfl,HZ.out⟩)
def o5 (Wb:Nat) (d:St) (vp vm:Value) (sp fl c:Nat):List Value:=[.pointer (some ⟨Wb,0,none⟩),.string d.title,vp,vm,.bool d.op,.int .i64 (sp:Int),.int .i64 (fl:Int),.int .i64 (c:Int)]
def JS (B jb Wb:Nat) (d:St) (sp fl c:Nat):As:=fun w S=>∃ ps vp vm,ps.map (·.2)=d.pages/\ah (aS B jb (o5 Wb d vp vm sp fl c)) (lQ B ps d.marks vp vm) w S
theorem JS.thing (B jb Wb:Nat) (d:St) (sp fl c:Nat):aJ B (JS B jb Wb d sp fl c) where
 keep:=by
  rintro w w' S ⟨ps,vp,vm,hp,h⟩ hk hz;exact ⟨ps,vp,vm,hp,(ah.thing (aS.thing _ _ _) (lQ.thing _ _ _ _ _)).keep h hk hz⟩
 lt:=by
  rintro w S k ⟨ps,vp,vm,hp,h⟩ hk;exact (ah.thing (aS.thing _ _ _) (lQ.thing _ _ _ _ _)).lt h hk
 ge:=by
  rintro w S k ⟨ps,vp,vm,hp,h⟩ hk;exact (ah.thing (aS.thing _ _ _) (lQ.thing _ _ _ _ _)).ge h hk
def JD (n:Wn) (jb:Nat) (s d:St) (sp fl c:Nat):As:=ah (JS n.B jb n.Wb d sp fl c) (WD n s)
theorem JD.thing (n:Wn) (jb:Nat) (s d:St) (sp fl c:Nat):aJ n.B (JD n jb s d sp fl c):=ah.thing (JS.thing _ _ _ _ _ _ _) (WD.thing _ _)
def GF (n:Wn) (jb:Nat) (w:World) (S:Bl) (r:St×Nat) (sp fl:Nat) (e:Ending) (w':World):Prop:=e=.returned true/\∃ S',JD n jb r.1 r.1 sp fl r.2 w' S'/\Mv S w S' w'
theorem JS.like {B jb Wb:Nat} {d d':St} {sp fl c:Nat} {w:World} {S:Bl} (h:JS B jb Wb d sp fl c w S) (h1:d'.title=d.title) (h2:d'.pages=d.pages) (h3:d'.marks=d.marks) (h4:d'.op=d.op):JS B jb Wb d' sp fl c w S:=by
 obtain ⟨ps,vp,vm,hp,hS⟩:=h;refine ⟨ps,vp,vm,by rw [hp,h2],?_⟩;rw [o5,h1,h3,h4];exact hS
theorem jw {B jb:Nat} {vs:List Value} {R Q:As} (hR:aJ B R) (hQ:aJ B Q) {w:World} {S:Bl} (h:ah (ah (aS B jb vs) R) Q w S) (i:Nat) (v:Value) (hi:i < vs.length):∃ S',ah (ah (aS B jb (vs.set i v)) R) Q (w.setCell (zq jb i) v) S'/\Mv S w S' (w.setCell (zq jb i) v):=by
 obtain ⟨SJ,hJ,_,backJ⟩:=ah.fst hQ h;obtain ⟨SC,hC,_,backC⟩:=ah.fst hR hJ;obtain ⟨k,m⟩:=hC.set i v hi;obtain ⟨S1,h1,m1⟩:=backC _ _ _ k m;exact backJ _ _ _ h1 m1
theorem BD {B jb:Nat} {vs:List Value} {ps:List (Value×(Int×Int×List bj))} {ms:List (ByteArray×Nat)} {ad:Option Addr} {cap:Nat} {vm:Value} {Q:As} (hQ:aJ B Q) {w:World} {S:Bl} (h:ah (ah (aS B jb vs) (lQ B ps ms (.slice ad ps.length cap) vm)) Q w S) {v:Value} {w7:World} {W H:Int} (hg:w.grownBy w7 (Value.slice ad ps.length cap).ownBlock) (hA:gq w (Value.slice ad ps.length cap).ownBlock B 100 3 (ps.length+1) (iy ps++[.int .i64 W,.int .i64 H,.slice none 0 0]) v w7):
  ∃ S',ah (ah (aS B jb vs) (lQ B ((.slice none 0 0,(W,H,[]))::ps) ms v vm)) Q w7 S'/\Mv S w S' w7:=by
 obtain ⟨SJ,hJ,_,backJ⟩:=ah.fst hQ h;obtain ⟨Sb,hr,_,back⟩:=ah.snd (aS.thing _ _ _) hJ;obtain ⟨S1,hm,hsub,back1⟩:=ah.fst (ah.thing (dh.thing _ _) (aW.thing _ _ _ _ _ _)) hr;obtain ⟨kr,km⟩:=hA.moved hg;obtain ⟨Sr,hr',mr⟩:=back1 (aW B 100 3 v (((Value.slice none 0 0,(W,H,[])):Value×(Int×Int×List bj))::ps).length (iy ((Value.slice none 0 0,(W,H,[]))::ps))) w7 _ kr (by rw [hm.1];exact km);obtain ⟨So,ho,_,backo⟩:=ah.mid (aW.thing _ _ _ _ _ _) (aW.thing _ _ _ _ _ _) hr';obtain ⟨So',ho',mo⟩:=xu ho;obtain ⟨Sn,hn,mn⟩:=backo _ _ _ ho' mo;obtain ⟨S7,h7,m7⟩:=back _ _ _ hn (mr.trans mn);exact backJ _ _ _ h7 m7
theorem yk {B jb:Nat} {vs:List Value} {ps:List (Value×(Int×Int×List bj))} {ms:List (ByteArray×Nat)} {ad:Option Addr} {cap:Nat} {vp:Value} {Q:As} (hQ:aJ B Q) {w:World} {S:Bl} (h:ah (ah (aS B jb vs) (lQ B ps ms vp (.slice ad ms.length cap))) Q w S) {v:Value} {w7:World} {t:ByteArray} {p:Nat} (hg:w.grownBy w7 (Value.slice ad ms.length cap).ownBlock) (hA:gq w (Value.slice ad ms.length cap).ownBlock B 98 2 (ms.length+1) (iz ms++[.string t,.int .i64 (p:Int)]) v w7):
  ∃ S',ah (ah (aS B jb vs) (lQ B ps (ms++[(t,p)]) vp v)) Q w7 S'/\Mv S w S' w7:=by
 obtain ⟨SJ,hJ,_,backJ⟩:=ah.fst hQ h;obtain ⟨Sb,hr,_,back⟩:=ah.snd (aS.thing _ _ _) hJ;obtain ⟨S1,hm,hsub,back1⟩:=ah.third (aW.thing _ _ _ _ _ _) (dh.thing _ _) hr;obtain ⟨kr,km⟩:=hA.moved hg;obtain ⟨Sr,hr',mr⟩:=back1 (aW B 98 2 v (ms++[(t,p)]).length (iz (ms++[(t,p)]))) w7 _ (by rw [nf,ZY];exact kr) (by rw [hm.1];exact km);obtain ⟨S7,h7,m7⟩:=back _ _ _ hr' mr;exact backJ _ _ _ h7 m7
theorem oh {n:Wn} {s:St} {J:As} (hJ:aJ n.B J) {w:World} {S:Bl} (h:ah J (WD n s) w S) {f:FuncId} {args:Array Value} {r:Int×St} (H:∀ SW,WD n s w SW->CP f args w (dp n w SW r)):
  CP f args w fun e w'=>e=.returned (.int .i64 r.1)/\∃ S',ah J (WD n r.2) w' S'/\Mv S w S' w':=by
 obtain ⟨SW,hW,_,back⟩:=ah.snd hJ h;refine (H SW hW).mono ?_;rintro e w' ⟨rfl,S',hW',m⟩;exact ⟨rfl,back _ _ _ hW' m⟩
theorem JD.parts {n:Wn} {jb:Nat} {s d:St} {sp fl c:Nat} {w:World} {S:Bl} (h:JD n jb s d sp fl c w S):∃ ps vp vm SC,ps.map (·.2)=d.pages/\ah (ah (aS n.B jb (o5 n.Wb d vp vm sp fl c)) (lQ n.B ps d.marks vp vm)) (WD n s) w S/\aS n.B jb (o5 n.Wb d vp vm sp fl c) w SC:=by
 obtain ⟨S1,S2,⟨ps,vp,vm,hp,hS⟩,hW,hoff,rfl⟩:=h;obtain ⟨SC,hC,_,_⟩:=ah.fst (lQ.thing _ _ _ _ _) hS;exact ⟨ps,vp,vm,SC,hp,⟨S1,S2,hS,hW,hoff,rfl⟩,hC⟩
theorem JD.make {n:Wn} {jb:Nat} {s d:St} {sp fl c:Nat} {w:World} {S:Bl} {ps:List (Value×(Int×Int×List bj))} {vp vm:Value} (hp:ps.map (·.2)=d.pages) (h:ah (ah (aS n.B jb (o5 n.Wb d vp vm sp fl c)) (lQ n.B ps d.marks vp vm)) (WD n s) w S):JD n jb s d sp fl c w S:=by
 obtain ⟨S1,S2,hS,hW,hoff,rfl⟩:=h;exact ⟨S1,S2,⟨ps,vp,vm,hp,hS⟩,hW,hoff,rfl⟩
theorem JT (n:Wn) (jb:Nat) (s:St) (vs:List Value) (ps:List (Value×(Int×Int×List bj))) (ms:List (ByteArray×Nat)) (vp vm:Value):aJ n.B (ah (ah (aS n.B jb vs) (lQ n.B ps ms vp vm)) (WD n s)):=ah.thing (ah.thing (aS.thing _ _ _) (lQ.thing _ _ _ _ _)) (WD.thing n s)
theorem pR (n:Wn) (jb:Nat) (s d:St) (sp fl c:Nat) (w:World) (S:Bl) (hc:c<=1000000000) (hfl:fl<=5) (hlim:n.lim < 0) (hok:s.ok) (hcl:s.cl=false) (h:JD n jb s d sp fl c w S):
  CP 52 #[zp jb] w fun e w'=>e=.returned true/\∃ S',JD n jb s d sp fl (c+1) w' S'/\Mv S w S' w':=by
 obtain ⟨ps,vp,vm,SC,hp,hall,hC⟩:=h.parts;obtain ⟨S1,h1,m1⟩:=jw (lQ.thing _ _ _ _ _) (WD.thing _ _) hall 7 ((c:Int)+1:Int) (by simp [o5]);have e:(o5 n.Wb d vp vm sp fl c).set 7 (.int .i64 ((c:Int)+1))=o5 n.Wb d vp vm sp fl (c+1):=by simp [o5]
 rw [e] at h1;refine xD w jb n.Wb c fl hc hfl n.B _ SC hC rfl rfl rfl _ ?_ ?_
 ·intro w9 hg;exact ⟨S1,JD.make hp ((JT _ _ _ _ _ _ _ _).grow h1 hg),m1.trans (Mv.grow hg S1)⟩
 ·intro w9 hg;refine (oh (ah.thing (aS.thing _ _ _) (lQ.thing _ _ _ _ _)) ((JT _ _ _ _ _ _ _ _).grow h1 hg) (fun SW hW=>m_ n s w9 SW hlim hok hW)).mono ?_;rintro e w' ⟨rfl,S',h',m'⟩;have hf:s.flush=0:=by unfold St.flush;rw [hcl];rfl
  exact ⟨by rw [hf],S',JD.make hp h',(m1.trans (Mv.grow hg S1)).trans m'⟩
theorem CD (w:World) (B y Wb:Nat) (K A X C D E Co Ro:Int) (t:ByteArray) (vs:List Value) (S:Bl) (hC:aS B y vs w S) (HK:Hid (∀ wx,QE 15 #[K,(8:Int)] wx (6:Int))) (Z:Ending->World->Prop) (h0:vs[0]? =some (.pointer (some ⟨Wb,0,none⟩))) (h1:1 < vs.length) (t':ByteArray) (HT:Hid (∀ wx,QE 37 #[t,(100:Int)] wx t')) (HW:Hid (∀ wa w9,af w wa->af (wa.setCell (zq y 1) t') w9->CP 36 #[zp Wb,t'] w9 fun e w'=>e=.returned (0:Int)/\Z (.returned true) w')):
  CP 51 #[zp y,.agg #[K,A,X,C,D,E,Co,Ro,t]] w Z:=by
 go_enter func51,ntmps51
 go_wp2_with fail
 refine (HK.out _).mono ?_;rintro e w1 ⟨rfl,rfl⟩;clear HK;have hrow:(w.alloc (.cells #[K,A,X,C,D,E,Co,Ro,t] 76)).heap[w.heap.size]? =some (.cells #[K,A,X,C,D,E,Co,Ro,t] 76 (0,0)):=ZF w _;have hgw:af w (w.alloc (.cells #[K,A,X,C,D,E,Co,Ro,t] 76)):=(ZT _ w).alloc (ZW _) _;have hCa:=(aS.thing B y vs).grow hC hgw;have hyb:y < w.heap.size:=hC.2.2.1;have HRW:=ai hrow;have HGW:=ai hgw;generalize hwa:w.alloc (.cells #[K,A,X,C,D,E,Co,Ro,t] 76)=wa at HRW HGW hCa ⊢;clear hrow hgw hwa;generalize hb0:w.heap.size=b0 at HRW hyb ⊢;clear hb0;have c8:wa.cell? (zq b0 8)=t:=by rw [Zw _ b0 8 _ _ _ HRW.out];rfl
 have c0:=hCa.at 0 _ h0;have f1:=hCa.fz 1;obtain ⟨u1,hu1⟩:∃ u1,vs[1]? =some u1:=⟨_,ZM h1⟩;have c1:=hCa.at 1 _ hu1;have hCb:=(hCa.set 1 (.string t') h1).1;have k0:=hCb.at 0 _ (by rw [List.getElem?_set_ne (by decide)];exact h0);have k1:=hCb.at 1 _ (by rw [List.getElem?_set_self h1]);have HW2:=ai (fun w9 h=>HW.out wa w9 HGW.out h);clear hCa hCb hC hu1 HW;go_wp2_with fail
 refine (HT.out _).mono ?_;rintro e w1 ⟨rfl,rfl⟩;go_wp2_with fail
 refine ap 9 _ (ag [zp y,zp y,zp y,zp Wb,zp y,zp y,zq y 1,zq y 1,t']) (by kernel_rfl) rfl (by kernel_rfl) aq ?_;simp only [TD];refine ⟨fun w1 hG hd=>?_,fun v0=>?_⟩
 ·clear hd;go_wp2;exact RG
 simp only [TN];refine ⟨fun w1 hG hd=>?_,fun v1=>?_⟩
 ·have d0:v0=.pointer (some ⟨y,0,none⟩):=hd ⟨0,.data⟩ (by simp) rfl;clear hd;subst d0;go_wp2;exact RG
 simp only [TN];refine ⟨fun w1 hG hd=>?_,fun v2=>?_⟩
 ·have d1:v1=.pointer (some ⟨y,0,none⟩):=hd ⟨1,.data⟩ (by simp) rfl;clear hd;subst d1;go_wp2;exact RG
 simp only [TN];refine ⟨fun w1 hG hd=>?_,fun v3=>?_⟩
 ·have d2:v2=.pointer (some ⟨y,0,none⟩):=hd ⟨2,.data⟩ (by simp) rfl;clear hd;subst d2;have c:=aw hG k0;go_wp2;exact RG
 simp only [TN];refine ⟨fun w1 hG hd=>?_,fun v4=>?_⟩
 ·clear hd;go_wp2;exact RG
 simp only [TN];refine ⟨fun w1 hG hd=>?_,fun v5=>?_⟩
 ·have d4:v4=.pointer (some ⟨y,0,none⟩):=hd ⟨4,.data⟩ (by simp) rfl;clear hd;subst d4;go_wp2;exact RG
 simp only [TN];refine ⟨fun w1 hG hd=>?_,fun v6=>?_⟩
 ·have d5:v5=.pointer (some ⟨y,0,none⟩):=hd ⟨5,.data⟩ (by simp) rfl;clear hd;subst d5;go_wp2;exact RG
 simp only [TN];refine ⟨fun w1 hG hd=>?_,fun v7=>?_⟩
 ·have d6:v6=.pointer (some ⟨y,1,none⟩):=hd ⟨6,.data⟩ (by simp) rfl;clear hd;subst d6;go_wp2;exact RG
 simp only [TN];refine ⟨fun w1 hG hd=>?_,fun v8=>?_⟩
 ·have d7:v7=.pointer (some ⟨y,1,none⟩):=hd ⟨7,.data⟩ (by simp) rfl;clear hd;subst d7;have c:=aw hG k1;go_wp2;exact RG
 simp only [TN];intro w9 hG hd;have d3:v3=.pointer (some ⟨Wb,0,none⟩):=hd 3 (by omega);have d8:v8=.string t':=hd 8 (by omega);subst d3 d8;clear hd;go_wp2_with fail
 refine (HW2.out w9 hG).mono ?_;rintro e w10 ⟨rfl,hz⟩;have HZZ:=ai hz;clear hz;go_wp2
 first | exact HZZ.out | (go_ret;exact HZZ.out)
theorem Cx (w:World) (B y Wb:Nat) (K A X C D E Co Ro:Int) (t:ByteArray) (vs:List Value) (S:Bl) (hC:aS B y vs w S) (HK:Hid (∀ wx,QE 15 #[K,(8:Int)] wx (7:Int))) (Z:Ending->World->Prop) (h0:vs[0]? =some (.pointer (some ⟨Wb,0,none⟩))) (HW:Hid (∀ wa,af w wa->CP 38 #[zp Wb] wa fun e w'=>e=.returned (0:Int)/\Z (.returned true) w')):
  CP 51 #[zp y,.agg #[K,A,X,C,D,E,Co,Ro,t]] w Z:=by
 go_enter func51,ntmps51
 go_wp2_with fail
 refine (HK.out _).mono ?_;rintro e w1 ⟨rfl,rfl⟩;clear HK;have hrow:(w.alloc (.cells #[K,A,X,C,D,E,Co,Ro,t] 76)).heap[w.heap.size]? =some (.cells #[K,A,X,C,D,E,Co,Ro,t] 76 (0,0)):=ZF w _;have hgw:af w (w.alloc (.cells #[K,A,X,C,D,E,Co,Ro,t] 76)):=(ZT _ w).alloc (ZW _) _;have hCa:=(aS.thing B y vs).grow hC hgw;have hyb:y < w.heap.size:=hC.2.2.1;have HRW:=ai hrow;have HGW:=ai hgw;generalize hwa:w.alloc (.cells #[K,A,X,C,D,E,Co,Ro,t] 76)=wa at HRW HGW hCa ⊢;clear hrow hgw hwa;generalize hb0:w.heap.size=b0 at HRW hyb ⊢;clear hb0;have c0:=hCa.at 0 _ h0;have HW2:=ai (HW.out wa HGW.out);clear hCa hC HW;go_wp2_with fail
 refine HW2.out.mono ?_;rintro e w10 ⟨rfl,hz⟩;have HZZ:=ai hz;clear hz;go_wp2
 first | exact HZZ.out | (go_ret;exact HZZ.out)
theorem DG (w:World) (B y Wb:Nat) (K A X C D E Co Ro:Int) (t:ByteArray) (vs:List Value) (S:Bl) (hC:aS B y vs w S) (Z:Ending->World->Prop) (k:Nat) (HK:Hid (∀ wx,QE 15 #[K,(8:Int)] wx (k:Int))) (hk8:k < 8) (h6:((k:Int)==6)=false) (h7:((k:Int)==7)=false) (h50:((k:Int)==0)=false) (h5:((k:Int)==5)=false) (h4:vs[4]? =some (.bool true)) (HO:Hid (∀ wa,af w wa->CP 32 #[.agg #[K,A,X,C,D,E,Co,Ro,t]] wa fun e w'=>∃ ov,e=.returned ov/\CP 99 #[zp y,ov] w' fun e w'=>e=.returned true/\Z (.returned true) w')):
  CP 51 #[zp y,.agg #[K,A,X,C,D,E,Co,Ro,t]] w Z:=by
 go_enter func51,ntmps51
 go_wp2_with fail
 refine (HK.out _).mono ?_;rintro e w1 ⟨rfl,rfl⟩;clear HK;have hrow:(w.alloc (.cells #[K,A,X,C,D,E,Co,Ro,t] 76)).heap[w.heap.size]? =some (.cells #[K,A,X,C,D,E,Co,Ro,t] 76 (0,0)):=ZF w _;have hgw:af w (w.alloc (.cells #[K,A,X,C,D,E,Co,Ro,t] 76)):=(ZT _ w).alloc (ZW _) _;have hCa:=(aS.thing B y vs).grow hC hgw;have hyb:y < w.heap.size:=hC.2.2.1;have HRW:=ai hrow;have HGW:=ai hgw;generalize hwa:w.alloc (.cells #[K,A,X,C,D,E,Co,Ro,t] 76)=wa at HRW HGW hCa ⊢;clear hrow hgw hwa;generalize hb0:w.heap.size=b0 at HRW hyb ⊢;clear hb0;have c4:=hCa.at 4 _ h4;have HW2:=ai (HO.out wa HGW.out);clear hCa hC HO;go_wp2_with (first
  | (refine Zi rfl 76 (.tmp 3) rfl b0 rfl 76 _ (0,0) _ HRW.out underlying76 rfl (by kernel_rfl) ?_))
 refine HW2.out.mono ?_;rintro e w10 ⟨ov,rfl,hz⟩;have HZZ:=ai hz;clear hz;go_wp2_with fail
 refine HZZ.out.mono ?_;rintro e w11 ⟨rfl,hz⟩;have HZ2:=ai hz;clear hz;go_wp2
 first | exact HZ2.out | (go_ret;exact HZ2.out)
theorem aW.grown {B:Nat} {e:TypeId} {z n:Nat} {v:Value} {xs:List Value} {w w':World} (h:w.ownsRow B e z v n xs) (hb:af w w'):w'.ownsRow B e z v n xs:=((aW.thing B e z v n xs).grow (S:=ob v) ⟨rfl,h⟩ hb).2
theorem Eo {B:Nat} {e:TypeId} {z n:Nat} {v:Value} {xs:List Value} {w:World} (h:w.ownsRow B e z v n xs) {g:Nat} (hg:w.heap.size<=g):some g≠v.ownBlock:=fun e=>by have:=(h.lt g e.symm).2;omega
theorem DI (w:World) (B y Wb:Nat) (K A X C D E Co Ro:Int) (t:ByteArray) (vs:List Value) (S:Bl) (hC:aS B y vs w S) (HK:Hid (∀ wx,QE 15 #[K,(8:Int)] wx (5:Int))) (Z:Ending->World->Prop) (n cap N capp:Nat) (ad adp:Option Addr) (ms:List Value) (h0:vs[0]? =some (.pointer (some ⟨Wb,0,none⟩))) (hp:vs[2]? =some (.slice adp N capp)) (hf:vs[3]? =some (.slice ad n cap)) (h4:vs[4]? =some (.bool true)) (hn:n < 20) (hN:0 < N) (hN2:N<=1000) (ht0:t.toList.isEmpty=false) (hB:B<=w.heap.size) (ow:w.ownsRow B 98 2 (.slice ad n cap) n ms) (ne:(Value.slice ad n cap).ownBlock≠some y) (t':ByteArray) (HT:Hid (∀ wx,QE 37 #[t,(100:Int)] wx t')) (HW:Hid (∀ w0 v w7 w9,af w w0->w0.grownBy w7 (Value.slice ad n cap).ownBlock->gq w0 (Value.slice ad n cap).ownBlock B 98 2 (n+1) (ms++[.string t',.int .i64 ((N:Int) - 1)]) v w7->af (w7.setCell (zq y 3) v) w9->CP 39 #[zp Wb,t'] w9 fun e w'=>e=.returned (0:Int)/\Z (.returned true) w')):
  CP 51 #[zp y,.agg #[K,A,X,C,D,E,Co,Ro,t]] w Z:=by
 go_enter func51,ntmps51
 go_wp2_with fail
 refine (HK.out _).mono ?_;rintro e w1 ⟨rfl,rfl⟩;clear HK;have hrow:(w.alloc (.cells #[K,A,X,C,D,E,Co,Ro,t] 76)).heap[w.heap.size]? =some (.cells #[K,A,X,C,D,E,Co,Ro,t] 76 (0,0)):=ZF w _;have hgw:af w (w.alloc (.cells #[K,A,X,C,D,E,Co,Ro,t] 76)):=(ZT _ w).alloc (ZW _) _;have hCa:=(aS.thing B y vs).grow hC hgw;have hyb:y < w.heap.size:=hC.2.2.1;have HRW:=ai hrow;have HGW:=ai hgw;generalize hwa:w.alloc (.cells #[K,A,X,C,D,E,Co,Ro,t] 76)=wa at HRW HGW hCa ⊢;clear hrow hgw hwa;generalize hb0:w.heap.size=b0 at HRW hyb ⊢;clear hb0;have hb0l:b0 < wa.heap.size:=(ZG.1 HRW.out).1;have c8:wa.cell? (zq b0 8)=t:=by rw [Zw _ b0 8 _ _ _ HRW.out];rfl
 have c4:=hCa.at 4 _ h4;have c3:=hCa.at 3 _ hf;have c2:=hCa.at 2 _ hp;have d20:decide (20<=(n:Int))=false:=by simp;omega
 have hCb:=hCa;have owb:=aW.grown ow HGW.out;have hBb:B<=wa.heap.size:=ZU hB HGW.out.size;obtain ⟨S3,hS3⟩:∃ S3,S=S3:=⟨_,rfl⟩;rw [hS3] at hCb;clear hCa hC hS3 ow;go_wp2_with fail
 refine ap 12 _ (Ek wa.heap.size 11 98 #[.string ⟨#[]⟩,oz] [.pointer (some ⟨b0,8,none⟩),.string t,.string t',.pointer (some ⟨y,0,none⟩),.pointer (some ⟨y,0,none⟩),.pointer (some ⟨y,1,none⟩),.pointer (some ⟨y,2,none⟩),.slice adp N capp,.int .i64 (N:Int),.int .i64 ((N:Int) - 1),.agg #[t',((N:Int) - 1:Int)],undef]) (by kernel_rfl) rfl (by kernel_rfl) nO ?_;simp only [TD];refine ⟨fun w1 hG hd=>?_,fun v0=>?_⟩
 ·clear hd;go_wp2;exact RG
 simp only [TN];refine ⟨fun w1 hG hd=>?_,fun v1=>?_⟩
 ·have d0:v0=.pointer (some ⟨b0,8,none⟩):=hd ⟨0,.data⟩ (by simp) rfl;clear hd;subst d0;have c:w1.cell? (zq b0 8)=t:=by rw [Zw _ b0 8 _ _ _ ((hG.block b0 hb0l).trans HRW.out)];rfl
  go_wp2;exact RG
 simp only [TN];refine ⟨fun w1 hG hd=>?_,fun v2=>?_⟩
 ·have d1:v1=.string t:=hd ⟨1,.data⟩ (by simp) rfl;clear hd;subst d1;have HX:=ai (HT.out w1);go_wp2_with fail
  refine HX.out.mono ?_;rintro e w2 ⟨rfl,rfl⟩;go_wp2;exact RG
 simp only [TN];refine ⟨fun w1 hG hd=>?_,fun v3=>?_⟩
 ·clear hd;go_wp2;exact RG
 simp only [TN];refine ⟨fun w1 hG hd=>?_,fun v4=>?_⟩
 ·have d3:v3=.pointer (some ⟨y,0,none⟩):=hd ⟨3,.data⟩ (by simp) rfl;clear hd;subst d3;go_wp2;exact RG
 simp only [TN];refine ⟨fun w1 hG hd=>?_,fun v5=>?_⟩
 ·have d4:v4=.pointer (some ⟨y,0,none⟩):=hd ⟨4,.data⟩ (by simp) rfl;clear hd;subst d4;go_wp2;exact RG
 simp only [TN];refine ⟨fun w1 hG hd=>?_,fun v6=>?_⟩
 ·have d5:v5=.pointer (some ⟨y,1,none⟩):=hd ⟨5,.data⟩ (by simp) rfl;clear hd;subst d5;go_wp2;exact RG
 simp only [TN];refine ⟨fun w1 hG hd=>?_,fun v7=>?_⟩
 ·have d6:v6=.pointer (some ⟨y,2,none⟩):=hd ⟨6,.data⟩ (by simp) rfl;clear hd;subst d6;have c:=aw hG c2;go_wp2;exact RG
 simp only [TN];refine ⟨fun w1 hG hd=>?_,fun v8=>?_⟩
 ·have d7:v7=.slice adp N capp:=hd ⟨7,.data⟩ (by simp) rfl;clear hd;subst d7;go_wp2;exact RG
 simp only [TN];refine ⟨fun w1 hG hd=>?_,fun v9=>?_⟩
 ·have d8:v8=.int .i64 (N:Int):=hd ⟨8,.data⟩ (by simp) rfl;clear hd;subst d8;go_wp2;exact RG
 simp only [TN];refine ⟨fun w1 hG hd=>?_,fun v10=>?_⟩
 ·have d2:v2=.string t':=hd ⟨2,.data⟩ (by simp) rfl;have d9:v9=.int .i64 ((N:Int) - 1):=hd ⟨9,.data⟩ (by simp) rfl;clear hd;subst d2 d9;go_wp2;exact RG
 simp only [TN];refine ⟨fun w1 hG hd=>?_,fun v11=>?_⟩
 ·clear hd;go_wp2;exact ⟨⟨_,rfl,hG.size,ZF _ _⟩,(ZT _ _).alloc (ZW _) _⟩
 simp only [TN];intro w2 hG hd;have dag:v10=.agg #[t',((N:Int) - 1:Int)]:=hd 10 (by omega);obtain ⟨g,dnb,hzg,hbg⟩:∃ g,v11=.pointer (some ⟨g,0,none⟩)/\wa.heap.size<=g/\w2.heap[g]? =some (.cells #[.string ⟨#[]⟩,oz] 98 (0,0)):=hd 11 (by omega);subst dag dnb;clear hd;have hrow:=YK w2 g _ #[t',((N:Int) - 1:Int)] _ _ hbg;have hb3:af wa (w2.setRow g #[t',((N:Int) - 1:Int)]):=⟨hG.os,hG.tape,hG.output,ZU hG.size (Nat.le_of_eq (by simp [World.setRow])),fun k hk=>(setRow_other _ _ _ _ (by omega)).trans (hG.block k hk)⟩;refine Zj rfl 98 (.tmp 7) (.tmp 132) rfl g #[t',((N:Int) - 1:Int)] rfl rfl _ _ hbg (by kernel_rfl) rfl (by kernel_rfl) ?_;generalize w2.setRow g #[t',((N:Int) - 1:Int)]=w3 at hrow hb3 ⊢;clear hG hbg;have HR3:=ai hrow;have HB3:=ai hb3;have hC3:=(aS.thing B y vs).grow hCb hb3;have ow3:=aW.grown owb hb3;have hB3:B<=w3.heap.size:=ZU hBb hb3.size;have cf3:=hC3.at 3 _ hf;have hy3:y < w3.heap.size:=hC3.2.2.1;have hgy:g≠y:=fun e=>by have:=hCb.2.2.1;omega
 have hgo:some g≠(Value.slice ad n cap).ownBlock:=Eo owb hzg;have hg3:g < w3.heap.size:=(ZG.1 hrow).1;clear hrow hb3;go_wp2_with fail
 refine cW 9 _ 8 (fun w w'=>w.grownBy w' (Value.slice ad n cap).ownBlock) (pK w3 [.pointer (some ⟨y,0,none⟩),.pointer (some ⟨y,0,none⟩),.pointer (some ⟨y,0,none⟩),.pointer (some ⟨y,1,none⟩),.pointer (some ⟨y,3,none⟩),.slice ad n cap,.agg #[t',((N:Int) - 1:Int)],undef,undef] 7 8 [.string t',.int .i64 ((N:Int) - 1)] (Value.slice ad n cap).ownBlock B 98 2 (n+1) (ms++[.string t',.int .i64 ((N:Int) - 1)])) (by kernel_rfl) rfl (by kernel_rfl) (lT _) (fun _ _ _=>lV) (fun _ _ _=>fE) pZ kE ?_;simp only [TD];refine ⟨aB (by decide) fun w1 hG hd=>?_,fun v0=>?_⟩
 ·clear hd;go_wp2;exact RG
 simp only [TN];refine ⟨aB (by decide) fun w1 hG hd=>?_,fun v1=>?_⟩
 ·clear hd;go_wp2;exact RG
 simp only [TN];refine ⟨aB (by decide) fun w1 hG hd=>?_,fun v2=>?_⟩
 ·have d1:v1=.pointer (some ⟨y,0,none⟩):=hd ⟨1,.data⟩ (by simp) rfl;clear hd;subst d1;go_wp2;exact RG
 simp only [TN];refine ⟨aB (by decide) fun w1 hG hd=>?_,fun v3=>?_⟩
 ·have d2:v2=.pointer (some ⟨y,0,none⟩):=hd ⟨2,.data⟩ (by simp) rfl;clear hd;subst d2;go_wp2;exact RG
 simp only [TN];refine ⟨aB (by decide) fun w1 hG hd=>?_,fun v4=>?_⟩
 ·have d3:v3=.pointer (some ⟨y,1,none⟩):=hd ⟨3,.data⟩ (by simp) rfl;clear hd;subst d3;go_wp2;exact RG
 simp only [TN];refine ⟨aB (by decide) fun w1 hG hd=>?_,fun v5=>?_⟩
 ·have d4:v4=.pointer (some ⟨y,3,none⟩):=hd ⟨4,.data⟩ (by simp) rfl;clear hd;subst d4;have c:=(ZQ (a:=zq y 3) (hG.block y hy3 (fun e=>ne e.symm))).trans cf3;go_wp2;exact RG
 simp only [TN];refine ⟨aB (by decide) fun w1 hG hd=>?_,fun v6=>?_⟩
 ·clear hd;refine Zi rfl 98 (.tmp 7) rfl g rfl 98 _ (0,0) _ ((hG.block g hg3 hgo).trans HR3.out) underlying98 rfl (by kernel_rfl) ?_;refine YN ?_;exact ⟨rfl,rfl,rfl,af.refl _⟩
 simp only [TN];refine ⟨aB (by decide) fun w1 hG hd=>?_,fun v7=>?_⟩
 ·have d6:v6=.agg #[t',((N:Int) - 1:Int)]:=hd ⟨6,.data⟩ (by simp) rfl;clear hd;subst d6;go_wp2;exact ⟨jI _ _ (fun k hk=>ZK (ow3.lt k hk).2 (World.grownBy.size hG)),(ZT _ _).alloc (ZW _) _⟩
 simp only [TN];refine ⟨dO rfl fun w1 hG hd=>?_,fun v8=>?_⟩
 ·have d5:v5=.slice ad n cap:=hd ⟨5,.data⟩ (by simp) rfl;have d7:pO _ _ v7 w1:=hd ⟨7,.data⟩ (by simp) rfl;clear hd;subst d5;exact nJ rfl (.tmp 138) (.tmp 140) 27 rfl 98 (.agg #[.string ⟨#[]⟩,oz]) 2 24 Tryz.infoMk rfl (by omega) underlying27 B (Value.slice ad n cap) n (ms) rfl ow3 hB3 hG v7 rfl [.string t',.int .i64 ((N:Int) - 1)] d7 rfl (by intro u hu;simp at hu;rcases hu with rfl | rfl <;> rfl) (by omega) (by omega) ⟨_,rfl,by simp [Act.put]⟩
 simp only [TN];intro w7 hG hd;have d0:v0=.pointer (some ⟨y,0,none⟩):=hd 0 (by omega);have d8:gq _ _ _ _ _ _ _ v8 w7:=hd 8 (by omega);subst d0;obtain ⟨ad7,cap7,hv7⟩:=d8.form;subst hv7;have hby:=hG.block y hy3 (fun e=>ne e.symm);have hC7:aS B y vs w7 S3:=(aS.thing B y vs).keep hC3 (fun k hk=>by have e1:=hC3.1;rw [e1] at hk;have e2:k=y:=hk;rw [e2];exact hby) (World.grownBy.size hG);have HG7:=ai hG;have HA7:=ai d8;have cf7:=hC7.at 3 _ hf;have ff7:=hC7.fz 3;have hC8:=(hC7.set 3 (.slice ad7 (n+1) cap7) (Zx.1 hf).1).1;have hr8:=(Yu w7 ⟨y,3,none⟩ g (.slice ad7 (n+1) cap7) hgy).trans ((hG.block g hg3 hgo).trans HR3.out);clear hd hG d8 hby cf3;have k0:=hC8.at 0 _ (by rw [List.getElem?_set_ne (by decide)];exact h0);have kt:(w7.setCell (zq y 3) (.slice ad7 (n+1) cap7)).cell? g=t':=by rw [Zw _ g 0 _ _ _ hr8];rfl
 have HW2:=ai (fun w9 h=>HW.out w3 _ w7 w9 (af.trans HGW.out HB3.out) HG7.out HA7.out h);clear hr8 hC8 hC7 HW HG7 HA7 hC3 ow3;go_wp2_with fail
 refine ap 6 _ (ag [zp y,zp y,zp y,zp Wb,zp g,t']) (by kernel_rfl) rfl (by kernel_rfl) aq ?_;simp only [TD];refine ⟨fun w1 hG hd=>?_,fun v0=>?_⟩
 ·clear hd;go_wp2;exact RG
 simp only [TN];refine ⟨fun w1 hG hd=>?_,fun v1=>?_⟩
 ·have d0:v0=.pointer (some ⟨y,0,none⟩):=hd ⟨0,.data⟩ (by simp) rfl;clear hd;subst d0;go_wp2;exact RG
 simp only [TN];refine ⟨fun w1 hG hd=>?_,fun v2=>?_⟩
 ·have d1:v1=.pointer (some ⟨y,0,none⟩):=hd ⟨1,.data⟩ (by simp) rfl;clear hd;subst d1;go_wp2;exact RG
 simp only [TN];refine ⟨fun w1 hG hd=>?_,fun v3=>?_⟩
 ·have d2:v2=.pointer (some ⟨y,0,none⟩):=hd ⟨2,.data⟩ (by simp) rfl;clear hd;subst d2;have c:=aw hG k0;go_wp2;exact RG
 simp only [TN];refine ⟨fun w1 hG hd=>?_,fun v4=>?_⟩
 ·clear hd;go_wp2;exact RG
 simp only [TN];refine ⟨fun w1 hG hd=>?_,fun v5=>?_⟩
 ·have d4:v4=.pointer (some ⟨g,0,none⟩):=hd ⟨4,.data⟩ (by simp) rfl;clear hd;subst d4;have c:=aw hG kt;go_wp2;exact RG
 simp only [TN];intro w9 hG hd;have d3:v3=.pointer (some ⟨Wb,0,none⟩):=hd 3 (by omega);have d5:v5=.string t':=hd 5 (by omega);subst d3 d5;clear hd;go_wp2_with fail
 refine (HW2.out w9 hG).mono ?_;rintro e w10 ⟨rfl,hz⟩;have HZZ:=ai hz;clear hz;go_wp2
 first | exact HZZ.out | (go_ret;exact HZZ.out)
theorem DX (w:World) (B y g Wb:Nat) (N cap n cp I sp:Nat) (ad:Option Addr) (K A X C D E Co Ro:Int) (t:ByteArray) (os:List Value) (hI:I+1=N) (hN2:N<=1000) (hcap:N<=cap) (hcap2:cap<=9223372036854775807) (hn:n<=1000000000) (c0:w.cell? y=zp Wb) (c1:w.cell? (zq y 2)=some (.slice g N cap)) (c5:w.cell? (zq y 5)=(sp:Int)) (cg2:w.cell? (zq g (I*3+2))=some (.slice ad n cp)) (fg:w.frozen? (zq g (I*3+2))=false) (hy:y < w.heap.size) (hgl:g < w.heap.size) (hgy:y≠g) (hB:B<=w.heap.size) (ow:w.ownsRow B 31 9 (.slice ad n cp) n os) (ne:(Value.slice ad n cp).ownBlock≠some y) (neg:(Value.slice ad n cp).ownBlock≠some g) (Z:Ending->World->Prop)
  (HZ:Hid (∀ v w7,(w.alloc (.cells #[K,A,X,C,D,E,Co,Ro,t] 31)).grownBy w7 (Value.slice ad n cp).ownBlock->gq (w.alloc (.cells #[K,A,X,C,D,E,Co,Ro,t] 31)) (Value.slice ad n cp).ownBlock B 31 9 (n+1) (os++[.int .i64 K,.int .i64 A,.int .i64 X,.int .i64 C,.int .i64 D,.int .i64 E,.int .i64 Co,.int .i64 Ro,.string t]) v w7->∀ w9,af (w7.setCell (zq g (I*3+2)) v) w9->if K=4/\0 < sp then CP 149 #[zp y,.agg #[K,A,X,C,D,E,Co,Ro,t]] w9 fun e w'=>e=.returned true/\Z (.returned true) w' else CP 42 #[zp Wb,.agg #[K,A,X,C,D,E,Co,Ro,t]] w9 fun e w'=>e=.returned (0:Int)/\Z (.returned true) w')):
  CP 99 #[zp y,.agg #[K,A,X,C,D,E,Co,Ro,t]] w Z:=by
 have hIN:(N:Int) - 1=(I:Int):=by omega
 have hlt:I < N:=by omega
 have up:∀ i v,w.cell? (zq y i)=some v->(w.alloc (.cells #[K,A,X,C,D,E,Co,Ro,t] 31)).cell? (zq y i)=some v:=fun i v c=>(ZQ (a:=zq y i) (Zf w _ y hy)).trans c
 have c1a:=up _ _ c1;have c0a:=up _ _ c0;have c5a:=up _ _ c5;clear up;go_enter func99,ntmps99
 go_wp2_with fail
 have HOB:Hid (∀ (w1:World),(w.alloc (.cells #[K,A,X,C,D,E,Co,Ro,t] 31)).grownBy w1 (Value.slice ad n cp).ownBlock->w1.heap[w.heap.size]? =some (.cells #[K,A,X,C,D,E,Co,Ro,t] 31 (0,0))):=fun w1 hG=>(hG.block w.heap.size (by simp) (fun e=>by have:=(ow.lt _ e.symm).2;omega)).trans (ZF w _)
 have owa:(w.alloc (.cells #[K,A,X,C,D,E,Co,Ro,t] 31)).ownsRow B 31 9 (.slice ad n cp) n os:=ow.alloc _;have hBa:B<=(w.alloc (.cells #[K,A,X,C,D,E,Co,Ro,t] 31)).heap.size:=by simp;omega
 have cga:(w.alloc (.cells #[K,A,X,C,D,E,Co,Ro,t] 31)).cell? (zq g (I*3+2))=some (.slice ad n cp):=(ZQ (a:=zq g (I*3+2)) (Zf w _ g hgl)).trans cg2;have fga:(w.alloc (.cells #[K,A,X,C,D,E,Co,Ro,t] 31)).frozen? (zq g (I*3+2))=false:=(ZH (a:=zq g (I*3+2)) (Zf w _ g hgl)).trans fg;have hya:y < (w.alloc (.cells #[K,A,X,C,D,E,Co,Ro,t] 31)).heap.size:=by simp;omega
 have hga:g < (w.alloc (.cells #[K,A,X,C,D,E,Co,Ro,t] 31)).heap.size:=by simp;omega
 have hb0g:w.heap.size≠g:=by omega
 clear c0 c1 c5 cg2 fg hy hgl hB ow;generalize w.heap.size=b0 at HOB hb0g ⊢;generalize w.alloc (.cells #[K,A,X,C,D,E,Co,Ro,t] 31)=wa at HOB owa hBa cga fga hya hga c1a c0a c5a HZ ⊢;refine cW 18 _ 17 (fun w w'=>w.grownBy w' (Value.slice ad n cp).ownBlock) (pK wa [.pointer (some ⟨y,0,none⟩),.pointer (some ⟨y,0,none⟩),.pointer (some ⟨y,1,none⟩),.pointer (some ⟨y,2,none⟩),.slice g N cap,.int .i64 (I:Int),.pointer (some ⟨y,0,none⟩),.pointer (some ⟨y,0,none⟩),.pointer (some ⟨y,1,none⟩),.pointer (some ⟨y,2,none⟩),.slice g N cap,.int .i64 (I:Int),.pointer (some ⟨g,I*3,none⟩),.pointer (some ⟨g,I*3+2,none⟩),.slice ad n cp,.agg #[K,A,X,C,D,E,Co,Ro,t],undef,undef] 16 17 [.int .i64 K,.int .i64 A,.int .i64 X,.int .i64 C,.int .i64 D,.int .i64 E,.int .i64 Co,.int .i64 Ro,.string t] (Value.slice ad n cp).ownBlock B 31 9 (n+1) (os++[.int .i64 K,.int .i64 A,.int .i64 X,.int .i64 C,.int .i64 D,.int .i64 E,.int .i64 Co,.int .i64 Ro,.string t])) (by kernel_rfl) rfl (by kernel_rfl) (lT _) (fun _ _ _=>lV) (fun _ _ _=>fE) pZ kE ?_;simp only [TD];refine ⟨aB (by decide) fun w1 hG hd=>?_,fun v0=>?_⟩
 ·clear hd;go_wp2;exact RG
 simp only [TN];refine ⟨aB (by decide) fun w1 hG hd=>?_,fun v1=>?_⟩
 ·have d0:v0=.pointer (some ⟨y,0,none⟩):=hd ⟨0,.data⟩ (by simp) rfl;clear hd;subst d0;go_wp2;exact RG
 simp only [TN];refine ⟨aB (by decide) fun w1 hG hd=>?_,fun v2=>?_⟩
 ·have d1:v1=.pointer (some ⟨y,0,none⟩):=hd ⟨1,.data⟩ (by simp) rfl;clear hd;subst d1;go_wp2;exact RG
 simp only [TN];refine ⟨aB (by decide) fun w1 hG hd=>?_,fun v3=>?_⟩
 ·have d2:v2=.pointer (some ⟨y,1,none⟩):=hd ⟨2,.data⟩ (by simp) rfl;clear hd;subst d2;go_wp2;exact RG
 simp only [TN];refine ⟨aB (by decide) fun w1 hG hd=>?_,fun v4=>?_⟩
 ·have d3:v3=.pointer (some ⟨y,2,none⟩):=hd ⟨3,.data⟩ (by simp) rfl;clear hd;subst d3;have c:=(ZQ (a:=zq y 2) (hG.block y hya (fun e=>ne e.symm))).trans c1a;go_wp2;exact RG
 simp only [TN];refine ⟨aB (by decide) fun w1 hG hd=>?_,fun v5=>?_⟩
 ·clear hd;go_wp2;exact RG
 simp only [TN];refine ⟨aB (by decide) fun w1 hG hd=>?_,fun v6=>?_⟩
 ·clear hd;go_wp2;exact RG
 simp only [TN];refine ⟨aB (by decide) fun w1 hG hd=>?_,fun v7=>?_⟩
 ·have d6:v6=.pointer (some ⟨y,0,none⟩):=hd ⟨6,.data⟩ (by simp) rfl;clear hd;subst d6;go_wp2;exact RG
 simp only [TN];refine ⟨aB (by decide) fun w1 hG hd=>?_,fun v8=>?_⟩
 ·have d7:v7=.pointer (some ⟨y,0,none⟩):=hd ⟨7,.data⟩ (by simp) rfl;clear hd;subst d7;go_wp2;exact RG
 simp only [TN];refine ⟨aB (by decide) fun w1 hG hd=>?_,fun v9=>?_⟩
 ·have d8:v8=.pointer (some ⟨y,1,none⟩):=hd ⟨8,.data⟩ (by simp) rfl;clear hd;subst d8;go_wp2;exact RG
 simp only [TN];refine ⟨aB (by decide) fun w1 hG hd=>?_,fun v10=>?_⟩
 ·have d9:v9=.pointer (some ⟨y,2,none⟩):=hd ⟨9,.data⟩ (by simp) rfl;clear hd;subst d9;have c:=(ZQ (a:=zq y 2) (hG.block y hya (fun e=>ne e.symm))).trans c1a;go_wp2;exact RG
 simp only [TN];refine ⟨aB (by decide) fun w1 hG hd=>?_,fun v11=>?_⟩
 ·clear hd;go_wp2;exact RG
 simp only [TN];refine ⟨aB (by decide) fun w1 hG hd=>?_,fun v12=>?_⟩
 ·have d10:v10=.slice g N cap:=hd ⟨10,.data⟩ (by simp) rfl;have d11:v11=.int .i64 (I:Int):=hd ⟨11,.data⟩ (by simp) rfl;clear hd;subst d10 d11;go_wp2;exact RG
 simp only [TN];refine ⟨aB (by decide) fun w1 hG hd=>?_,fun v13=>?_⟩
 ·have d12:v12=.pointer (some ⟨g,I*3,none⟩):=hd ⟨12,.data⟩ (by simp) rfl;clear hd;subst d12;go_wp2;exact RG
 simp only [TN];refine ⟨aB (by decide) fun w1 hG hd=>?_,fun v14=>?_⟩
 ·have d13:v13=.pointer (some ⟨g,I*3+2,none⟩):=hd ⟨13,.data⟩ (by simp) rfl;clear hd;subst d13;have c:=(ZQ (a:=zq g (I*3+2)) (hG.block g hga (fun e=>neg e.symm))).trans cga;go_wp2;exact RG
 simp only [TN];refine ⟨aB (by decide) fun w1 hG hd=>?_,fun v15=>?_⟩
 ·clear hd;refine Zi rfl 31 (.tmp 3) rfl b0 rfl 31 _ (0,0) _ (HOB.out _ hG) underlying31 rfl (by kernel_rfl) ?_;refine YN ?_;exact ⟨rfl,rfl,rfl,af.refl _⟩
 simp only [TN];refine ⟨aB (by decide) fun w1 hG hd=>?_,fun v16=>?_⟩
 ·have d15:v15=.agg #[K,A,X,C,D,E,Co,Ro,t]:=hd ⟨15,.data⟩ (by simp) rfl;clear hd;subst d15;go_wp2;exact ⟨jI _ _ (fun k hk=>ZK (owa.lt k hk).2 (World.grownBy.size hG)),(ZT _ _).alloc (ZW _) _⟩
 simp only [TN];refine ⟨dO rfl fun w1 hG hd=>?_,fun v17=>?_⟩
 ·have d14:v14=.slice ad n cp:=hd ⟨14,.data⟩ (by simp) rfl;have d16:pO _ _ v16 w1:=hd ⟨16,.data⟩ (by simp) rfl;clear hd;subst d14;exact nJ rfl (.tmp 27) (.tmp 29) 86 rfl 31 (.agg #[oz,oz,oz,oz,oz,oz,oz,oz,.string ⟨#[]⟩]) 9 80 Tryz.infoOp2 rfl (by omega) underlying86 B (Value.slice ad n cp) n (os) rfl owa hBa hG v16 rfl [.int .i64 K,.int .i64 A,.int .i64 X,.int .i64 C,.int .i64 D,.int .i64 E,.int .i64 Co,.int .i64 Ro,.string t] d16 rfl (by intro u hu;simp at hu;rcases hu with rfl | rfl | rfl | rfl | rfl | rfl | rfl | rfl | rfl <;> rfl) (by omega) (by omega) ⟨_,rfl,by simp [Act.put]⟩
 simp only [TN];intro w7 hG hd;have d4:v4=.slice g N cap:=hd 4 (by omega);have d5:v5=.int .i64 (I:Int):=hd 5 (by omega);have d17:gq _ _ _ _ _ _ _ v17 w7:=hd 17 (by omega);subst d4 d5;obtain ⟨ad7,cap7,hv7⟩:=d17.form;subst hv7;have HX:=ai (HZ.out _ w7 hG d17);have hb:=hG.block g hga (fun e=>neg e.symm);have hby:=hG.block y hya (fun e=>ne e.symm);have k2:=(ZQ (a:=zq g (I*3+2)) hb).trans cga;have kf:=(ZH (a:=zq g (I*3+2)) hb).trans fga;have oth:∀ k,k≠g->∀ v,(w7.setCell (zq g (I*3+2)) v).heap[k]? =w7.heap[k]? :=fun k hk v=>Yu w7 ⟨g,I*3+2,none⟩ k v hk
 have HR:=ai ((oth b0 hb0g (.slice ad7 (n+1) cap7)).trans (HOB.out _ hG));have q0:(w7.setCell (zq g (I*3+2)) (.slice ad7 (n+1) cap7)).cell? y=zp Wb:=(ZQ (a:=y) ((oth y hgy _).trans hby)).trans c0a;have q5:(w7.setCell (zq g (I*3+2)) (.slice ad7 (n+1) cap7)).cell? (zq y 5)=(sp:Int):=(ZQ (a:=zq y 5) ((oth y hgy _).trans hby)).trans c5a;have rk:(w7.setCell (zq g (I*3+2)) (.slice ad7 (n+1) cap7)).cell? b0=K:=by rw [Zw _ b0 0 _ _ _ HR.out];rfl
 clear hd HZ d17 hG hb hby oth c1a c0a c5a cga fga owa HOB;obtain ⟨bk,hbk⟩:∃ bk:Bool,(K==4)=bk:=⟨_,rfl⟩
 cases bk with
 | true=>
  have hK:K=4:=by simpa using hbk
  by_cases hsp:0 < sp
  ·have d5:decide ((0:Int) < (sp:Int))=true:=by simp;omega
   have HY:=HX.out _ (af.refl _);rw [ZN ⟨hK,hsp⟩] at HY;have HY2:=ai HY;clear HY hK;go_wp2_with (refine Zi rfl 31 (.tmp 3) rfl b0 rfl 31 _ (0,0) _ HR.out underlying31 rfl (by kernel_rfl) ?_)
   refine HY2.out.mono ?_;rintro e w10 ⟨rfl,hz⟩;have HZZ:=ai hz;clear hz;go_wp2
   first | exact HZZ.out | (go_ret;exact HZZ.out)
  ·have hs0:sp=0:=by omega
   subst hs0;replace q5:(w7.setCell (zq g (I*3+2)) (.slice ad7 (n+1) cap7)).cell? (zq y 5)=(0:Int):=q5;clear hK hsp;go_wp2_with fail
   generalize w7.setCell (zq g (I*3+2)) (.slice ad7 (n+1) cap7)=w8 at HX HR q0 q5 rk ⊢;clear k2 kf;have HY:=ai (fun w9 (hG:af w8 w9)=>by have:=HX.out w9 hG;rw [ZO (fun h=>absurd h.2 (Nat.lt_irrefl 0))] at this;exact this);refine ap 5 _ (ag [zp y,zp y,zp y,zp Wb,.agg #[K,A,X,C,D,E,Co,Ro,t]]) (by kernel_rfl) rfl (by kernel_rfl) aq ?_;simp only [TD];refine ⟨fun w1 hG hd=>?_,fun v0=>?_⟩
   ·clear hd;go_wp2;exact RG
   simp only [TN];refine ⟨fun w1 hG hd=>?_,fun v1=>?_⟩
   ·have d0:v0=.pointer (some ⟨y,0,none⟩):=hd ⟨0,.data⟩ (by simp) rfl;clear hd;subst d0;go_wp2;exact RG
   simp only [TN];refine ⟨fun w1 hG hd=>?_,fun v2=>?_⟩
   ·have d1:v1=.pointer (some ⟨y,0,none⟩):=hd ⟨1,.data⟩ (by simp) rfl;clear hd;subst d1;go_wp2;exact RG
   simp only [TN];refine ⟨fun w1 hG hd=>?_,fun v3=>?_⟩
   ·have d2:v2=.pointer (some ⟨y,0,none⟩):=hd ⟨2,.data⟩ (by simp) rfl;clear hd;subst d2;have c:=aw hG q0;go_wp2;exact RG
   simp only [TN];refine ⟨fun w1 hG hd=>?_,fun v4=>?_⟩
   ·clear hd;refine Zi rfl 31 (.tmp 3) rfl b0 rfl 31 _ (0,0) _ ((hG.block b0 (ZG.1 HR.out).1).trans HR.out) underlying31 rfl (by kernel_rfl) ?_;refine YN ?_;exact ⟨rfl,rfl,rfl,af.refl _⟩
   simp only [TN];intro w9 hG hd;have d3:v3=.pointer (some ⟨Wb,0,none⟩):=hd 3 (by omega);have d4:v4=.agg #[K,A,X,C,D,E,Co,Ro,t]:=hd 4 (by omega);subst d3 d4;clear hd;go_wp2_with fail
   refine (HY.out _ hG).mono ?_;rintro e w10 ⟨rfl,hz⟩;have HZZ:=ai hz;clear hz;go_wp2
   first | exact HZZ.out | (go_ret;exact HZZ.out)
 | false=>
  have hK:¬ K=4:=by simpa using hbk
  go_wp2_with fail
  generalize w7.setCell (zq g (I*3+2)) (.slice ad7 (n+1) cap7)=w8 at HX HR q0 q5 rk ⊢;clear k2 kf;have HY:=ai (fun w9 (hG:af w8 w9)=>by have:=HX.out w9 hG;rw [ZO (fun h=>hK h.1)] at this;exact this);refine ap 5 _ (ag [zp y,zp y,zp y,zp Wb,.agg #[K,A,X,C,D,E,Co,Ro,t]]) (by kernel_rfl) rfl (by kernel_rfl) aq ?_;simp only [TD];refine ⟨fun w1 hG hd=>?_,fun v0=>?_⟩
  ·clear hd;go_wp2;exact RG
  simp only [TN];refine ⟨fun w1 hG hd=>?_,fun v1=>?_⟩
  ·have d0:v0=.pointer (some ⟨y,0,none⟩):=hd ⟨0,.data⟩ (by simp) rfl;clear hd;subst d0;go_wp2;exact RG
  simp only [TN];refine ⟨fun w1 hG hd=>?_,fun v2=>?_⟩
  ·have d1:v1=.pointer (some ⟨y,0,none⟩):=hd ⟨1,.data⟩ (by simp) rfl;clear hd;subst d1;go_wp2;exact RG
  simp only [TN];refine ⟨fun w1 hG hd=>?_,fun v3=>?_⟩
  ·have d2:v2=.pointer (some ⟨y,0,none⟩):=hd ⟨2,.data⟩ (by simp) rfl;clear hd;subst d2;have c:=aw hG q0;go_wp2;exact RG
  simp only [TN];refine ⟨fun w1 hG hd=>?_,fun v4=>?_⟩
  ·clear hd;refine Zi rfl 31 (.tmp 3) rfl b0 rfl 31 _ (0,0) _ ((hG.block b0 (ZG.1 HR.out).1).trans HR.out) underlying31 rfl (by kernel_rfl) ?_;refine YN ?_;exact ⟨rfl,rfl,rfl,af.refl _⟩
  simp only [TN];intro w9 hG hd;have d3:v3=.pointer (some ⟨Wb,0,none⟩):=hd 3 (by omega);have d4:v4=.agg #[K,A,X,C,D,E,Co,Ro,t]:=hd 4 (by omega);subst d3 d4;clear hd;go_wp2_with fail
  refine (HY.out _ hG).mono ?_;rintro e w10 ⟨rfl,hz⟩;have HZZ:=ai hz;clear hz;go_wp2
  first | exact HZZ.out | (go_ret;exact HZZ.out)
end Go.Proofs.YtbklfkpjoinofaaGreatDoor
