import Derived.Test.YtbklfkpjoinofaaGreatDoorA35
import Derived.Test.YtbklfkpjoinofaaGreatDoorA31
set_option linter.all false
set_option maxRecDepth 100000
set_option maxHeartbeats 8000000
namespace Go.Proofs.YtbklfkpjoinofaaGreatDoor
open Go.RowKit Go.Proofs.Tryz
structure St where
 title:ByteArray
 pages:List (Int×Int×List bj)
 marks:List (ByteArray×Nat)
 op:Bool
 img:bj
 left:Nat
 size:Nat
 cl:Bool
structure St.ok (s:St):Prop where
 size:s.size<=1048576
 left:s.img.s.size+s.left<=4096
 pages:s.pages.length<=80
 some:s.op=true->∃ p l,s.pages=p::l/\p.2.2.length+(if s.left=0 then 0 else 1)<=s.size
 marks:s.marks.length<=20
 idle:s.op=false->s.left=0
 shut:s.cl=true->s.op=false
def St.drawing (s:St):Bool:=s.op&&decide (s.left=0)
def St.put (s:St) (o:bj):List (Int×Int×List bj):=match s.pages with
 | []=>[]
 | p::l=>(p.1,p.2.1,p.2.2++[o])::l
def St.flush (s:St):Int:=if s.cl then 2 else 0
def St.endPage (s:St):Int×St:=if s.drawing then (0,{s with op:=false}) else (2,s)
def St.close (s:St):Int×St:=if s.op=true\/s.cl=true then (2,s) else (0,{s with cl:=true})
def St.titled (s:St) (t:ByteArray):Int×St:=if s.cl then (2,s) else if 100 < t.size then (1,s) else (0,{s with title:=t})
def St.page (s:St) (W H:Int):Int×St:=if s.op=true\/s.cl=true then (2,s) else if ¬ bG W 1 14400000\/¬ bG H 1 14400000 then (1,s) else if s.pages.length=80 then (3,s) else (0,{s with pages:=(W,H,[])::s.pages,op:=true,size:=0})
def St.mark (s:St) (t:ByteArray):Int×St:=if s.op=false then (2,s) else if t.size=0\/100 < t.size then (1,s) else if 20<=s.marks.length then (3,s) else (0,{s with marks:=s.marks++[(t,s.pages.length - 1)]})
def St.draw (s:St) (o:bj):Int×St:=if s.drawing=false then (2,s) else if ¬ o.is then (1,s) else if 1048576 < s.size+o.text.length then (3,s) else (0,{s with pages:=s.put o,size:=s.size+o.text.length})
def St.begin (s:St) (o:bj):Int×St:=if s.drawing=false then (2,s) else if ¬ o.isFrame then (1,s) else if 1048576 < s.size+o.text.length+(o.co*o.ro).toNat then (3,s) else (0,{s with img:=o,left:=(o.co*o.ro).toNat,size:=s.size+o.text.length+(o.co*o.ro).toNat})
def St.more (s:St) (t:ByteArray):bj:={s.img with s:=s.img.s++t}
def St.data (s:St) (t:ByteArray):Int×St:=if s.left=0 then (2,s) else if s.left < t.size then (1,s) else if t.size < s.left then (0,{s with img:=s.more t,left:=s.left - t.size}) else (0,{s with img:=s.more t,left:=0,pages:=s.put (s.more t)})
def jP (s:St) (vp vm:Value):List Value:=[.string s.title,vp,vm,.bool s.op,.int .i64 s.img.k,.int .i64 s.img.a,.int .i64 s.img.b,.int .i64 s.img.c,.int .i64 s.img.d,.int .i64 s.img.e,.int .i64 s.img.co,.int .i64 s.img.ro,.string s.img.s,.int .i64 (s.left:Int),.int .i64 (s.size:Int),.bool s.cl]
def iy:List (Value×(Int×Int×List bj))->List Value
 | []=>[]
 | x::l=>iy l++[.int .i64 x.2.1,.int .i64 x.2.2.1,x.1]
def iz:List (ByteArray×Nat)->List Value
 | []=>[]
 | x::l=>.string x.1::.int .i64 (x.2:Int)::iz l
theorem nf (l:List (ByteArray×Nat)) (x:ByteArray×Nat):iz (l++[x])=iz l++[.string x.1,.int .i64 (x.2:Int)]:=by
 induction l with
 | nil=>rfl
 | cons a l ih=>simp only [Zy,iz,ih]
def kg (ps:List (Value×(Int×Int×List bj))):List (Value×List bj):=ps.map fun x=>(x.1,x.2.2.2)
def lQ (B:Nat) (ps:List (Value×(Int×Int×List bj))) (ms:List (ByteArray×Nat)) (vp vm:Value):As:=
 ah (aW B 100 3 vp ps.length (iy ps)) (ah (dh B (kg ps)) (aW B 98 2 vm ms.length (iz ms)))
theorem lQ.thing (B:Nat) (ps:List (Value×(Int×Int×List bj))) (ms:List (ByteArray×Nat)) (vp vm:Value):aJ B (lQ B ps ms vp vm):=ah.thing (aW.thing _ _ _ _ _ _) (ah.thing (dh.thing _ _) (aW.thing _ _ _ _ _ _))
def RW (B y:Nat) (s:St):As:=fun w S=>∃ ps vp vm,ps.map (·.2)=s.pages/\ah (aS B y (jP s vp vm)) (lQ B ps s.marks vp vm) w S
theorem RW.thing (B y:Nat) (s:St):aJ B (RW B y s) where
 keep:=by
  rintro w w' S ⟨ps,vp,vm,hp,h⟩ hk hz;exact ⟨ps,vp,vm,hp,(ah.thing (aS.thing _ _ _) (lQ.thing _ _ _ _ _)).keep h hk hz⟩
 lt:=by
  rintro w S k ⟨ps,vp,vm,hp,h⟩ hk;exact (ah.thing (aS.thing _ _ _) (lQ.thing _ _ _ _ _)).lt h hk
 ge:=by
  rintro w S k ⟨ps,vp,vm,hp,h⟩ hk;exact (ah.thing (aS.thing _ _ _) (lQ.thing _ _ _ _ _)).ge h hk
def ed (B y:Nat) (w:World) (S:Bl) (r:Int×St) (e:Ending) (w':World):Prop:=e=.returned (.int .i64 r.1)/\∃ S',RW B y r.2 w' S'/\Mv S w S' w'
theorem ed.same {B y:Nat} {w w':World} {S:Bl} {s:St} {n:Int} (h:RW B y s w S) (hb:Below w w w'):ed B y w S (n,s) (.returned n) w':=
 ⟨rfl,S,(RW.thing B y s).keep h (fun k hk=>hb.block k ((RW.thing B y s).lt h hk)) hb.size,Mv.grow hb S⟩
theorem ay (w:World) (q:Nat):Below w w (w.drewN q):=⟨rfl,rfl,rfl,ZX _,fun _ _=>rfl⟩
theorem h_ (B y:Nat) (s:St) (w:World) (S:Bl) (h:RW B y s w S):CP 64 #[zp y] w (ed B y w S (s.flush,s)):=by
 obtain ⟨ps,vp,vm,hp,hS⟩:=h;obtain ⟨S1,hc,hsub,back⟩:=ah.fst (lQ.thing _ _ _ _ _) hS;refine (rI w y s.cl (hc.at 15 _ rfl)).mono ?_;rintro e w' ⟨rfl,rfl⟩;exact ed.same ⟨ps,vp,vm,hp,hS⟩ (ZV _ _)
theorem gV (B y:Nat) (s:St) (w:World) (S:Bl) (h:RW B y s w S):QD 110 #[zp y] w s.drawing:=by
 obtain ⟨ps,vp,vm,hp,hS⟩:=h;obtain ⟨S1,hc,hsub,back⟩:=ah.fst (lQ.thing _ _ _ _ _) hS;refine (od w y s.op (s.left:Int) (hc.at 3 _ rfl) (hc.at 13 _ rfl)).mono ?_;rintro e w' ⟨rfl,hq⟩;refine ⟨?_,hq⟩;unfold St.drawing;have:decide ((s.left:Int)=0)=decide (s.left=0):=by simp
 rw [this]
theorem nA (B y:Nat) (s:St) (w:World) (S:Bl) (h:RW B y s w S):CP 65 #[zp y] w (ed B y w S s.endPage):=by
 have hd:=gV B y s w S h;unfold St.endPage
 cases hdr:s.drawing with
 | false=>
  rw [hdr] at hd;refine (pG w y hd).mono ?_;rintro e w' ⟨rfl,q,rfl⟩;exact ed.same h (ay w q)
 | true=>
  rw [hdr] at hd;have hop:s.op=true:=by unfold St.drawing at hdr;simp at hdr;exact hdr.1
  obtain ⟨ps,vp,vm,hp,hS⟩:=h;obtain ⟨S1,hc,hsub,back⟩:=ah.fst (lQ.thing _ _ _ _ _) hS;refine (pA w y (by rw [hc.at 3 _ rfl,hop]) (hc.fz 3) hd).mono ?_;rintro e w' ⟨rfl,q,rfl⟩;have hc':aS B y (jP s vp vm) (w.drewN q) S1:=(aS.thing B y _).drewN hc q;obtain ⟨k,m⟩:=hc'.set 3 (.bool false) (by simp [jP]);obtain ⟨S',h',m'⟩:=back _ _ _ k m.undrew;exact ⟨rfl,S',⟨ps,vp,vm,hp,h'⟩,m'⟩
theorem mX (B y:Nat) (s:St) (w:World) (S:Bl) (h:RW B y s w S):CP 66 #[zp y] w (ed B y w S s.close):=by
 have h0:=h;obtain ⟨ps,vp,vm,hp,hS⟩:=h;obtain ⟨S1,hc,hsub,back⟩:=ah.fst (lQ.thing _ _ _ _ _) hS;unfold St.close;by_cases hh:s.op=true\/s.cl=true
 ·rw [ZO hh];refine (tG w y s.op s.cl hh (hc.at 3 _ rfl) (hc.at 15 _ rfl)).mono ?_;rintro e w' ⟨rfl,q,rfl⟩;exact ed.same h0 (ay w q)
 ·rw [ZU hh];have e1:s.op=false:=by cases h:s.op with | false=>rfl | true=>exact absurd (.inl h) hh
  have e2:s.cl=false:=by cases h:s.cl with | false=>rfl | true=>exact absurd (.inr h) hh
  refine (ug w y (by rw [hc.at 3 _ rfl,e1]) (by rw [hc.at 15 _ rfl,e2]) (hc.fz 15)).mono ?_;rintro e w' ⟨rfl,q,rfl⟩;have hc':aS B y (jP s vp vm) (w.drewN q) S1:=(aS.thing B y _).drewN hc q;obtain ⟨k,m⟩:=hc'.set 15 (.bool true) (by simp [jP]);obtain ⟨S',h',m'⟩:=back _ _ _ k m.undrew;exact ⟨rfl,S',⟨ps,vp,vm,hp,h'⟩,m'⟩
theorem l_ (B y:Nat) (s:St) (w:World) (S:Bl) (t:ByteArray) (ht:t.size<=9223372036854775807) (h:RW B y s w S):CP 63 #[zp y,t] w (ed B y w S (s.titled t)):=by
 have h0:=h;obtain ⟨ps,vp,vm,hp,hS⟩:=h;obtain ⟨S1,hc,hsub,back⟩:=ah.fst (lQ.thing _ _ _ _ _) hS;unfold St.titled;refine (rU w y s.cl t s.title ht (hc.at 0 _ rfl) (hc.fz 0) (hc.at 15 _ rfl)).mono ?_;rintro e w' ⟨rfl,hw⟩;by_cases e2:s.cl=true
 ·rw [ZO (.inl e2)] at hw;subst hw;rw [ZO e2,ZO e2];exact ed.same h0 (ZV _ _)
 ·by_cases h1:100 < t.size
  ·rw [ZO (.inr h1)] at hw;subst hw;rw [ZU e2,ZU e2,ZO h1,ZO h1];exact ed.same h0 (ZV _ _)
  ·rw [ZU (fun h=>h.elim e2 h1)] at hw;subst hw;rw [ZU e2,ZU e2,ZU h1,ZU h1];obtain ⟨k,m⟩:=hc.set 0 (.string t) (by simp [jP]);obtain ⟨S',h',m'⟩:=back _ _ _ k m;exact ⟨rfl,S',⟨ps,vp,vm,hp,h'⟩,m'⟩
theorem eL {w:World} {B:Nat} {e:TypeId} {z n:Nat} {v:Value} {xs:List Value} (h:w.ownsRow B e z v n xs):∃ ad cap,v=.slice ad n cap:=by
 rcases h.2 with ⟨hu,hz⟩ | ⟨gg,cap,cur,hu,_⟩
 ·exact ⟨none,0,by rw [hu,hz]⟩
 ·exact ⟨_,_,hu⟩
theorem St.op_of {s:St} (h:¬ s.op=false):s.op=true:=by cases e:s.op with | false=>exact absurd e h | true=>rfl
theorem sj {t:ByteArray} (h:¬ t.size=0):t.toList.isEmpty=false:=by
 cases e:t.toList.isEmpty with
 | false=>rfl
 | true=>exact absurd (by have h2:=jm t;rw [List.isEmpty_iff.1 e] at h2;simpa using h2.symm) h
theorem ah.two {B:Nat} {P Q:As} (hP:aJ B P) {w:World} {S:Bl} (h:ah P Q w S):∃ S1 S2,P w S1/\Q w S2/\oo S1 S2/\∀ (Q':As) w' S2',Q' w' S2'->Mv S2 w S2' w'->∃ S',ah P Q' w' S'/\Mv S w S' w':=by
 obtain ⟨S1,S2,h1,h2,ho,rfl⟩:=h;refine ⟨S1,S2,h1,h2,ho,fun Q' w' S2' hq m=>?_⟩;obtain ⟨a,b⟩:=ah.left hP h1 (fun k h2 h1=>ho k h1 h2) hq m;exact ⟨_,ah.swap a,b.mono (fun k e=>e.elim .inr .inl) (fun k e=>.inl e)⟩
theorem oN (B y:Nat) (s:St) (w:World) (S:Bl) (t:ByteArray) (ht:t.size<=9223372036854775807) (hok:s.ok) (hB:B<=w.heap.size) (h:RW B y s w S):CP 62 #[zp y,t] w (ed B y w S (s.mark t)):=by
 have h0:=h;obtain ⟨ps,vp,vm,hp,hS⟩:=h;obtain ⟨Sa,Sb,hc,hr,hoff,back⟩:=ah.two (aS.thing _ _ _) hS;obtain ⟨S1,hm,hsub,back1⟩:=ah.third (aW.thing _ _ _ _ _ _) (dh.thing _ _) hr;obtain ⟨hS1,ow⟩:=hm;obtain ⟨ad,cap,hform⟩:=eL ow;have c2:w.cell? (zq y 2)=some vm:=hc.at 2 _ rfl;have hlen:ps.length=s.pages.length:=by rw [<-hp];simp
 have hmk:=hok.marks;unfold St.mark;by_cases h1:s.op=false
 ·rw [ZO h1];refine (kE w y s.op t s.marks.length cap ad (by omega) ht (hc.at 3 _ rfl) (by rw [c2,hform]) (.inl h1)).mono ?_;rintro e w' ⟨rfl,rfl⟩;rw [ZO h1];exact ed.same h0 (ZV _ _)
 ·rw [ZU h1];by_cases h2:t.size=0\/100 < t.size
  ·rw [ZO h2];refine (kE w y s.op t s.marks.length cap ad (by omega) ht (hc.at 3 _ rfl) (by rw [c2,hform]) (by omega)).mono ?_;rintro e w' ⟨rfl,rfl⟩;rw [ZU h1,ZO h2];exact ed.same h0 (ZV _ _)
  ·rw [ZU h2];by_cases h3:20<=s.marks.length
   ·rw [ZO h3];refine (kE w y s.op t s.marks.length cap ad (by omega) ht (hc.at 3 _ rfl) (by rw [c2,hform]) (by omega)).mono ?_;rintro e w' ⟨rfl,rfl⟩;rw [ZU h1,ZU h2];exact ed.same h0 (ZV _ _)
   ·rw [ZU h3];obtain ⟨p,l,hpl,_⟩:=hok.some (St.op_of h1);have hN:0 < ps.length:=by rw [hlen,hpl];simp
    have hN2:=hok.pages;obtain ⟨Sp,hrp,_,_⟩:=ah.fst (ah.thing (dh.thing _ _) (aW.thing _ _ _ _ _ _)) hr;obtain ⟨adp,capp,hformp⟩:=eL hrp.2;have ne:(Value.slice ad s.marks.length cap).ownBlock≠some y:=by
     intro e;refine hoff y ?_ (hsub y ?_)
     ·rw [hc.1];rfl
     ·rw [hS1,hform];exact e
    refine uT w B y t s.marks.length cap ps.length capp ad adp (iz s.marks) (by omega) hN (by omega) (sj (by omega)) (by omega) (by rw [hc.at 3 _ rfl,St.op_of h1]) (by rw [hc.at 1 _ rfl,hformp]) (by rw [c2,hform]) hc.fz hc.2.2.1 hB (by rw [<-hform];exact ow) ne _ ?_;intro v w7 hg hA;obtain ⟨kr,km⟩:=hA.moved hg;obtain ⟨Sr,hr',mr⟩:=back1 (aW B 98 2 v (s.marks++[(t,s.pages.length - 1)]).length (iz (s.marks++[(t,s.pages.length - 1)]))) w7 _ (by
     rw [nf,ZZ,show (((t,s.pages.length - 1):ByteArray×Nat).2:Int)=(ps.length:Int) - 1 by show ((s.pages.length - 1:Nat):Int)=_;omega];exact kr) (by rw [hS1,hform];exact km)
    obtain ⟨S7,h7,m7⟩:=back _ _ _ hr' mr;obtain ⟨S8,hc8,_,back8⟩:=ah.fst (lQ.thing B ps (s.marks++[(t,s.pages.length - 1)]) vp v) h7;obtain ⟨k9,m9⟩:=hc8.set 2 v (by simp [jP]);obtain ⟨S9,h9,m9'⟩:=back8 _ _ _ k9 m9;exact ⟨rfl,S9,⟨ps,vp,v,hp,h9⟩,m7.trans m9'⟩
theorem xu {B:Nat} {w:World} {S:Bl} {l:List (Value×List bj)} (h:dh B l w S):∃ S',dh B ((.slice none 0 0,[])::l) w S'/\Mv S w S' w:=by
 refine ⟨cT S (ob (.slice none 0 0)),⟨S,_,h,aW.nil B _ 9 w,fun k _ e=>by simp [ob,Value.ownBlock] at e,rfl⟩,⟨Fr.refl _ _,fun k e=>e.elim .inl (fun e=>by simp [ob,Value.ownBlock] at e)⟩⟩
theorem nB (B y:Nat) (s:St) (w:World) (S:Bl) (W H:Int) (hok:s.ok) (hB:B<=w.heap.size) (h:RW B y s w S):CP 58 #[zp y,W,H] w (ed B y w S (s.page W H)):=by
 have h0:=h;obtain ⟨ps,vp,vm,hp,hS⟩:=h;obtain ⟨Sa,Sb,hc,hr,hoff,back⟩:=ah.two (aS.thing _ _ _) hS;obtain ⟨S1,hm,hsub,back1⟩:=ah.fst (ah.thing (dh.thing _ _) (aW.thing _ _ _ _ _ _)) hr;obtain ⟨hS1,ow⟩:=hm;obtain ⟨ad,cap,hform⟩:=eL ow;have c1:w.cell? (zq y 1)=some vp:=hc.at 1 _ rfl;have hlen:ps.length=s.pages.length:=by rw [<-hp];simp
 have hpg:=hok.pages;unfold St.page;by_cases hno:s.op=true\/s.cl=true\/decide (bG W 1 14400000)=false\/decide (bG H 1 14400000)=false\/ps.length=80
 ·refine (vK w y W H _ _ s.op s.cl ps.length cap ad (by omega) (Bg W 1 14400000) (Bg H 1 14400000) (hc.at 3 _ rfl) (hc.at 15 _ rfl) (by rw [c1,hform]) hno).mono ?_;rintro e w' ⟨rfl,q,rfl⟩;by_cases h1:s.op=true\/s.cl=true
  ·rw [ZO h1,ZO h1];exact ed.same h0 (ay w q)
  ·rw [ZU h1,ZU h1];by_cases h2:¬ bG W 1 14400000\/¬ bG H 1 14400000
   ·rw [ZO h2,ZO (h2.imp (fun e=>Zf e) (fun e=>Zf e))];exact ed.same h0 (ay w q)
   ·have hd:¬ (decide (bG W 1 14400000)=false\/decide (bG H 1 14400000)=false):=fun e=>h2 (e.imp of_decide_eq_false of_decide_eq_false)
    have h8:s.pages.length=80:=by
     rcases hno with e | e | e | e | e
     ·exact absurd (.inl e) h1
     ·exact absurd (.inr e) h1
     ·exact absurd (.inl e) hd
     ·exact absurd (.inr e) hd
     ·omega
    rw [ZU h2,ZU hd,ZO h8];exact ed.same h0 (ay w q)
 ·have e1:s.op=false:=by cases h:s.op with | false=>rfl | true=>exact absurd (.inl h) hno
  have e2:s.cl=false:=by cases h:s.cl with | false=>rfl | true=>exact absurd (.inr (.inl h)) hno
  have iW:bG W 1 14400000:=by
   by_cases h:bG W 1 14400000
   ·exact h
   ·exact absurd (.inr (.inr (.inl (Zf h)))) hno
  have iH:bG H 1 14400000:=by
   by_cases h:bG H 1 14400000
   ·exact h
   ·exact absurd (.inr (.inr (.inr (.inl (Zf h))))) hno
  have h80:¬ ps.length=80:=fun e=>hno (.inr (.inr (.inr (.inr e))))
  rw [ZU (by rw [e1,e2];simp),ZU (fun e=>e.elim (fun f=>f iW) (fun f=>f iH)),ZU (by omega)];have ne:(Value.slice ad ps.length cap).ownBlock≠some y:=by
   intro e;refine hoff y ?_ (hsub y ?_)
   ·rw [hc.1];rfl
   ·rw [hS1,hform];exact e
  refine vB w B y W H ps.length cap ad (iy ps) (by omega) (uA iW) (uA iH) (by rw [hc.at 3 _ rfl,e1]) (by rw [hc.at 15 _ rfl,e2]) (by rw [c1,hform]) _ (hc.at 14 _ rfl) hc.fz hc.2.2.1 hB (by rw [<-hform];exact ow) ne _ ?_;intro v w7 hg hA;obtain ⟨kr,km⟩:=hA.moved hg;obtain ⟨Sr,hr',mr⟩:=back1 (aW B 100 3 v (((Value.slice none 0 0,(W,H,[])):Value×(Int×Int×List bj))::ps).length (iy ((Value.slice none 0 0,(W,H,[]))::ps))) w7 _ kr (by rw [hS1,hform];exact km);obtain ⟨So,ho,_,backo⟩:=ah.mid (aW.thing _ _ _ _ _ _) (aW.thing _ _ _ _ _ _) hr';obtain ⟨So',ho',mo⟩:=xu ho;obtain ⟨Sn,hn,mn⟩:=backo _ _ _ ho' mo;obtain ⟨S7,h7,m7⟩:=back _ _ _ hn (mr.trans mn);obtain ⟨S8,hc8,_,back8⟩:=ah.fst (lQ.thing B ((Value.slice none 0 0,(W,H,[]))::ps) s.marks v vm) h7;obtain ⟨k9,m9⟩:=hc8.set 1 v (by simp [jP]);obtain ⟨k10,m10⟩:=k9.set 3 (.bool true) (by simp [jP]);obtain ⟨k11,m11⟩:=k10.set 14 (.int .i64 0) (by simp [jP]);obtain ⟨S9,h9,m9'⟩:=back8 _ _ _ k11 ((m9.trans m10).trans m11);exact ⟨rfl,S9,⟨(Value.slice none 0 0,(W,H,[]))::ps,v,vm,by simp [hp],h9⟩,m7.trans m9'⟩
theorem iF {w:World} {B:Nat} {e:TypeId} {z n:Nat} {v:Value} {xs:List Value} (h:w.ownsRow B e z v n xs) (hn:0 < n):∃ g cap,v=.slice (zp g) n cap/\n<=cap/\cap<=9223372036854775807/\g < w.heap.size:=by
 have hlt:=h.lt;rcases h.2 with ⟨_,hz⟩ | ⟨g,cap,cur,hu,_,hg,h1,h2,_⟩
 ·omega
 ·exact ⟨g,cap,hu,h1,by unfold maxLen at h2;omega,(hlt g (by rw [hu];rfl)).2⟩
theorem eT:∀ ps,(iy ps).length=ps.length*3
 | []=>rfl
 | x::l=>by simp [iy,eT l];omega
theorem ah.two2 {B:Nat} {P Q:As} (hP:aJ B P) {w:World} {S:Bl} (h:ah P Q w S):∃ S1 S2,P w S1/\Q w S2/\oo S1 S2/\(∀ k,S2 k->S k)/\∀ (Q':As) w' S2',Q' w' S2'->Mv S2 w S2' w'->∃ S',ah P Q' w' S'/\Mv S w S' w':=by
 obtain ⟨S1,S2,h1,h2,ho,rfl⟩:=h;refine ⟨S1,S2,h1,h2,ho,fun k e=>.inr e,fun Q' w' S2' hq m=>?_⟩;obtain ⟨a,b⟩:=ah.left hP h1 (fun k h2 h1=>ho k h1 h2) hq m;exact ⟨_,ah.swap a,b.mono (fun k e=>e.elim .inr .inl) (fun k e=>.inl e)⟩
theorem Aj (ps:List (Value×(Int×Int×List bj))) (W H:Int) (ops ops':List bj) (v v':Value):(iy ((v,(W,H,ops))::ps)).set (ps.length*3+2) v'=iy ((v',(W,H,ops'))::ps):=by
 simp only [iy];rw [XH _ _ (by rw [eT];omega),eT,show ps.length*3+2 - ps.length*3=2 by omega];rfl
theorem ng (B y:Nat) (s:St) (w:World) (S:Bl) (o:bj) (p:Int×Int×List bj) (l:List (Int×Int×List bj)) (hpl:s.pages=p::l) (hl:s.pages.length<=80) (hpn:p.2.2.length<=1000000000) (hB:B<=w.heap.size) (h:RW B y s w S):
  CP 113 #[zp y,o.val] w fun e w'=>e=.returned (.tuple #[])/\∃ S',RW B y {s with pages:=s.put o} w' S'/\Mv S w S' w':=by
 obtain ⟨ps,vp,vm,hp,hS⟩:=h;rw [hpl] at hp;obtain ⟨x,ps',rfl⟩:∃ x ps',ps=x::ps':=by
  cases ps with
  | nil=>simp at hp
  | cons x ps'=>exact ⟨x,ps',rfl⟩
 obtain ⟨v0,q⟩:=x;simp only [YC,List.cons.injEq] at hp;obtain ⟨rfl,hp⟩:=hp;obtain ⟨W,H,ops⟩:=q;have hlen:ps'.length+1<=80:=by
  rw [hpl] at hl;simp at hl;rw [<-hp] at hl;simpa using hl
 obtain ⟨Sa,Sb,hc,hr,hoff,back⟩:=ah.two (aS.thing _ _ _) hS;obtain ⟨Sp,Sq,hrp,hrq,hoff2,hsubq,backq⟩:=ah.two2 (aW.thing _ _ _ _ _ _) hr;obtain ⟨So,hro,hsubo,backo⟩:=ah.fst (aW.thing _ _ _ _ _ _) hrq;obtain ⟨S1,hm,hsub1,back1⟩:=ah.snd (dh.thing _ _) hro;obtain ⟨hS1,ow⟩:=hm;simp only at hS1 ow;obtain ⟨ad,cp,hform⟩:=eL ow;obtain ⟨g,cap,hfp,hcap,hcap2,hgl⟩:=iF hrp.2 (by simp);have inq:∀ k,(Value.slice ad ops.length cp).ownBlock=some k->Sq k:=fun k e=>hsubo k (hsub1 k (by rw [hS1,hform];exact e))
 have ne:(Value.slice ad ops.length cp).ownBlock≠some y:=fun e=>hoff y (by rw [hc.1];rfl) (hsubq y (inq y e))
 have neg:(Value.slice ad ops.length cp).ownBlock≠some g:=fun e=>hoff2 g (by rw [hrp.1,hfp];rfl) (inq g e)
 have cg:=(show w.ownsRow B 100 3 (.slice g ((v0,W,H,ops)::ps').length cap) _ _ by rw [<-hfp];exact hrp.2).cellAt (ps'.length*3+2) (by simp;omega);have hget:(iy ((v0,(W,H,ops))::ps'))[ps'.length*3+2]? =some v0:=by
  rw [iy,YQ (by rw [eT];omega),eT,show ps'.length*3+2 - ps'.length*3=2 by omega];rfl
 rw [hget,hform] at cg;have hrp':=hrp;rw [hfp] at hrp';have fg:=(hrp'.cellAt (ps'.length*3+2) (by rw [eT];simp;omega)).2;refine uu w B y g (ps'.length+1) cap ops.length cp ps'.length ad o.k o.a o.b o.c o.d o.e o.co o.ro o.s (k_ ops) rfl (by omega) (by simpa using hcap) hcap2 hpn (by rw [hc.at 1 _ rfl,hfp];rfl) cg fg hc.2.2.1 hgl hB (by rw [<-hform];exact ow) ne neg _ ?_;intro v w7 hg hA;obtain ⟨kr,km⟩:=hA.moved hg;rw [<-hform] at km;have m0:Mv S1 w (ob v) w7:=by rw [hS1];exact (Mv.grow ((ZV _ w).alloc (ZX _) _) (ob v0)).trans km
 obtain ⟨So',ho',mo⟩:=back1 (aW B 31 9 v (ops++[o]).length (k_ (ops++[o]))) w7 _ (by rw [qG,ZZ];exact kr) m0;obtain ⟨Sq',hq',mq⟩:=backo _ _ _ ho' mo;obtain ⟨Sb',hb',mb⟩:=backq _ _ _ hq' mq;rw [hfp] at hb';obtain ⟨Sr,hrr,_,backr⟩:=ah.fst (ah.thing (ah.thing (dh.thing _ _) (aW.thing _ _ _ _ _ _)) (aW.thing _ _ _ _ _ _)) hb';obtain ⟨kp,mp⟩:=hrr.put (ps'.length*3+2) v;rw [Aj _ _ _ _ (ops++[o])] at kp;obtain ⟨Sz,hz,mz⟩:=backr _ _ _ kp mp;obtain ⟨S',h',m'⟩:=back _ _ _ hz (mb.trans mz);rw [<-hfp] at h';refine ⟨rfl,S',⟨(v,(W,H,ops++[o]))::ps',vp,vm,?_,h'⟩,m'⟩;simp [St.put,hpl,hp]
theorem bj.near.text_len {o:bj} (h:o.near):o.text.length<=10000:=by
 obtain ⟨k,a,b,c,d,e,co,ro,s⟩:=o;obtain ⟨⟨a1,a2⟩,⟨b1,b2⟩,⟨c1,c2⟩,⟨d1,d2⟩,⟨e1,e2⟩,⟨co1,co2⟩,⟨ro1,ro2⟩,hs,hs1⟩:=h;simp only at a1 a2 b1 b2 c1 c2 d1 d2 e1 e2 co1 co2 ro1 ro2 hs hs1;have la:=eu a a1 a2;have lb:=eu b b1 b2;have lc:=eu c c1 c2;have ld:=eu d d1 d2;have le:=eu e e1 e2;have lco:=av co co1 co2;have lro:=av ro ro1 ro2;have lq:=ii s.data.toList;have ls:=aP s;rw [ls] at lq;unfold bj.text;simp only;split
 ·rename_i hk
  have:=hs1 hk;simp only [ZZ,ZY,ZW,aG,bc];omega
 ·split
  ·simp only [ZZ,ZY,ZW,aG];omega
  ·split
   ·simp only [ZZ,ZY,ZW,aG];omega
   ·simp only [ZZ,ZY,ZW,aG];omega
theorem RW.on {B y:Nat} {s:St} {w wx:World} {S:Bl} (h:RW B y s w S) (hb:Below w w wx):RW B y s wx S:=(RW.thing B y s).keep h (fun k hk=>hb.block k ((RW.thing B y s).lt h hk)) hb.size
theorem RW.sized {B y:Nat} {s:St} {w:World} {S:Bl} (h:RW B y s w S) (n:Nat):∃ S',RW B y {s with size:=n} (w.setCell (zq y 14) (n:Int)) S'/\Mv S w S' (w.setCell (zq y 14) (n:Int)):=by
 obtain ⟨ps,vp,vm,hp,hS⟩:=h;obtain ⟨S1,hc,_,back⟩:=ah.fst (lQ.thing _ _ _ _ _) hS;obtain ⟨k,m⟩:=hc.set 14 (.int .i64 (n:Int)) (by simp [jP]);obtain ⟨S',h',m'⟩:=back _ _ _ k m;exact ⟨S',⟨ps,vp,vm,hp,h'⟩,m'⟩
theorem pm (B y:Nat) (s:St) (w:World) (S:Bl) (o:bj) (ho:o.s.size<=9223372036854775807) (hok:s.ok) (hB:B<=w.heap.size) (ht:bU B w) (h:RW B y s w S):CP 59 #[zp y,o.val] w (ed B y w S (s.draw o)):=by
 have HD:∀ wx,Below w w wx->QD 110 #[zp y] wx s.drawing:=fun wx hb=>gV B y s wx S (h.on hb)
 have HI:∀ wx,QB 111 #[o.val] wx (.bool (decide o.is)):=fun wx=>AO wx o ho
 unfold St.draw;by_cases h1:s.drawing=false
 ·rw [ZO h1];rw [h1] at HD;refine (py w y o.k o.a o.b o.c o.d o.e o.co o.ro o.s _ HD HI).mono ?_;rintro e w' ⟨rfl,hb⟩;exact ed.same h hb
 ·rw [ZU h1];have hdr:s.drawing=true:=by cases e:s.drawing with | false=>exact absurd e h1 | true=>rfl
  rw [hdr] at HD;by_cases h2:¬ o.is
  ·rw [ZO h2];rw [Zf h2] at HI;refine (sH w y o.k o.a o.b o.c o.d o.e o.co o.ro o.s HD HI).mono ?_;rintro e w' ⟨rfl,hb⟩;exact ed.same h hb
  ·rw [ZU h2];have his:o.is:=Ya.1 h2;rw [YR his] at HI;have HX:∀ wx,Below w w wx->QB 112 #[o.val] wx (.string ⟨o.text.toArray⟩):=fun wx hb=>kW B wx o his.near (ZN hB hb.size) (ht.on (hb.mono hB))
   have hx:(⟨o.text.toArray⟩:ByteArray).size=o.text.length:=by simp [ByteArray.size]
   have htl:=his.near.text_len;have hsz:=hok.size;obtain ⟨hy,c14,f14⟩:y < w.heap.size/\w.cell? (zq y 14)=(s.size:Int)/\w.frozen? (zq y 14)=false:=by
    obtain ⟨ps,vp,vm,hp,hS⟩:=h;obtain ⟨S1,hc,_,_⟩:=ah.fst (lQ.thing _ _ _ _ _) hS;exact ⟨hc.2.2.1,hc.at 14 _ rfl,hc.fz 14⟩
   by_cases h3:1048576 < s.size+o.text.length
   ·rw [ZO h3];refine (pN w y o.k o.a o.b o.c o.d o.e o.co o.ro o.s _ s.size hsz (by omega) (by omega) hy c14 f14 HD HI HX).mono ?_;rintro e w' ⟨rfl,hb⟩;exact ed.same h hb
   ·rw [ZU h3];have hop:s.op=true:=by unfold St.drawing at hdr;simp at hdr;exact hdr.1
    obtain ⟨p,l,hpl,hpn⟩:=hok.some hop;refine vC w y o.k o.a o.b o.c o.d o.e o.co o.ro o.s _ s.size hsz (by omega) (by omega) hy c14 f14 HD HI HX _ ?_;intro wx hb;rw [hx];obtain ⟨S2,h2,m2⟩:=(h.on hb).sized (s.size+o.text.length);have hB2:B<=(wx.setCell (zq y 14) ((s.size+o.text.length:Nat):Int)).heap.size:=ZN hB (ZN hb.size m2.size);refine (ng B y {s with size:=s.size+o.text.length} _ S2 o p l hpl hok.pages (by omega) hB2 h2).mono ?_;rintro e w' ⟨rfl,S3,h3,m3⟩;exact ⟨rfl,rfl,S3,h3,((Mv.grow hb S).trans m2).trans m3⟩
theorem jy {t:ByteArray} (h:t.size=0):t=⟨#[]⟩:=by
 obtain ⟨a⟩:=t;have:a=#[]:=Array.size_eq_zero_iff.1 h;rw [this]
theorem sN {t:ByteArray} (h:¬ t.size=0):¬ t.toList=[]:=fun e=>h (by have h2:=jm t;rw [e] at h2;simpa using h2.symm)
theorem sL (w:World) (y:Nat) (k A X C D E Co Ro:Int) (t:ByteArray) (HD:Hid (∀ wx,Below w w wx->QD 110 #[zp y] wx true)) (hno:¬ (bj.mk k A X C D E Co Ro t).isFrame):QB 60 #[zp y,.agg #[k,A,X,C,D,E,Co,Ro,t]] w (1:Int):=by
 obtain ⟨b1,I1,q1⟩:=lH A (-14400000) 14400000;obtain ⟨b2,I2,q2⟩:=lH X (-14400000) 14400000;obtain ⟨b3,I3,q3⟩:=lH C 1 14400000;obtain ⟨b4,I4,q4⟩:=lH D 1 14400000;obtain ⟨b5,I5,q5⟩:=lH Co 1 64;obtain ⟨b6,I6,q6⟩:=lH Ro 1 64;by_cases k4:k=4
 subst k4;by_cases s0:t.size=0
 have h0:=jy s0;subst h0;by_cases e0:E=0
 subst e0
 cases b1
 rotate_left
 cases b2
 rotate_left
 cases b3
 rotate_left
 cases b4
 rotate_left
 cases b5
 rotate_left
 cases b6
 rotate_left
 exact absurd ⟨rfl,s0,rfl,q1 rfl,q2 rfl,q3 rfl,q4 rfl,q5 rfl,q6 rfl⟩ hno
 all_goals try have hs:=sN s0
 all_goals
  go_enter func60,ntmps60
  go_wp2_with fail
  refine (HD.out _ ((ZV _ w).alloc (ZX _) _)).mono ?_;rintro e w1 ⟨rfl,q,rfl⟩;go_wp2_with fail
  refine (I1.out _).mono ?_;rintro e w1 ⟨rfl,rfl⟩;go_wp2_with fail
  refine (I2.out _).mono ?_;rintro e w1 ⟨rfl,rfl⟩;go_wp2_with fail
  refine (I3.out _).mono ?_;rintro e w1 ⟨rfl,rfl⟩;go_wp2_with fail
  refine (I4.out _).mono ?_;rintro e w1 ⟨rfl,rfl⟩;go_wp2_with fail
  refine (I5.out _).mono ?_;rintro e w1 ⟨rfl,rfl⟩;go_wp2_with fail
  refine (I6.out _).mono ?_;rintro e w1 ⟨rfl,rfl⟩;go_wp2;go_ret;exact ⟨rfl,aY ((ZV _ w).alloc (ZX _) _)⟩
theorem mi (B y:Nat) (s:St) (w:World) (S:Bl) (o:bj) (hok:s.ok) (hB:B<=w.heap.size) (ht:bU B w) (h:RW B y s w S):CP 60 #[zp y,o.val] w (ed B y w S (s.begin o)):=by
 have HD:∀ wx,Below w w wx->QD 110 #[zp y] wx s.drawing:=fun wx hb=>gV B y s wx S (h.on hb)
 unfold St.begin;by_cases h1:s.drawing=false
 ·rw [ZO h1];rw [h1] at HD;refine (om w y o.k o.a o.b o.c o.d o.e o.co o.ro o.s HD).mono ?_;rintro e w' ⟨rfl,hb⟩;exact ed.same h hb
 rw [ZU h1];have hdr:s.drawing=true:=by cases e:s.drawing with | false=>exact absurd e h1 | true=>rfl
 rw [hdr] at HD;by_cases h2:¬ o.isFrame
 ·rw [ZO h2]
  suffices hh:CP 60 #[zp y,o.val] w fun e w'=>e=.returned (1:Int)/\Below w w w' by
   refine hh.mono ?_;rintro e w' ⟨rfl,hb⟩;exact ed.same h hb
  obtain ⟨k,A,X,C,D,E,Co,Ro,t⟩:=o;exact sL w y k A X C D E Co Ro t HD h2
 rw [ZU h2];have hfr:o.isFrame:=Ya.1 h2;clear h2;have HX:∀ wx,Below w w wx->QB 112 #[o.val] wx (.string ⟨o.text.toArray⟩):=fun wx hb=>kW B wx o hfr.near (ZN hB hb.size) (ht.on (hb.mono hB))
 have hx:(⟨o.text.toArray⟩:ByteArray).size=o.text.length:=by simp [ByteArray.size]
 have htl:=hfr.near.text_len;have hsz:=hok.size;obtain ⟨k,A,X,C,D,E,Co,Ro,t⟩:=o;obtain ⟨k4,s0,e0,i0,i1,i2,i3,i4,i5⟩:=hfr;simp only at k4 s0 e0 i0 i1 i2 i3 i4 i5;subst k4 e0;have:=jy s0;subst this;obtain ⟨hc0,hc1⟩:=i4;obtain ⟨hr0,hr1⟩:=i5;have i4:bG Co 1 64:=⟨hc0,hc1⟩;have i5:bG Ro 1 64:=⟨hr0,hr1⟩;have hp:0<=Co*Ro:=XI (by omega) (by omega);have hq:Co*Ro<=64*64:=XY hc1 hr1 (by omega) (by omega);have hm:Co*Ro=((Co*Ro).toNat:Int):=(Xv hp).symm;obtain ⟨x,hxe⟩:∃ x,x=(bj.mk 4 A X C D 0 Co Ro ⟨#[]⟩).text:=⟨_,rfl⟩;rw [<-hxe] at hx htl HX;simp only [<-hxe];obtain ⟨m,hme⟩:∃ m,m=(Co*Ro).toNat:=⟨_,rfl⟩;rw [<-hme] at hm;simp only [<-hme];have h0:=h;obtain ⟨ps,vp,vm,hpp,hS⟩:=h;obtain ⟨S1,hc,_,back⟩:=ah.fst (lQ.thing _ _ _ _ _) hS;by_cases h3:1048576 < s.size+x.length+m
 ·rw [ZO h3];refine (oF w y A X C D Co Ro m s.size ⟨x.toArray⟩ hc0 hc1 hr0 hr1 hm (by omega) hsz (by omega) (by omega) hc.2.2.1 (hc.at 14 _ rfl) hc.fz HD (uA i0) (uA i1) (uA i2) (uA i3) (uA i4) (uA i5) HX).mono ?_;rintro e w' ⟨rfl,hb⟩;exact ed.same h0 hb
 ·rw [ZU h3];refine sQ w y A X C D Co Ro m s.size ⟨x.toArray⟩ hc0 hc1 hr0 hr1 hm (by omega) hsz (by omega) (by omega) hc.2.2.1 (hc.at 14 _ rfl) hc.fz HD (uA i0) (uA i1) (uA i2) (uA i3) (uA i4) (uA i5) HX ⟨_,hc.at 13 _ rfl⟩ (fun j hj=>⟨by rw [hc.at (4+j) ((jP s vp vm)[4+j]'(by simp [jP];omega)) (ZK _)];rfl,hc.fz _⟩) _ ?_;intro wx hb;rw [hx];have hcx:aS B y (jP s vp vm) wx S1:=(aS.thing B y _).keep hc (fun k hk=>hb.block k ((aS.thing B y _).lt hc hk)) hb.size;obtain ⟨a1,m1⟩:=hcx.set 14 (.int .i64 ((s.size+x.length+m:Nat):Int)) (by simp [jP]);obtain ⟨a2,m2⟩:=a1.set 4 (.int .i64 4) (by simp [jP]);obtain ⟨a3,m3⟩:=a2.set 5 (.int .i64 A) (by simp [jP]);obtain ⟨a4,m4⟩:=a3.set 6 (.int .i64 X) (by simp [jP]);obtain ⟨a5,m5⟩:=a4.set 7 (.int .i64 C) (by simp [jP]);obtain ⟨a6,m6⟩:=a5.set 8 (.int .i64 D) (by simp [jP]);obtain ⟨a7,m7⟩:=a6.set 9 (.int .i64 0) (by simp [jP]);obtain ⟨a8,m8⟩:=a7.set 10 (.int .i64 Co) (by simp [jP]);obtain ⟨a9,m9⟩:=a8.set 11 (.int .i64 Ro) (by simp [jP]);obtain ⟨a10,m10⟩:=a9.set 12 (.string ⟨#[]⟩) (by simp [jP]);obtain ⟨a11,m11⟩:=a10.set 13 (.int .i64 (m:Int)) (by simp [jP]);obtain ⟨S',h',m'⟩:=back _ _ _ a11 ((Mv.grow hb S1).trans (m1.trans (m2.trans (m3.trans (m4.trans (m5.trans (m6.trans (m7.trans (m8.trans (m9.trans (m10.trans m11)))))))))));exact ⟨rfl,S',⟨ps,vp,vm,hpp,h'⟩,m'⟩
theorem o_ (B y:Nat) (s:St) (w:World) (S:Bl) (t:ByteArray) (ht:t.size<=9223372036854775807) (hok:s.ok) (hB:B<=w.heap.size) (h:RW B y s w S):CP 61 #[zp y,t] w (ed B y w S (s.data t)):=by
 have h0:=h;obtain ⟨ps,vp,vm,hp,hS⟩:=h;obtain ⟨S1,hc,_,back⟩:=ah.fst (lQ.thing _ _ _ _ _) hS;have hl:=hok.left;unfold St.data;by_cases h1:s.left=0
 ·rw [ZO h1];refine (o5 w y s.left t ht (by omega) (hc.at 13 _ rfl) (.inl h1)).mono ?_;rintro e w' ⟨rfl,rfl⟩;rw [ZO h1];exact ed.same h0 (ZV _ _)
 rw [ZU h1];by_cases h2:s.left < t.size
 ·rw [ZO h2];refine (o5 w y s.left t ht (by omega) (hc.at 13 _ rfl) (.inr h2)).mono ?_;rintro e w' ⟨rfl,rfl⟩;rw [ZU h1];exact ed.same h0 (ZV _ _)
 rw [ZU h2];obtain ⟨a1,m1⟩:=hc.set 12 (.string (s.img.s++t)) (by simp [jP]);by_cases h3:t.size < s.left
 ·rw [ZO h3];refine (ri w y s.left t s.img.s (by omega) (by omega) h3 (hc.at 13 _ rfl) (hc.at 12 _ rfl) hc.fz).mono ?_;rintro e w' ⟨rfl,rfl⟩;obtain ⟨a2,m2⟩:=a1.set 13 (.int .i64 ((s.left - t.size:Nat):Int)) (by simp [jP]);obtain ⟨S',h',m'⟩:=back _ _ _ a2 (m1.trans m2);exact ⟨rfl,S',⟨ps,vp,vm,hp,h'⟩,m'⟩
 rw [ZU h3];have he:s.left=t.size:=by omega
 have hop:s.op=true:=by
  cases e:s.op with
  | true=>rfl
  | false=>exact absurd (hok.idle e) h1
 obtain ⟨p,l,hpl,hpn⟩:=hok.some hop;have hsz:=hok.size;obtain ⟨a2,m2⟩:=a1.set 13 (.int .i64 0) (by simp [jP]);obtain ⟨S2,h2',m2'⟩:=back _ _ _ a2 (m1.trans m2);have c13:w.cell? (zq y 13)=(t.size:Int):=by rw [<-he];exact hc.at 13 _ rfl
 have hrng:w.rangeAt y 4 [.int .i64 s.img.k,.int .i64 s.img.a,.int .i64 s.img.b,.int .i64 s.img.c,.int .i64 s.img.d,.int .i64 s.img.e,.int .i64 s.img.co,.int .i64 s.img.ro]:=by
  intro j v hv;have hj:j < 8:=(Zv.1 hv).1;refine hc.at (4+j) v ?_;rw [<-hv]
  match j,hj with
  | 0,_=>rfl
  | 1,_=>rfl
  | 2,_=>rfl
  | 3,_=>rfl
  | 4,_=>rfl
  | 5,_=>rfl
  | 6,_=>rfl
  | 7,_=>rfl
 refine rx w y s.img.k s.img.a s.img.b s.img.c s.img.d s.img.e s.img.co s.img.ro t s.img.s (by omega) (by omega) (by omega) c13 (hc.at 12 _ rfl) hrng hc.fz _ ?_;have hRW:RW B y {s with img:=s.more t,left:=0} ((w.setCell (zq y 12) (.string (s.img.s++t))).setCell (zq y 13) (0:Int)) S2:=⟨ps,vp,vm,hp,h2'⟩;refine (ng B y {s with img:=s.more t,left:=0} _ S2 (s.more t) p l hpl hok.pages (by omega) (ZN hB m2'.size) hRW).mono ?_;rintro e w' ⟨rfl,S3,h3,m3⟩;exact ⟨rfl,rfl,S3,h3,m2'.trans m3⟩
theorem St.drawing_of {s:St} (h:s.drawing=true):s.op=true/\s.left=0:=by unfold St.drawing at h;simpa using h
theorem St.ok.ended {s:St} (h:s.ok):s.endPage.2.ok:=by
 unfold St.endPage;split
 ·rename_i hd
  exact ⟨h.size,h.left,h.pages,fun e=>by simp at e,h.marks,fun _=>(St.drawing_of hd).2,fun _=>rfl⟩
 ·exact h
theorem St.ok.closed {s:St} (h:s.ok):s.close.2.ok:=by
 unfold St.close;split
 ·exact h
 ·rename_i hn
  refine ⟨h.size,h.left,h.pages,h.some,h.marks,h.idle,fun _=>?_⟩
  cases e:s.op with
  | false=>rfl
  | true=>exact absurd (.inl e) hn
theorem St.ok.titled {s:St} (h:s.ok) (t:ByteArray):(s.titled t).2.ok:=by
 unfold St.titled;split
 ·exact h
 ·split
  ·exact h
  ·exact ⟨h.size,h.left,h.pages,h.some,h.marks,h.idle,h.shut⟩
theorem St.ok.paged {s:St} (h:s.ok) (W H:Int):(s.page W H).2.ok:=by
 unfold St.page;split
 ·exact h
 ·rename_i hn
  split
  ·exact h
  ·split
   ·exact h
   ·rename_i h8
    have ho:s.op=false:=by
     cases e:s.op with
     | false=>rfl
     | true=>exact absurd (.inl e) hn
    have hl:=h.idle ho;have hp:=h.pages;refine ⟨by simp,h.left,by simp;omega,fun _=>⟨_,_,rfl,by simp [hl]⟩,h.marks,fun e=>by simp at e,fun e=>?_⟩;exact absurd (.inr e) hn
theorem St.ok.marked {s:St} (h:s.ok) (t:ByteArray):(s.mark t).2.ok:=by
 unfold St.mark;split
 ·exact h
 ·split
  ·exact h
  ·split
   ·exact h
   ·rename_i h8
    exact ⟨h.size,h.left,h.pages,h.some,by simp;omega,h.idle,h.shut⟩
theorem bj.text_pos (o:bj):0 < o.text.length:=by
 cases e:o.text with
 | nil=>exact absurd e o.text_ne
 | cons a l=>simp
theorem St.put_len (s:St) (o:bj):(s.put o).length=s.pages.length:=by
 unfold St.put
 cases s.pages with
 | nil=>rfl
 | cons p l=>simp
theorem St.ok.drawn {s:St} (h:s.ok) (o:bj):(s.draw o).2.ok:=by
 unfold St.draw;split
 ·exact h
 ·rename_i hd
  have hdr:s.drawing=true:=by cases e:s.drawing with | false=>exact absurd e hd | true=>rfl
  obtain ⟨hop,hl⟩:=St.drawing_of hdr;split
  ·exact h
  ·split
   ·exact h
   ·obtain ⟨p,l,hpl,hpn⟩:=h.some hop;have:=o.text_pos;rw [ZO hl] at hpn;have hpg:=h.pages;refine ⟨by simp only;omega,h.left,by simp only [St.put_len];omega,fun _=>⟨(p.1,p.2.1,p.2.2++[o]),l,by simp [St.put,hpl],by simp [hl];omega⟩,h.marks,h.idle,h.shut⟩
theorem St.ok.began {s:St} (h:s.ok) (o:bj):(s.begin o).2.ok:=by
 unfold St.begin;split
 ·exact h
 ·rename_i hd
  have hdr:s.drawing=true:=by cases e:s.drawing with | false=>exact absurd e hd | true=>rfl
  obtain ⟨hop,hl⟩:=St.drawing_of hdr;split
  ·exact h
  ·rename_i hf
   have hfr:o.isFrame:=Ya.1 hf;split
   ·exact h
   ·obtain ⟨p,l,hpl,hpn⟩:=h.some hop;have:=o.text_pos;rw [ZO hl] at hpn;obtain ⟨_,s0,_,_,_,_,_,⟨c1,c2⟩,⟨r1,r2⟩⟩:=hfr;have hp:0<=o.co*o.ro:=XI (by omega) (by omega);have hq:o.co*o.ro<=64*64:=XY c2 r2 (by omega) (by omega);refine ⟨by simp only;omega,by simp only [s0];omega,h.pages,fun _=>⟨p,l,hpl,?_⟩,h.marks,fun e=>?_,h.shut⟩
    ·simp only;split <;> omega
    ·exact absurd (hop.symm.trans e) (by simp)
theorem St.ok.fed {s:St} (h:s.ok) (t:ByteArray):(s.data t).2.ok:=by
 unfold St.data;split
 ·exact h
 ·rename_i h0
  split
  ·exact h
  ·rename_i h1
   have hop:s.op=true:=by
    cases e:s.op with
    | true=>rfl
    | false=>exact absurd (h.idle e) h0
   obtain ⟨p,l,hpl,hpn⟩:=h.some hop;rw [ZU h0] at hpn;have hl:=h.left;have hm:(s.more t).s.size=s.img.s.size+t.size:=by simp [St.more]
   split
   ·refine ⟨h.size,by simp only [hm];omega,h.pages,fun _=>⟨p,l,hpl,?_⟩,h.marks,fun e=>absurd (hop.symm.trans e) (by simp),h.shut⟩;simp only;split <;> omega
   ·have hpg:=h.pages;refine ⟨h.size,by simp only [hm];omega,by simp only [St.put_len];omega,fun _=>⟨(p.1,p.2.1,p.2.2++[s.more t]),l,by simp [St.put,hpl],by simp;omega⟩,h.marks,fun _=>rfl,h.shut⟩
def St.new:St:=⟨⟨#[]⟩,[],[],false,⟨0,0,0,0,0,0,0,0,⟨#[]⟩⟩,0,0,false⟩
theorem St.new_ok:St.new.ok:=⟨by decide,by decide,by decide,fun e=>by simp [St.new] at e,by decide,fun _=>rfl,fun e=>by simp [St.new] at e⟩
theorem RW.new {B:Nat} {w:World} (hB:B<=w.heap.size):RW B w.heap.size St.new (w.alloc (.cells #[.string ⟨#[]⟩,.slice none 0 0,.slice none 0 0,false,oz,oz,oz,oz,oz,oz,oz,oz,.string ⟨#[]⟩,oz,oz,false] 33)) (cC w.heap.size):=by
 have hn:∀ k,ob (.slice none 0 0) k->False:=fun k e=>by simp [ob,Value.ownBlock] at e
 have he:∀ S,(fun k=>S k\/ob (.slice none 0 0) k)=S:=fun S=>funext fun k=>propext ⟨fun e=>e.elim id (fun e=>(hn k e).elim),.inl⟩
 refine ⟨[],.slice none 0 0,.slice none 0 0,rfl,cC w.heap.size,fun _=>False,aS.alloc hB,?_,fun k _ e=>e,funext fun k=>propext ⟨.inl,fun e=>e.elim id False.elim⟩⟩;refine ⟨ob (.slice none 0 0),fun _=>False,aW.nil _ _ _ _,?_,fun k e=>(hn k e).elim,funext fun k=>propext ⟨False.elim,fun e=>e.elim (hn k) id⟩⟩;exact ⟨fun _=>False,ob (.slice none 0 0),rfl,aW.nil _ _ _ _,fun k e=>e.elim,funext fun k=>propext ⟨False.elim,fun e=>e.elim id (hn k)⟩⟩
end Go.Proofs.YtbklfkpjoinofaaGreatDoor
