import Derived.Test.YtbklfkpjoinofaaGreatDoorA47
import Derived.Deep.Slices
import Derived.ProofKit
set_option linter.all false
set_option maxRecDepth 100000
set_option maxHeartbeats 8000000
namespace Go.Proofs.YtbklfkpjoinofaaGreatDoor
open Go.RowKit Go.Proofs.Tryz
theorem wU (n:Wn) (y:Nat) (s:St) (w:World) (S:Bl) (k On W H K A X C D E Co Ro:Int) (t str:ByteArray) (hlim:n.lim < 0) (hok:s.ok) (hfine:s.fine) (hB:n.B<=w.heap.size) (ht:bU n.B w) (hts:t.size<=9223372036854775807) (hss:str.size<=9223372036854775807) (h:Pr n y s w S):
  CP 12 #[.agg #[zp n.Wb,zp y],.agg #[k,On,W,H,K,A,X,C,D,E,Co,Ro,t,str]] w (yU n y w S):=by
 have hyl:y < w.heap.size:=by
  obtain ⟨S1,S2,_,hR,_⟩:=h;obtain ⟨_,_,_,_,hy,_⟩:=hR.open;exact hy
 have tW:∀ s,aJ n.B (WD n s):=fun s=>WD.thing n s
 have tR:∀ s,aJ n.B (RW n.B y s):=fun s=>RW.thing n.B y s
 have hge:∀ k,S k->n.B<=k:=fun k hk=>(Pr.thing n y s).ge h hk
 have tabs:∀ {S1 w1},Mv S w S1 w1->bU n.B w1/\n.B<=w1.heap.size:=fun m=>⟨ht.on (m.below hge hB),ZN hB m.size⟩
 have plain:∀ (kk:Int) (r:Int×St),r.2.ok->r.2.fine->¬ (r.1=0/\(kk=8\/(kk=7/\r.2.op=false)))->¬ (r.1=0/\kk=9)->¬ (kk=10/\r.2.cl=true)->
   (∀ wx,Below w w wx->CP 28 #[.agg #[zp n.Wb,zp y],.agg #[kk,On,W,H,K,A,X,C,D,E,Co,Ro,t,str]] wx fun e w'=>e=.returned (.tuple #[.int .i64 r.1,.int .i64 r.1])/\(∃ S',ah (WD n r.2) (RW n.B y r.2) w' S'/\Mv S w S' w')/\aM w wx w')->
   CP 12 #[.agg #[zp n.Wb,zp y],.agg #[kk,On,W,H,K,A,X,C,D,E,Co,Ro,t,str]] w (yU n y w S):=by
  intro kk r ro rf h8 h9 h10 HC;refine (vY w (zp n.Wb) y rfl kk r.1 On W H K A X C D E Co Ro t str r.2.op r.2.cl (fun w'=>∃ S',ah (WD n r.2) (RW n.B y r.2) w' S'/\Mv S w S' w') h8 h9 h10 HC ?_).mono ?_
  ·rintro w1 ⟨S',h',_⟩;exact Pr.flags h'
  ·rintro e w' ⟨rfl,S',h',m'⟩;exact ⟨rfl,r.2,S',ro,rf,h',m'⟩
 have begun:∀ (kk:Int) (s':St),s'.ok->s'.fine->(kk=8\/(kk=7/\s'.op=false))->
   (∀ wx,Below w w wx->CP 28 #[.agg #[zp n.Wb,zp y],.agg #[kk,On,W,H,K,A,X,C,D,E,Co,Ro,t,str]] wx fun e w'=>e=.returned (.tuple #[oz,oz])/\(∃ S',ah (Av n s') (RW n.B y s') w' S'/\Mv S w S' w')/\aM w wx w')->
   CP 12 #[.agg #[zp n.Wb,zp y],.agg #[kk,On,W,H,K,A,X,C,D,E,Co,Ro,t,str]] w (yU n y w S):=by
  intro kk s' ro rf hk HC;refine sD w (zp n.Wb) y rfl kk 0 On W H K A X C D E Co Ro t str s'.op s'.cl (fun w'=>∃ S',ah (Av n s') (RW n.B y s') w' S'/\Mv S w S' w') _ rfl hk ?_ HC ?_
  ·rintro w1 ⟨S',⟨S1,S2,⟨xs,hx⟩,hR,ho,hS⟩,m'⟩;obtain ⟨t1,b1⟩:=tabs m';have hxl:xs.length<=80:=by
    have e:xs.length=s'.pages.length:=by rw [<-hx.2.2.2.1];simp
    have:=ro.pages;omega
   refine (vU n y s' xs w1 S' hxl b1 t1 ⟨S1,S2,hx,hR,ho,hS⟩).mono ?_;rintro e w2 ⟨rfl,b2⟩;have hp:Pr n y s' w1 S':=⟨S1,S2,hx.wd,hR,ho,hS⟩;exact ⟨rfl,rfl,s',S',ro,rf,(Pr.thing n y s').grow hp b2,m'.trans (Mv.grow b2 S')⟩
  ·rintro w1 ⟨S',h',_⟩;exact Pr.flags h'
 have zero:∀ (kk:Int),(kk < 1\/9 < kk)->∀ wx,Below w w wx->CP 28 #[.agg #[zp n.Wb,zp y],.agg #[kk,On,W,H,K,A,X,C,D,E,Co,Ro,t,str]] wx fun e w'=>e=.returned (.tuple #[oz,oz])/\(∃ S',ah (WD n s) (RW n.B y s) w' S'/\Mv S w S' w')/\aM w wx w':=by
  intro kk hk wx hbx;refine (yw wx _ _ rfl rfl kk On W H K A X C D E Co Ro t str hk).mono ?_;rintro e w' ⟨rfl,hg⟩;have hb2:Below w w w':=hbx.trans (YY hg hbx.size);exact ⟨rfl,⟨S,(Pr.thing n y s).grow h hb2,Mv.grow hb2 S⟩,aM.of hg⟩
 by_cases h19:k < 1\/9 < k
 ·by_cases h10:k=10/\s.cl=true
  ·obtain ⟨rfl,hcl⟩:=h10;refine qy w (zp n.Wb) y rfl 10 0 On W H K A X C D E Co Ro t str s.op s.cl (fun w'=>∃ S',ah (WD n s) (RW n.B y s) w' S'/\Mv S w S' w') _ rfl hcl hyl ?_ (zero 10 (.inr (by decide))) ?_
   ·rintro w1 ⟨S',h',m'⟩;obtain ⟨t1,b1⟩:=tabs m';refine jY n y s w w1 S' w.heap.size _ hok hfine hcl b1 t1 h' ?_;intro w9 b9;exact ⟨rfl,s,S',hok,hfine,(Pr.thing n y s).grow h' b9,m'.trans (Mv.grow b9 S')⟩
   ·rintro w1 ⟨S',h',_⟩;exact Pr.flags h'
  ·refine plain k (0,s) hok hfine ?_ ?_ h10 (zero k h19)
   ·rintro ⟨_,e | ⟨e,_⟩⟩ <;> omega
   ·rintro ⟨_,e⟩;omega
 have hk9:k=1\/k=2\/k=3\/k=4\/k=5\/k=6\/k=7\/k=8\/k=9:=by omega
 rcases hk9 with rfl | rfl | rfl | rfl | rfl | rfl | rfl | rfl | rfl
 ·exact plain 1 (s.page W H) (hok.paged W H) (hfine.paged W H) (by rintro ⟨_,e | ⟨e,_⟩⟩ <;> exact absurd e (by decide)) (by rintro ⟨_,e⟩;exact absurd e (by decide)) (by rintro ⟨e,_⟩;exact absurd e (by decide)) (cj (fun wx=>xI wx _ _ rfl rfl On W H K A X C D E Co Ro t str) w S n.B (s.page W H).1 (WD n s) (RW n.B y s) (WD n (s.page W H).2) (RW n.B y (s.page W H).2) (tW s) (tR s) (tW _) h hB ht (fun wz S1 h1 hb ht1=>vW n s wz S1 W H hlim hok hb ht1 h1) (fun wz S1 h1 hb ht1=>nB n.B y s wz S1 W H hok hb h1))
 ·exact plain 2 (s.draw ⟨K,A,X,C,D,E,Co,Ro,t⟩) (hok.drawn ⟨K,A,X,C,D,E,Co,Ro,t⟩) (hfine.drawn ⟨K,A,X,C,D,E,Co,Ro,t⟩) (by rintro ⟨_,e | ⟨e,_⟩⟩ <;> exact absurd e (by decide)) (by rintro ⟨_,e⟩;exact absurd e (by decide)) (by rintro ⟨e,_⟩;exact absurd e (by decide)) (cj (fun wx=>yP wx _ _ rfl rfl On W H K A X C D E Co Ro t str) w S n.B (s.draw ⟨K,A,X,C,D,E,Co,Ro,t⟩).1 (WD n s) (RW n.B y s) (WD n (s.draw ⟨K,A,X,C,D,E,Co,Ro,t⟩).2) (RW n.B y (s.draw ⟨K,A,X,C,D,E,Co,Ro,t⟩).2) (tW s) (tR s) (tW _) h hB ht (fun wz S1 h1 hb ht1=>xd n s wz S1 ⟨K,A,X,C,D,E,Co,Ro,t⟩ hts hlim hok hb ht1 h1) (fun wz S1 h1 hb ht1=>pm n.B y s wz S1 ⟨K,A,X,C,D,E,Co,Ro,t⟩ hts hok hb ht1 h1))
 ·exact plain 3 (s.begin ⟨K,A,X,C,D,E,Co,Ro,t⟩) (hok.began ⟨K,A,X,C,D,E,Co,Ro,t⟩) (hfine.began ⟨K,A,X,C,D,E,Co,Ro,t⟩) (by rintro ⟨_,e | ⟨e,_⟩⟩ <;> exact absurd e (by decide)) (by rintro ⟨_,e⟩;exact absurd e (by decide)) (by rintro ⟨e,_⟩;exact absurd e (by decide)) (cj (fun wx=>xD wx _ _ rfl rfl On W H K A X C D E Co Ro t str) w S n.B (s.begin ⟨K,A,X,C,D,E,Co,Ro,t⟩).1 (WD n s) (RW n.B y s) (WD n (s.begin ⟨K,A,X,C,D,E,Co,Ro,t⟩).2) (RW n.B y (s.begin ⟨K,A,X,C,D,E,Co,Ro,t⟩).2) (tW s) (tR s) (tW _) h hB ht (fun wz S1 h1 hb ht1=>sm n s wz S1 ⟨K,A,X,C,D,E,Co,Ro,t⟩ hlim hok hb ht1 h1) (fun wz S1 h1 hb ht1=>mi n.B y s wz S1 ⟨K,A,X,C,D,E,Co,Ro,t⟩ hok hb ht1 h1))
 ·exact plain 4 (s.data str) (hok.fed str) (hfine.fed str) (by rintro ⟨_,e | ⟨e,_⟩⟩ <;> exact absurd e (by decide)) (by rintro ⟨_,e⟩;exact absurd e (by decide)) (by rintro ⟨e,_⟩;exact absurd e (by decide)) (cj (fun wx=>xG wx _ _ rfl rfl On W H K A X C D E Co Ro t str) w S n.B (s.data str).1 (WD n s) (RW n.B y s) (WD n (s.data str).2) (RW n.B y (s.data str).2) (tW s) (tR s) (tW _) h hB ht (fun wz S1 h1 hb ht1=>vI n s wz S1 str hss hlim hok h1) (fun wz S1 h1 hb ht1=>o_ n.B y s wz S1 str hss hok hb h1))
 ·exact plain 5 (s.mark str) (hok.marked str) (hfine.marked hok str) (by rintro ⟨_,e | ⟨e,_⟩⟩ <;> exact absurd e (by decide)) (by rintro ⟨_,e⟩;exact absurd e (by decide)) (by rintro ⟨e,_⟩;exact absurd e (by decide)) (cj (fun wx=>xA wx _ _ rfl rfl On W H K A X C D E Co Ro t str) w S n.B (s.mark str).1 (WD n s) (RW n.B y s) (WD n (s.mark str).2) (RW n.B y (s.mark str).2) (tW s) (tR s) (tW _) h hB ht (fun wz S1 h1 hb ht1=>wg n s wz S1 str hss hok hb h1) (fun wz S1 h1 hb ht1=>oN n.B y s wz S1 str hss hok hb h1))
 ·exact plain 6 (s.titled str) (hok.titled str) (hfine.titled str) (by rintro ⟨_,e | ⟨e,_⟩⟩ <;> exact absurd e (by decide)) (by rintro ⟨_,e⟩;exact absurd e (by decide)) (by rintro ⟨e,_⟩;exact absurd e (by decide)) (cj (fun wx=>xC wx _ _ rfl rfl On W H K A X C D E Co Ro t str) w S n.B (s.titled str).1 (WD n s) (RW n.B y s) (WD n (s.titled str).2) (RW n.B y (s.titled str).2) (tW s) (tR s) (tW _) h hB ht (fun wz S1 h1 hb ht1=>uc n s wz S1 str hss h1) (fun wz S1 h1 hb ht1=>l_ n.B y s wz S1 str hss h1))
 ·by_cases hcl:s.cl=true
  ·have e2:s.flush=2:=by simp [St.flush,hcl]
   refine plain 7 (s.flush,s) hok hfine (by rintro ⟨e,_⟩;rw [e2] at e;exact absurd (show (2:Int)=0 from e) (by decide)) (by rintro ⟨_,e⟩;exact absurd e (by decide)) (by rintro ⟨e,_⟩;exact absurd e (by decide)) (cj (fun wx=>pF wx _ _ rfl rfl On W H K A X C D E Co Ro t str) w S n.B s.flush (WD n s) (RW n.B y s) (WD n s) (RW n.B y s) (tW s) (tR s) (tW _) h hB ht (fun wz S1 h1 hb ht1=>m_ n s wz S1 hlim hok h1) (fun wz S1 h1 hb ht1=>h_ n.B y s wz S1 h1))
  ·have hc:s.cl=false:=by simpa using hcl
   have e0:s.flush=0:=by simp [St.flush,hc]
   by_cases hop:s.op=true
   ·refine plain 7 (s.flush,s) hok hfine (by rintro ⟨_,e | ⟨_,e⟩⟩;exact absurd e (by decide);exact absurd (hop.symm.trans e) (by decide)) (by rintro ⟨_,e⟩;exact absurd e (by decide)) (by rintro ⟨e,_⟩;exact absurd e (by decide)) (cj (fun wx=>pF wx _ _ rfl rfl On W H K A X C D E Co Ro t str) w S n.B s.flush (WD n s) (RW n.B y s) (WD n s) (RW n.B y s) (tW s) (tR s) (tW _) h hB ht (fun wz S1 h1 hb ht1=>m_ n s wz S1 hlim hok h1) (fun wz S1 h1 hb ht1=>h_ n.B y s wz S1 h1))
   ·have ho:s.op=false:=by simpa using hop
    refine begun 7 s hok hfine (.inr ⟨rfl,ho⟩) (cj (fun wx=>pF wx _ _ rfl rfl On W H K A X C D E Co Ro t str) w S n.B 0 (WD n s) (RW n.B y s) (Av n s) (RW n.B y s) (tW s) (tR s) (Av.thing n s) h hB ht (fun wz S1 h1 hb ht1=>?_) (fun wz S1 h1 hb ht1=>?_))
    ·refine (qI n s wz S1 hlim hok hc ho h1).mono ?_;rintro e w' ⟨rfl,xs,S',h',m'⟩;exact ⟨rfl,S',⟨xs,h'⟩,m'⟩
    ·have:=h_ n.B y s wz S1 h1;rw [e0] at this;exact this
 ·by_cases hd:s.drawing=true
  ·have e0:s.endPage=(0,{s with op:=false}):=by simp [St.endPage,hd]
   have hok':=hok.ended;have hfine':=hfine.ended;rw [e0] at hok' hfine';refine begun 8 {s with op:=false} hok' hfine' (.inl rfl) (cj (fun wx=>sJ wx _ _ rfl rfl On W H K A X C D E Co Ro t str) w S n.B 0 (WD n s) (RW n.B y s) (Av n {s with op:=false}) (RW n.B y {s with op:=false}) (tW s) (tR s) (Av.thing n _) h hB ht (fun wz S1 h1 hb ht1=>?_) (fun wz S1 h1 hb ht1=>?_))
   ·refine (Aq n s wz S1 hlim hok hb ht1 hd h1).mono ?_;rintro e w' ⟨rfl,xs,S',h',m'⟩;exact ⟨rfl,S',⟨xs,h'⟩,m'⟩
   ·have:=nA n.B y s wz S1 h1;rw [e0] at this;exact this
  ·have e2:s.endPage=(2,s):=by simp [St.endPage,hd]
   refine plain 8 s.endPage hok.ended hfine.ended (by rw [e2];rintro ⟨e,_⟩;exact absurd (show (2:Int)=0 from e) (by decide)) (by rintro ⟨_,e⟩;exact absurd e (by decide)) (by rintro ⟨e,_⟩;exact absurd e (by decide)) (cj (fun wx=>sJ wx _ _ rfl rfl On W H K A X C D E Co Ro t str) w S n.B s.endPage.1 (WD n s) (RW n.B y s) (WD n s.endPage.2) (RW n.B y s.endPage.2) (tW s) (tR s) (tW _) h hB ht (fun wz S1 h1 hb ht1=>yf n s wz S1 hlim hok hb ht1 h1) (fun wz S1 h1 hb ht1=>nA n.B y s wz S1 h1))
 ·have HC:=cj (fun wx=>yI wx _ _ rfl rfl On W H K A X C D E Co Ro t str) w S n.B s.close.1 (WD n s) (RW n.B y s) (WD n s.close.2) (RW n.B y s.close.2) (tW s) (tR s) (tW _) h hB ht (fun wz S1 h1 hb ht1=>tv n s wz S1 hlim hok hfine hb ht1 h1) (fun wz S1 h1 hb ht1=>mX n.B y s wz S1 h1);have hok':=hok.closed;have hfine':=hfine.closed;by_cases hoc:s.op=true\/s.cl=true
  ·have e2:s.close=(2,s):=by simp [St.close,hoc]
   exact plain 9 s.close hok' hfine' (by rw [e2];rintro ⟨e,_⟩;exact absurd (show (2:Int)=0 from e) (by decide)) (by rw [e2];rintro ⟨e,_⟩;exact absurd (show (2:Int)=0 from e) (by decide)) (by rintro ⟨e,_⟩;exact absurd e (by decide)) HC
  ·have e0:s.close=(0,{s with cl:=true}):=by unfold St.close;rw [ZU hoc]
   rw [e0] at HC hok' hfine';refine t7 w (zp n.Wb) y rfl 9 0 On W H K A X C D E Co Ro t str s.op true (fun w'=>∃ S',ah (WD n {s with cl:=true}) (RW n.B y {s with cl:=true}) w' S'/\Mv S w S' w') _ rfl hyl ?_ HC ?_
   ·rintro w1 ⟨S',h',m'⟩;obtain ⟨t1,b1⟩:=tabs m';refine jY n y {s with cl:=true} w w1 S' w.heap.size _ hok' hfine' rfl b1 t1 h' ?_;intro w9 b9;exact ⟨rfl,{s with cl:=true},S',hok',hfine',(Pr.thing n y _).grow h' b9,m'.trans (Mv.grow b9 S')⟩
   ·rintro w1 ⟨S',h',_⟩;exact Pr.flags h'
theorem vg (w:World) (lim:Int):(fU w lim).heap.size=w.heap.size+5:=by simp [fU]
theorem tp (w:World) (lim:Int):Below w w (fU w lim):=by
 unfold fU;refine ((((((ZV _ w).alloc ?_ _).alloc ?_ _).alloc ?_ _).alloc ?_ _).alloc ?_ _) <;> simp <;> omega
def Pb (n:Wn) (y p:Nat) (s:St):As:=ah (aS n.B p [.pointer (some ⟨n.Wb,0,none⟩),.pointer (some ⟨y,0,none⟩)]) (Pr n y s)
theorem Pb.thing (n:Wn) (y p:Nat) (s:St):aJ n.B (Pb n y p s):=ah.thing (aS.thing _ _ _) (Pr.thing n y s)
theorem Pb.new (B:Nat) (w:World) (lim:Int) (hB:B<=w.heap.size) (hl:lim < 0) (hl2:-9223372036854775808<=lim):(cS w lim).heap.size=w.heap.size+7/\Below w w (cS w lim)/\∃ S,Pb (Wn.at B w.heap.size lim) (w.heap.size+5) (w.heap.size+6) St.new (cS w lim) S/\∀ k,S k->w.heap.size<=k:=by
 obtain ⟨S1,h1,e1⟩:=WD.new B w lim hB hl hl2;have z1:=vg w lim;have b1:=tp w lim;obtain ⟨u,hu⟩:∃ u,u=fU w lim:=⟨_,rfl⟩;rw [<-hu] at h1 z1 b1;have h2:=RW.new (B:=B) (w:=u) (by omega);obtain ⟨u2,hu2⟩:∃ u2,u2=u.alloc (.cells #[.string ⟨#[]⟩,.slice none 0 0,.slice none 0 0,false,oz,oz,oz,oz,oz,oz,oz,oz,.string ⟨#[]⟩,oz,oz,false] 33):=⟨_,rfl⟩;rw [<-hu2] at h2;have z2:u2.heap.size=w.heap.size+6:=by rw [hu2];simp [z1]
 have b2:Below u u u2:=by rw [hu2];exact (ZV _ u).alloc (ZX _) _
 have h3:=ah.new (WD.thing (Wn.at B w.heap.size lim) St.new) h1 h2 b2 (fun k e=>by have:k=u.heap.size:=e;omega);have h4:Pr (Wn.at B w.heap.size lim) (w.heap.size+5) St.new u2 (cT (cC u.heap.size) S1):=by
  have:=ah.swap h3.1;rw [z1] at this;rw [z1];exact this
 obtain ⟨u3,hu3⟩:∃ u3,u3=u2.alloc (.cells #[zp (w.heap.size+4),zp (w.heap.size+5)] 35):=⟨_,rfl⟩;have z3:u3.heap.size=w.heap.size+7:=by rw [hu3];simp [z2]
 have b3:Below u2 u2 u3:=by rw [hu3];exact (ZV _ u2).alloc (ZX _) _
 have c3:aS B (w.heap.size+6) [.pointer (some ⟨w.heap.size+4,0,none⟩),.pointer (some ⟨w.heap.size+5,0,none⟩)] u3 (cC (w.heap.size+6)):=by rw [hu3, <-z2];exact aS.alloc (by omega)
 have h5:=ah.new (Pr.thing (Wn.at B w.heap.size lim) (w.heap.size+5) St.new) h4 c3 b3 (fun k e=>by have:k=w.heap.size+6:=e;omega);have e:cS w lim=u3:=by rw [hu3,hu2,hu];rfl
 rw [e];refine ⟨z3,(b1.trans (b2.mono (by omega))).trans (b3.mono (by omega)),_,h5.1,?_⟩;rintro k (e | e | e)
 ·have:k=w.heap.size+6:=e;omega
 ·have:k=u.heap.size:=e;omega
 ·exact e1 k e
theorem Pb.step (n:Wn) (y p:Nat) (s:St) (w:World) (S:Bl) (st:zy) (hlim:n.lim < 0) (hok:s.ok) (hfine:s.fine) (hB:n.B<=w.heap.size) (ht:bU n.B w) (hts:st.t.size<=9223372036854775807) (hss:st.s.size<=9223372036854775807) (h:Pb n y p s w S):
  CP 12 #[.agg #[zp n.Wb,zp y],.agg st.cs.toArray] w fun e w'=>e=.returned true/\∃ s' S',s'.ok/\s'.fine/\Pb n y p s' w' S'/\Mv S w S' w':=by
 obtain ⟨k,On,W,H,K,A',X,C,D,E,Co,Ro,t,str⟩:=st;obtain ⟨S1,h1,_,back⟩:=ah.snd (aS.thing _ _ _) h;refine (wU n y s w S1 k On W H K A' X C D E Co Ro t str hlim hok hfine hB ht hts hss h1).mono ?_;rintro e w' ⟨rfl,s',S',o1,o2,h',m'⟩;obtain ⟨S2,h2,m2⟩:=back _ _ _ h' m';exact ⟨rfl,s',S2,o1,o2,h2,m2⟩
theorem sp (B0:Nat) (w:World) (a0:Option Addr) (len cap b off:Nat) (sc:Nat->zy) (hm:len<=maxLen) (ha:0 < len->a0=some ⟨b,off,none⟩) (hOn:∀ i,i < len->-9223372036854775808<=(sc i).On) (hsz:∀ i,i < len->(sc i).t.size<=9223372036854775807/\(sc i).s.size<=9223372036854775807) (hB0:B0<=w.heap.size) (ht0:bU B0 w)
  (hsc:∀ i,i < len->b < w.heap.size/\∀ (j:Nat) u,(sc i).cs[j]? =some u->w.cell? (zq b (off+i*14+j))=some u):
  QB 3 #[.slice a0 len cap] w true:=by
 obtain ⟨B,hBe⟩:∃ B,B=w.heap.size:=⟨_,rfl⟩;have ht:bU B w:=qU ht0 (by omega);obtain ⟨z1,b1,S1,h1,g1⟩:=Pb.new B w (-1) (by omega) (by decide) (by decide);obtain ⟨z2,b2,S2,h2,g2⟩:=Pb.new B (cS w (-1)) (-5) (by omega) (by decide) (by decide);have e7:(cS w (-1)).heap.size=w.heap.size+7:=z1;rw [e7] at h2;have tP1:∀ s,aJ B (Pb (Wn.at B w.heap.size (-1)) (w.heap.size+5) (w.heap.size+6) s):=fun s=>Pb.thing (Wn.at B w.heap.size (-1)) _ _ s
 have tP2:∀ s,aJ B (Pb (Wn.at B (w.heap.size+7) (-5)) (w.heap.size+7+5) (w.heap.size+7+6) s):=fun s=>Pb.thing (Wn.at B (w.heap.size+7) (-5)) _ _ s
 have tI:∀ s1 s2,aJ B (ah (Pb (Wn.at B w.heap.size (-1)) (w.heap.size+5) (w.heap.size+6) s1) (Pb (Wn.at B (w.heap.size+7) (-5)) (w.heap.size+7+5) (w.heap.size+7+6) s2)):=fun s1 s2=>ah.thing (tP1 s1) (tP2 s2)
 have tabs:∀ {wx},Below B w wx->bU B wx/\B<=wx.heap.size:=fun hb=>⟨ht.on hb,by have:=hb.size;omega⟩
 refine (rl w a0 len cap b off sc hm ha hOn
  (fun wx=>∃ s1 s2 S,s1.ok/\s1.fine/\s2.ok/\s2.fine/\ah (Pb (Wn.at B w.heap.size (-1)) (w.heap.size+5) (w.heap.size+6) s1) (Pb (Wn.at B (w.heap.size+7) (-5)) (w.heap.size+7+5) (w.heap.size+7+6) s2) wx S/\Below B w wx)
  (fun wx k wy=>∃ s S,s.ok/\s.fine/\Pb (Wn.at B wx.heap.size (-1)) (wx.heap.size+5) (wx.heap.size+6) s wy S/\Below B w wy)
  ?_ ?_ ?_ ?_ ?_ ?_ ?_ ?_ ?_ ?_ ?_).mono ?_
 ·obtain ⟨h3,m3⟩:=ah.new (tP1 _) h1 h2 b2 g2;exact ⟨St.new,St.new,_,St.new_ok,St.new_fine,St.new_ok,St.new_fine,ah.swap h3,(b1.mono (by omega)).trans (b2.mono (by omega))⟩
 ·rintro wx ⟨s1,s2,S,_,_,_,_,⟨R1,R2,p1,p2,_⟩,hb⟩;obtain ⟨_,_,c1,_⟩:=p1;obtain ⟨_,_,c2,_⟩:=p2;refine ⟨⟨c1.2.2.1,fun j u hj=>?_⟩,⟨c2.2.2.1,fun j u hj=>?_⟩,fun i hi=>?_⟩
  ·rw [Zc];exact c1.at j u hj
  ·rw [Zc];exact c2.at j u hj
  ·obtain ⟨hbl,hc⟩:=hsc i hi;have hbB:b < B:=by omega
   exact ⟨by have:=hb.size;omega,fun j u hj=>(hb.cell (p:=⟨b,_,none⟩) hbB).trans (hc j u hj)⟩
 ·rintro wx i ⟨s1,s2,S,o1,f1,o2,f2,h,hb⟩ hi wy hg;have hb2:Below B w wy:=hb.trans (YY hg (by have:=hb.size;omega));obtain ⟨t1,l1⟩:=tabs hb2;obtain ⟨R1,p1,_,back⟩:=ah.fst (tP2 s2) ((tI s1 s2).grow h hg);refine (Pb.step (Wn.at B w.heap.size (-1)) (w.heap.size+5) (w.heap.size+6) s1 wy R1 (sc i) (by show (-1:Int) < 0;decide) o1 f1 l1 t1 (hsz i hi).1 (hsz i hi).2 p1).mono ?_;rintro e w' ⟨rfl,s',S',o',f',h',m'⟩;obtain ⟨S3,h3,m3⟩:=back _ _ _ h' m';exact ⟨rfl,s',s2,S3,o',f',o2,f2,h3,hb2.trans (m3.below (fun k e=>(tI s1 s2).ge ((tI s1 s2).grow h hg) e) l1)⟩
 ·rintro wx i ⟨s1,s2,S,o1,f1,o2,f2,h,hb⟩ hi wy hg;have hb2:Below B w wy:=hb.trans (YY hg (by have:=hb.size;omega));obtain ⟨t1,l1⟩:=tabs hb2;obtain ⟨R1,p1,_,back⟩:=ah.snd (tP1 s1) ((tI s1 s2).grow h hg);refine (Pb.step (Wn.at B (w.heap.size+7) (-5)) (w.heap.size+7+5) (w.heap.size+7+6) s2 wy R1 (sc i) (by show (-5:Int) < 0;decide) o2 f2 l1 t1 (hsz i hi).1 (hsz i hi).2 p1).mono ?_;rintro e w' ⟨rfl,s',S',o',f',h',m'⟩;obtain ⟨S3,h3,m3⟩:=back _ _ _ h' m';exact ⟨rfl,s1,s',S3,o1,f1,o',f',h3,hb2.trans (m3.below (fun k e=>(tI s1 s2).ge ((tI s1 s2).grow h hg) e) l1)⟩
 ·rintro wx i ⟨s1,s2,S,o1,f1,o2,f2,h,hb⟩ hi;obtain ⟨t1,l1⟩:=tabs hb;obtain ⟨z1,z2⟩:=hsz i hi;obtain ⟨st,hst⟩:∃ st,sc i=st:=⟨_,rfl⟩;rw [hst] at z1 z2 ⊢;obtain ⟨k,On,W,H,K,A',X,C,D,E,Co,Ro,t,str⟩:=st;refine (zw B wx k On W H K A' X C D E Co Ro t str l1 t1 z1 z2).mono ?_;rintro e w' ⟨rfl,hg⟩;exact ⟨rfl,s1,s2,S,o1,f1,o2,f2,(tI s1 s2).grow h hg,hb.trans (YY hg l1)⟩
 ·rintro wx ⟨s1,s2,S,o1,f1,o2,f2,h,hb⟩;obtain ⟨t1,l1⟩:=tabs hb;obtain ⟨_,b3,S3,h3,_⟩:=Pb.new B wx (-1) l1 (by decide) (by decide);exact ⟨St.new,S3,St.new_ok,St.new_fine,h3,hb.trans (b3.mono l1)⟩
 ·rintro wx k wy ⟨s,S,_,_,⟨_,_,c1,_⟩,_⟩;exact ⟨c1.at 0 _ rfl,c1.at 1 _ rfl⟩
 ·rintro wx wy ⟨s,S,o,f,h,hb⟩;obtain ⟨t1,l1⟩:=tabs hb;refine (Pb.step (Wn.at B wx.heap.size (-1)) (wx.heap.size+5) (wx.heap.size+6) s wy S ⟨1,0,5000,7000,0,0,0,0,0,0,0,0,⟨#[]⟩,⟨#[]⟩⟩ (by show (-1:Int) < 0;decide) o f l1 t1 (by decide) (by decide) h).mono ?_;rintro e w' ⟨rfl,s',S',o',f',h',m'⟩;exact ⟨rfl,s',S',o',f',h',hb.trans (m'.below (fun k e=>(Pb.thing (Wn.at B wx.heap.size (-1)) (wx.heap.size+5) (wx.heap.size+6) s).ge h e) l1)⟩
 ·rintro wx wy ⟨s,S,o,f,h,hb⟩;obtain ⟨t1,l1⟩:=tabs hb;refine (Pb.step (Wn.at B wx.heap.size (-1)) (wx.heap.size+5) (wx.heap.size+6) s wy S ⟨2,0,0,0,1,0,0,12000,0,0,0,0,⟨#[97,40,98]⟩,⟨#[]⟩⟩ (by show (-1:Int) < 0;decide) o f l1 t1 (by decide) (by decide) h).mono ?_;rintro e w' ⟨rfl,s',S',o',f',h',m'⟩;exact ⟨rfl,s',S',o',f',h',hb.trans (m'.below (fun k e=>(Pb.thing (Wn.at B wx.heap.size (-1)) (wx.heap.size+5) (wx.heap.size+6) s).ge h e) l1)⟩
 ·rintro wx wy ⟨s,S,o,f,h,hb⟩;obtain ⟨t1,l1⟩:=tabs hb;refine (Pb.step (Wn.at B wx.heap.size (-1)) (wx.heap.size+5) (wx.heap.size+6) s wy S ⟨8,0,0,0,0,0,0,0,0,0,0,0,⟨#[]⟩,⟨#[]⟩⟩ (by show (-1:Int) < 0;decide) o f l1 t1 (by decide) (by decide) h).mono ?_;rintro e w' ⟨rfl,s',S',o',f',h',m'⟩;exact ⟨rfl,s',S',o',f',h',hb.trans (m'.below (fun k e=>(Pb.thing (Wn.at B wx.heap.size (-1)) (wx.heap.size+5) (wx.heap.size+6) s).ge h e) l1)⟩
 ·rintro wx wy ⟨s,S,o,f,h,hb⟩;obtain ⟨t1,l1⟩:=tabs hb;refine (Pb.step (Wn.at B wx.heap.size (-1)) (wx.heap.size+5) (wx.heap.size+6) s wy S ⟨9,0,0,0,0,0,0,0,0,0,0,0,⟨#[]⟩,⟨#[]⟩⟩ (by show (-1:Int) < 0;decide) o f l1 t1 (by decide) (by decide) h).mono ?_;rintro e w' ⟨rfl,s',S',o',f',h',m'⟩;exact ⟨rfl,s',S',o',f',h',hb.trans (m'.below (fun k e=>(Pb.thing (Wn.at B wx.heap.size (-1)) (wx.heap.size+5) (wx.heap.size+6) s).ge h e) l1)⟩
 ·rintro e w' ⟨rfl,wx,s,S,_,_,_,hb⟩;rw [hBe] at hb;exact ⟨rfl,hb⟩
section
open Go.ChangeShapes Go.WideShapes Go.ChangeAt Go.RowKit
theorem Wa.cellsStep:Tryz.prog.cellsOf 38=14:=by kernel_rfl
theorem Wa.cellsOp:Tryz.prog.cellsOf 31=9:=by kernel_rfl
theorem Wa.cellsInt:Tryz.prog.cellsOf 3=1:=by kernel_rfl
theorem Wa.cellsStr:Tryz.prog.cellsOf 9=1:=by kernel_rfl
section
variable {H:Type} {enc:TypeId×Value->H} {W:World}
theorem cw {n:Nat} {v:Value} {y:DataW H×List MemPlace} (h:DataW.trod enc prog W 0 (fun _=>true) true n 3 [v]=some y):∃ k:Int,v=.int .i64 k/\-9223372036854775808<=k:=by
 obtain ⟨k,hk,_,hw⟩:=DataW.trod_int underlying3 h;refine ⟨k,by simpa using hk,?_⟩;have hm:IntKind.i64.min=-9223372036854775808:=by decide
 simp [Lit.wf,hm] at hw;omega
theorem oX {n:Nat} {v:Value} {y:DataW H×List MemPlace} (h:DataW.trod enc prog W 0 (fun _=>true) true n 9 [v]=some y):∃ s:ByteArray,v=.string s/\s.size<=9223372036854775807:=by
 obtain ⟨s,hs,_,hz⟩:=DataW.trod_string underlying9 h;exact ⟨s,by simpa using hs,by unfold maxLen at hz;omega⟩
theorem uX {n:Nat} {cs:List Value} {x:DataW H×List MemPlace} (h:DataW.trod enc prog W 0 (fun _=>true) true n 38 cs=some x):∃ st:zy,cs=st.cs/\-9223372036854775808<=st.On/\st.t.size<=9223372036854775807/\st.s.size<=9223372036854775807:=by
 obtain ⟨xs,k,_,_,hl,hx,hf⟩:=DataW.trod_struct underlying38 h;rw [Wa.cellsStep] at hl;have hx6:xs.length=6:=hx
 match cs,hl,xs,hx6 with
 | [v0,v1,v2,v3,v4,v5,v6,v7,v8,v9,v10,v11,v12,v13],_,[y0,y1,y2,y3,y4,y5],_=>
  have f0:DataW.trod enc prog W 0 (fun _=>true) true k 3 (List.take (Tryz.prog.cellsOf 3) (List.drop 0 _))=some y0:=hf 0 _ rfl;rw [Wa.cellsInt] at f0;have f1:DataW.trod enc prog W 0 (fun _=>true) true k 3 (List.take (Tryz.prog.cellsOf 3) (List.drop 1 _))=some y1:=hf 1 _ rfl;rw [Wa.cellsInt] at f1;have f2:DataW.trod enc prog W 0 (fun _=>true) true k 3 (List.take (Tryz.prog.cellsOf 3) (List.drop 2 _))=some y2:=hf 2 _ rfl;rw [Wa.cellsInt] at f2;have f3:DataW.trod enc prog W 0 (fun _=>true) true k 3 (List.take (Tryz.prog.cellsOf 3) (List.drop 3 _))=some y3:=hf 3 _ rfl;rw [Wa.cellsInt] at f3;have f4:DataW.trod enc prog W 0 (fun _=>true) true k 31 (List.take (Tryz.prog.cellsOf 31) (List.drop 4 _))=some y4:=hf 4 _ rfl;rw [Wa.cellsOp] at f4;have f5:DataW.trod enc prog W 0 (fun _=>true) true k 9 (List.take (Tryz.prog.cellsOf 9) (List.drop 13 _))=some y5:=hf 5 _ rfl;rw [Wa.cellsStr] at f5;obtain ⟨k0,rfl,_⟩:=cw f0;obtain ⟨k1,rfl,h1⟩:=cw f1;obtain ⟨k2,rfl,_⟩:=cw f2;obtain ⟨k3,rfl,_⟩:=cw f3;obtain ⟨s5,rfl,z5⟩:=oX f5;obtain ⟨zs,j,_,_,_,hz,hg⟩:=DataW.trod_struct underlying31 f4;have hz9:zs.length=9:=hz
  match zs,hz9 with
  | [w0,w1,w2,w3,w4,w5,w6,w7,w8],_=>
   have g0:DataW.trod enc prog W 0 (fun _=>true) true j 3 (List.take (Tryz.prog.cellsOf 3) (List.drop 0 _))=some w0:=hg 0 _ rfl;rw [Wa.cellsInt] at g0;have g1:DataW.trod enc prog W 0 (fun _=>true) true j 3 (List.take (Tryz.prog.cellsOf 3) (List.drop 1 _))=some w1:=hg 1 _ rfl;rw [Wa.cellsInt] at g1;have g2:DataW.trod enc prog W 0 (fun _=>true) true j 3 (List.take (Tryz.prog.cellsOf 3) (List.drop 2 _))=some w2:=hg 2 _ rfl;rw [Wa.cellsInt] at g2;have g3:DataW.trod enc prog W 0 (fun _=>true) true j 3 (List.take (Tryz.prog.cellsOf 3) (List.drop 3 _))=some w3:=hg 3 _ rfl;rw [Wa.cellsInt] at g3;have g4:DataW.trod enc prog W 0 (fun _=>true) true j 3 (List.take (Tryz.prog.cellsOf 3) (List.drop 4 _))=some w4:=hg 4 _ rfl;rw [Wa.cellsInt] at g4;have g5:DataW.trod enc prog W 0 (fun _=>true) true j 3 (List.take (Tryz.prog.cellsOf 3) (List.drop 5 _))=some w5:=hg 5 _ rfl;rw [Wa.cellsInt] at g5;have g6:DataW.trod enc prog W 0 (fun _=>true) true j 3 (List.take (Tryz.prog.cellsOf 3) (List.drop 6 _))=some w6:=hg 6 _ rfl;rw [Wa.cellsInt] at g6;have g7:DataW.trod enc prog W 0 (fun _=>true) true j 3 (List.take (Tryz.prog.cellsOf 3) (List.drop 7 _))=some w7:=hg 7 _ rfl;rw [Wa.cellsInt] at g7;have g8:DataW.trod enc prog W 0 (fun _=>true) true j 9 (List.take (Tryz.prog.cellsOf 9) (List.drop 8 _))=some w8:=hg 8 _ rfl;rw [Wa.cellsStr] at g8;obtain ⟨m0,rfl,_⟩:=cw g0;obtain ⟨m1,rfl,_⟩:=cw g1;obtain ⟨m2,rfl,_⟩:=cw g2;obtain ⟨m3,rfl,_⟩:=cw g3;obtain ⟨m4,rfl,_⟩:=cw g4;obtain ⟨m5,rfl,_⟩:=cw g5;obtain ⟨m6,rfl,_⟩:=cw g6;obtain ⟨m7,rfl,_⟩:=cw g7;obtain ⟨s8,rfl,z8⟩:=oX g8;exact ⟨⟨k0,k1,k2,k3,m0,m1,m2,m3,m4,m5,m6,m7,s8,s5⟩,rfl,h1,z8,z5⟩
instance:Inhabited zy:=⟨⟨0,0,0,0,0,0,0,0,0,0,0,0,⟨#[]⟩,⟨#[]⟩⟩⟩
theorem ra {a0:Option Addr} {len cap fuel:Nat} {x:DataW H×List MemPlace} (hf:DataW.trod enc prog W 0 (fun _=>true) true fuel 22 [.slice a0 len cap]=some x):
  ∃ (b off:Nat) (sc:Nat->zy),len<=maxLen/\(0 < len->a0=some ⟨b,off,none⟩)/\(∀ i,i < len->-9223372036854775808<=(sc i).On)/\(∀ i,i < len->(sc i).t.size<=9223372036854775807/\(sc i).s.size<=9223372036854775807)/\
   ∀ i,i < len->b < W.heap.size/\∀ (j:Nat) u,(sc i).cs[j]? =some u->W.cell? (zq b (off+i*14+j))=some u:=by
 rcases Go.Deep.open_slice underlying22 hf with ⟨hcs,_⟩ | ⟨a,len',cap',m,n,D,Pl,hcs,_,hl,hm,hmm,_,hx⟩
 ·simp at hcs;obtain ⟨rfl,rfl,rfl⟩:=hcs;exact ⟨0,0,fun _=>default,XM _,fun h=>absurd h (by omega),fun i h=>absurd h (by omega),fun i h=>absurd h (by omega),fun i h=>absurd h (by omega)⟩
 ·simp at hcs;obtain ⟨rfl,rfl,rfl⟩:=hcs;simp only [if_true] at hmm;obtain ⟨b,off,spot⟩:=a;have each:∀ i,i < len->∃ st:zy,(-9223372036854775808<=st.On/\st.t.size<=9223372036854775807/\st.s.size<=9223372036854775807)/\∀ (j:Nat) u,st.cs[j]? =some u->W.cell? ((⟨b,off,spot⟩:Addr).add (i*14+j))=some u:=by
   intro i hi;obtain ⟨cs',h1,h2⟩:=hx i (by omega);rw [Wa.cellsStep] at h1;obtain ⟨_,hlen,hcell⟩:=World.cells?_some h1;obtain ⟨st,rfl,o1,o2,o3⟩:=uX h2;have hc:∀ (j:Nat) u,st.cs[j]? =some u->W.cell? ((⟨b,off,spot⟩:Addr).add (i*14+j))=some u:=by
    intro j u hj;have hjl:j < 14:=by
     have:=(Zv.1 hj).1;omega
    have:=hcell j hjl;rw [Go.Deep.add_add] at this;rw [this,hj]
   exact ⟨st,⟨o1,o2,o3⟩,hc⟩
  obtain ⟨sc,hsc⟩:=Go.Deep.choose_lt each;have hsp:0 < len->spot=none:=fun h0=>by
   have hk:(sc 0).cs[0]? =some (.int .i64 (sc 0).k):=by cases sc 0;rfl
   simpa [Addr.add] using World.cell?_spot ((hsc 0 h0).2 0 _ hk)
  refine ⟨b,off,sc,by omega,fun h0=>?_,fun i hi=>(hsc i hi).1.1,fun i hi=>(hsc i hi).1.2,fun i hi=>?_⟩
  ·rw [hsp h0]
  ·obtain ⟨_,hc⟩:=hsc i hi;have hs:=hsp (by omega);subst hs;have hadd:∀ k,(⟨b,off,none⟩:Addr).add k=⟨b,off+k,none⟩:=fun k=>by unfold Addr.add;split <;> simp_all
   have h0:(sc i).cs[0]? =some (.int .i64 (sc i).k):=by cases sc i;rfl
   refine ⟨?_,fun j u hj=>?_⟩
   ·have:=hc 0 _ h0;rw [hadd] at this;exact Yr W ⟨b,_,none⟩ this
   ·have:=hc j u hj;rw [hadd, <-Zn] at this;exact this
end
end
end Go.Proofs.YtbklfkpjoinofaaGreatDoor
