import Derived.Test.YtbklfkpjoinofaaGreatDoorA21
import Derived.Test.YtbklfkpjoinofaaGreatDoorA22
import Derived.Test.YtbklfkpjoinofaaGreatDoorA23
set_option linter.all false
set_option maxRecDepth 100000
set_option maxHeartbeats 8000000
namespace Go.Proofs.YtbklfkpjoinofaaGreatDoor
open Go.RowKit Go.Proofs.Tryz
theorem setRow_other (w:World) (g k:Nat) (cs:Array Value) (h:k≠g):(w.setRow g cs).heap[k]? =w.heap[k]? :=by
 simp [World.setRow,Array.getElem?_modify,Xz h]
theorem jL.row {B c:Nat} {s:ByteArray} {S:Bl} {w wx:World} {bs:List (Nat×Obj)} {p:Nat} (h:jL B c s S w bs p wx) (hc:c < w.heap.size) (b:Nat) (hb:w.heap.size<=b) (cs:Array Value):jL B c s S w [] p (wx.setRow b cs):=
 ⟨(aS.thing B c _).keep h.cur (fun k hk=>setRow_other wx b k cs (fun e=>by rw [h.cur.1] at hk;have h1:k=c:=hk;omega)) (by simp),
  ⟨⟨h.mv.fr.os,h.mv.fr.tape,h.mv.fr.output,by have:=h.mv.size;simpa using this,fun k hk hs=>by rw [setRow_other wx b k cs (by omega)];exact h.mv.fr.keep k hk hs⟩,fun k e=>.inl e⟩,by simp⟩
theorem vT (w:World) (B c a p1:Nat) (s t:ByteArray) (S:Bl) (K A X C D E Co Ro:Int) (h:aZ B c s a w S)
  (H1:Hid (∀ wx,aZ B c s a wx S->CP 163 #[zp c,.string ⟨#[66,84,32,47,70,49,32]⟩] wx fun e w'=>e=.returned false/\aZ B c s a w' S/\Mv S wx S w'))
  (H2:Hid (∀ wx,aZ B c s a wx S->CP 163 #[zp c,.string ⟨#[113,32]⟩] wx fun e w'=>e=.returned true/\aZ B c s a w' S/\Mv S wx S w'))
  (H3:Hid (∀ wx,Mv S w S wx->aZ B c s a wx S->CP 239 #[zp c] wx fun e w'=>e=.returned (.agg #[K,A,X,C,D,E,Co,Ro,t])/\aZ B c s p1 w' S/\Mv S wx S w')):
  CP 209 #[zp c] w fun e w'=>e=.returned (.agg #[K,A,X,C,D,E,Co,Ro,t])/\aZ B c s p1 w' S/\Mv S w S w':=by
 have hcl:c < w.heap.size:=h.2.2.1;have HO:=aa ((jL.here h).lay (.cells #[oz,oz,oz,oz,oz,oz,oz,oz,.string ⟨#[]⟩] 31));go_enter func209,ntmps209
 go_wp2_with fail
 refine (H1.out _ HO.out.cur).mono ?_;rintro e w1 ⟨rfl,h1,m1⟩;have HO:=aa (HO.out.step hcl h1 m1);clear h1 m1;go_wp2_with fail
 refine (H2.out _ HO.out.cur).mono ?_;rintro e w2 ⟨rfl,h2,m2⟩;have HO:=aa (HO.out.step hcl h2 m2);clear h2 m2;go_wp2_with fail
 refine (H3.out _ HO.out.mv HO.out.cur).mono ?_;rintro e w3 ⟨rfl,h3,m3⟩;have HO:=aa (HO.out.step hcl h3 m3);clear h3 m3;obtain ⟨_,hRl,kR⟩:=HO.out.at 0 rfl;have HK:=aa kR;clear kR;have HB:=aa (Yt _ w.heap.size _ #[K,A,X,C,D,E,Co,Ro,t] _ _ HK.out);have HF:=aa (HO.out.row hcl w.heap.size (ZX _) #[K,A,X,C,D,E,Co,Ro,t]);go_wp2_with (refine YM rfl 31 (.tmp 2) _ rfl w.heap.size _ rfl rfl _ _ HK.out (by kernel_rfl) rfl (by kernel_rfl) ?_)
 refine Zb (YL rfl _ _ w.heap.size 31 _ (0,0) _ rfl HB.out underlying31 rfl (by kernel_rfl)) rfl ?_;exact ⟨rfl,HF.out.cur,HF.out.mv⟩
def bj.val (o:bj):Value:=.agg #[o.k,o.a,o.b,o.c,o.d,o.e,o.co,o.ro,o.s]
theorem dI (w wx:World) (B c p:Nat) (s:ByteArray) (S:Bl) (ns:List Int) (hB:B<=w.heap.size) (ht:bU B w) (hs:s.size<=2000000000) (hn:ns.length<=4) (hr:∀ z∈ns,-100000000<=z/\z<=100000000) (hg:au s p (aG ns)) (m:Mv S w S wx) (h:aZ B c s p wx S):
  CP 238 #[zp c,(ns.length:Int)] wx fun e w'=>e=.returned (.agg #[(ns.getD 0 0:Int),(ns.getD 1 0:Int),(ns.getD 2 0:Int),(ns.getD 3 0:Int)])/\aZ B c s (p+(aG ns).length) w' S/\Mv S wx S w':=
 pJ wx B c p s S ns h (ZN hB m.size) (ht.on (m.below (fun _ e=>(aS.thing B c _).ge h e) hB)) hs hn hr hg
theorem vq (u:Nat) (c:UInt8) (h:c.toNat < 48\/57 < c.toNat) (r t:List UInt8) (s:ByteArray) (a:Nat) (hg:au s a (Lib.decDigits u++r)):¬ au s a (c::t):=by
 obtain ⟨d,q,e,h1,h2⟩:=rD u;rw [e] at hg;intro g;obtain ⟨_,e1⟩:=hg.byte;obtain ⟨_,e2⟩:=g.byte;rw [e1] at e2;subst e2;omega
theorem ji (n:Int) (c:UInt8) (h:c.toNat < 45\/57 < c.toNat) (r t:List UInt8) (s:ByteArray) (a:Nat) (hg:au s a (bJ n++r)):¬ au s a (c::t):=by
 unfold bJ at hg;rw [Lib.itoa_nonneg] at hg;by_cases hn:n < 0
 ·rw [ZO hn] at hg;intro g;have hg':au s a (45::(Lib.decDigits (n.natAbs / 1000)++cq (n.natAbs % 1000)++r)):=by simpa using hg
  obtain ⟨_,e1⟩:=hg'.byte;obtain ⟨_,e2⟩:=g.byte;rw [e1] at e2;subst e2;revert h;decide
 ·rw [ZU hn] at hg;exact vq (n.natAbs / 1000) c (by omega) (cq (n.natAbs % 1000)++r) t s a (by simpa using hg)
theorem aZ.to {B c a b:Nat} {s:ByteArray} {w:World} {S:Bl} (h:aZ B c s a w S) (e:a=b):aZ B c s b w S:=e ▸ h
theorem qg {x y:Int} {lo hi lo' hi':Int} (hx:bG x lo hi) (hy:bG y lo' hi') (h1:-100000000<=lo) (h2:hi<=100000000) (h3:-100000000<=lo') (h4:hi'<=100000000):∀ z∈[x,y],-100000000<=z/\z<=100000000:=by
 intro z hz;simp at hz;rcases hz with rfl | rfl
 ·exact ⟨YU h1 hx.1,YU hx.2 h2⟩
 ·exact ⟨YU h3 hy.1,YU hy.2 h4⟩
theorem lU {x:Int} {lo hi:Int} (hx:bG x lo hi) (h1:-100000000<=lo) (h2:hi<=100000000):∀ z∈[x],-100000000<=z/\z<=100000000:=by
 intro z hz;simp at hz;subst hz;exact ⟨YU h1 hx.1,YU hx.2 h2⟩
theorem y_ (w:World) (B c a:Nat) (s:ByteArray) (S:Bl) (A X C:Int) (t:ByteArray) (h:aZ B c s a w S) (hB:B<=w.heap.size) (ht:bU B w) (hs:s.size<=2000000000) (hA:bG A (-14400000) 14400000) (hX:bG X (-14400000) 14400000) (hC:bG C 1 14400000) (hl:t.size<=100)
  (hg:au s a ([66,84,32,47,70,49,32]++(aG [C]++([84,102,32]++(aG [A,X]++([84,100,32]++(bc t.data.toList++[32,84,106,32,69,84,10]))))))):
  CP 209 #[zp c] w fun e w'=>e=.returned (.agg #[(1:Int),A,X,C,oz,oz,oz,oz,t])/\aZ B c s (a+([66,84,32,47,70,49,32]++(aG [C]++([84,102,32]++(aG [A,X]++([84,100,32]++(bc t.data.toList++[32,84,106,32,69,84,10])))))).length) w' S/\Mv S w S w':=by
 have hle:=hg.le;have g1:=hg.right;have g2:=g1.right;have g3:=g2.right;have g4:=g3.right;have g5:=g4.right;have g6:=g5.right;refine (zh w B c a _ _ _ _ _ (a+([66,84,32,47,70,49,32]++(aG [C]++([84,102,32]++(aG [A,X]++([84,100,32]++(bc t.data.toList++[32,84,106,32,69,84,10])))))).length) s S A X C t h
  (fun wx hc=>jf wx B c a s _ S hc hs hg.left)
  (fun wx hc=>eP wx B c a s _ S hc hs (by decide) (by omega) (au.no [] _ [113,32] hg (by simp) (by simp)))
  (fun wx hc=>bX wx B c a s _ S hc hs hg.left)
  (fun wx m hc=>dI w wx B c _ s S [C] hB ht hs (by simp) (lU hC (by decide) (by decide)) g1.left m hc)
  (fun wx hc=>bX wx B c _ s ⟨#[84,102,32]⟩ S hc hs g2.left)
  (fun wx m hc=>dI w wx B c _ s S [A,X] hB ht hs (by simp) (qg hA hX (by decide) (by decide) (by decide) (by decide)) g3.left m hc)
  (fun wx hc=>bX wx B c _ s ⟨#[84,100,32]⟩ S hc hs g4.left)
  (fun wx hc=>?_))
 refine (lf wx B c _ s S t.data.toList hc hs (by rw [aP];omega) g5.left).mono ?_;rintro e w' ⟨rfl,h8,m8⟩;refine ⟨rfl,_,h8,m8,fun wy hy=>?_⟩;refine (bX wy B c _ s ⟨#[32,84,106,32,69,84,10]⟩ S hy hs g6).mono ?_;rintro e w2 ⟨rfl,h9,m9⟩;refine ⟨rfl,h9.to ?_,m9⟩;simp [ByteArray.size];omega
theorem xF (w:World) (B c a:Nat) (s:ByteArray) (S:Bl) (A X C D E:Int) (h:aZ B c s a w S) (hB:B<=w.heap.size) (ht:bU B w) (hs:s.size<=2000000000) (hA:bG A (-14400000) 14400000) (hX:bG X (-14400000) 14400000) (hC:bG C (-14400000) 14400000) (hD:bG D (-14400000) 14400000) (hE:bG E 0 14400000)
  (hg:au s a (aG [E]++([119,32]++(aG [A,X]++([109,32]++(aG [C,D]++[108,32,83,10])))))):
  CP 209 #[zp c] w fun e w'=>e=.returned (.agg #[(2:Int),A,X,C,D,E,oz,oz,.string ⟨#[]⟩])/\aZ B c s (a+(aG [E]++([119,32]++(aG [A,X]++([109,32]++(aG [C,D]++[108,32,83,10]))))).length) w' S/\Mv S w S w':=by
 have hle:=hg.le;have g1:=hg.right;have g2:=g1.right;have g3:=g2.right;have g4:=g3.right;have g5:=g4.right;have hfst:au s a (bJ E++([32]++([119,32]++(aG [A,X]++([109,32]++(aG [C,D]++[108,32,83,10])))))):=by simpa [aG] using hg
 refine (zi w B c a _ _ _ _ _ _ s S A X C D E h
  (fun wx hc=>eP wx B c a s _ S hc hs (by decide) (by omega) (ji E 66 (by decide) _ _ s a hfst))
  (fun wx hc=>eP wx B c a s _ S hc hs (by decide) (by omega) (ji E 113 (by decide) _ _ s a hfst))
  (fun wx m hc=>dI w wx B c _ s S [E] hB ht hs (by simp) (lU hE (by decide) (by decide)) hg.left m hc)
  (fun wx hc=>jf wx B c _ s ⟨#[119,32]⟩ S hc hs g1.left)
  (fun wx hc=>bX wx B c _ s ⟨#[119,32]⟩ S hc hs g1.left)
  (fun wx m hc=>dI w wx B c _ s S [A,X] hB ht hs (by simp) (qg hA hX (by decide) (by decide) (by decide) (by decide)) g2.left m hc)
  (fun wx hc=>bX wx B c _ s ⟨#[109,32]⟩ S hc hs g3.left)
  (fun wx m hc=>dI w wx B c _ s S [C,D] hB ht hs (by simp) (qg hC hD (by decide) (by decide) (by decide) (by decide)) g4.left m hc)
  (fun wx hc=>bX wx B c _ s ⟨#[108,32,83,10]⟩ S hc hs g5)).mono ?_
 rintro e w2 ⟨rfl,h9,m9⟩;refine ⟨rfl,h9.to ?_,m9⟩;simp [ByteArray.size];omega
theorem yQ (w:World) (B c a:Nat) (s:ByteArray) (S:Bl) (A X C D E:Int) (h:aZ B c s a w S) (hB:B<=w.heap.size) (ht:bU B w) (hs:s.size<=2000000000) (hA:bG A (-14400000) 14400000) (hX:bG X (-14400000) 14400000) (hC:bG C 0 14400000) (hD:bG D 0 14400000) (hE:bG E 0 1000)
  (hg:au s a (aG [E]++([103,32]++(aG [A,X,C,D]++[114,101,32,102,10])))):
  CP 209 #[zp c] w fun e w'=>e=.returned (.agg #[(3:Int),A,X,C,D,E,oz,oz,.string ⟨#[]⟩])/\aZ B c s (a+(aG [E]++([103,32]++(aG [A,X,C,D]++[114,101,32,102,10]))).length) w' S/\Mv S w S w':=by
 have hle:=hg.le;have g1:=hg.right;have g2:=g1.right;have g3:=g2.right;have hle1:=g1.le;have hfst:au s a (bJ E++([32]++([103,32]++(aG [A,X,C,D]++[114,101,32,102,10])))):=by simpa [aG] using hg
 refine (y6 w B c a _ _ _ _ s S A X C D E h
  (fun wx hc=>eP wx B c a s _ S hc hs (by decide) (by omega) (ji E 66 (by decide) _ _ s a hfst))
  (fun wx hc=>eP wx B c a s _ S hc hs (by decide) (by omega) (ji E 113 (by decide) _ _ s a hfst))
  (fun wx m hc=>dI w wx B c _ s S [E] hB ht hs (by simp) (lU hE (by decide) (by decide)) hg.left m hc)
  (fun wx hc=>eP wx B c _ s ⟨#[119,32]⟩ S hc hs (by decide) (by omega) (au.no [] _ [119,32] g1 (by simp) (by simp)))
  (fun wx hc=>bX wx B c _ s ⟨#[103,32]⟩ S hc hs g1.left)
  (fun wx m hc=>dI w wx B c _ s S [A,X,C,D] hB ht hs (by simp) (fun z hz=>by
   simp at hz;rcases hz with rfl | rfl | rfl | rfl
   ·exact ⟨YU (by decide) hA.1,YU hA.2 (by decide)⟩
   ·exact ⟨YU (by decide) hX.1,YU hX.2 (by decide)⟩
   ·exact ⟨YU (by decide) hC.1,YU hC.2 (by decide)⟩
   ·exact ⟨YU (by decide) hD.1,YU hD.2 (by decide)⟩) g2.left m hc)
  (fun wx hc=>bX wx B c _ s ⟨#[114,101,32,102,10]⟩ S hc hs g3)).mono ?_
 rintro e w2 ⟨rfl,h9,m9⟩;refine ⟨rfl,h9.to ?_,m9⟩;simp [ByteArray.size];omega
theorem tM (w:World) (B c a:Nat) (s:ByteArray) (S:Bl) (A X C D:Int) (co ro:Nat) (t:ByteArray) (h:aZ B c s a w S) (hB:B<=w.heap.size) (ht:bU B w) (hs:s.size<=2000000000) (hA:bG A (-14400000) 14400000) (hX:bG X (-14400000) 14400000) (hC:bG C 1 14400000) (hD:bG D 1 14400000) (hco:co<=64) (hro:ro<=64) (hl:t.size=co*ro)
  (hg:au s a ([113,32]++(aG [C]++([48,32,48,32]++(aG [D,A,X]++([99,109,32,66,73,32,47,87,32]++(Lib.decDigits co++([32,47,72,32]++(Lib.decDigits ro++([32,47,67,83,32,47,71,32,47,66,80,67,32,56,32,73,68,32]++(t.data.toList++[10,69,73,32,81,10]))))))))))):
  CP 239 #[zp c] w fun e w'=>e=.returned (.agg #[(4:Int),A,X,C,D,oz,(co:Int),(ro:Int),t])/\aZ B c s (a+([113,32]++(aG [C]++([48,32,48,32]++(aG [D,A,X]++([99,109,32,66,73,32,47,87,32]++(Lib.decDigits co++([32,47,72,32]++(Lib.decDigits ro++([32,47,67,83,32,47,71,32,47,66,80,67,32,56,32,73,68,32]++(t.data.toList++[10,69,73,32,81,10])))))))))).length) w' S/\Mv S w S w':=by
 have hle:=hg.le;have g1:=hg.right;have g2:=g1.right;have g3:=g2.right;have g4:=g3.right;have g5:=g4.right;have g6:=g5.right;have g7:=g6.right;have g8:=g7.right;have g9:=g8.right;have g10:=g9.right;have hN:co*ro<=4096:=ZN (XJ hco hro) (by decide);have hext:=g9.left.ext;have hle9:=g9.left.le;rw [aP,hl] at hext hle9;refine (rY w B c a _ _ _ _ _ _ _ _ _ _ _ co ro (co*ro) s t S A X C D h hs hco hro (by simp) hN hle9 hext rfl
  (fun wx hc=>bX wx B c a s ⟨#[113,32]⟩ S hc hs hg.left)
  (fun wx m hc=>dI w wx B c _ s S [C] hB ht hs (by simp) (lU hC (by decide) (by decide)) g1.left m hc)
  (fun wx hc=>bX wx B c _ s ⟨#[48,32,48,32]⟩ S hc hs g2.left)
  (fun wx m hc=>dI w wx B c _ s S [D,A,X] hB ht hs (by simp) (fun z hz=>by
   simp at hz;rcases hz with rfl | rfl | rfl
   ·exact ⟨YU (by decide) hD.1,YU hD.2 (by decide)⟩
   ·exact ⟨YU (by decide) hA.1,YU hA.2 (by decide)⟩
   ·exact ⟨YU (by decide) hX.1,YU hX.2 (by decide)⟩) g3.left m hc)
  (fun wx hc=>bX wx B c _ s ⟨#[99,109,32,66,73,32,47,87,32]⟩ S hc hs g4.left)
  (fun wx hc=>dQ wx B c _ s S co 32 hc hs (by omega) (by have:=g5;rw [show ([32,47,72,32]:List UInt8)=[32]++[47,72,32] from rfl,ZQ, <-ZQ] at this;exact this.left) (by decide))
  (fun wx hc=>bX wx B c _ s ⟨#[32,47,72,32]⟩ S hc hs g6.left)
  (fun wx hc=>dQ wx B c _ s S ro 32 hc hs (by omega) (by have:=g7;rw [show ([32,47,67,83,32,47,71,32,47,66,80,67,32,56,32,73,68,32]:List UInt8)=[32]++[47,67,83,32,47,71,32,47,66,80,67,32,56,32,73,68,32] from rfl,ZQ, <-ZQ] at this;exact this.left) (by decide))
  (fun wx hc=>bX wx B c _ s ⟨#[32,47,67,83,32,47,71,32,47,66,80,67,32,56,32,73,68,32]⟩ S hc hs g8.left)
  (fun wx hc=>bX wx B c _ s ⟨#[10,69,73,32,81,10]⟩ S hc hs (by rw [aP,hl] at g10;exact g10))).mono ?_
 rintro e w2 ⟨rfl,h9,m9⟩;refine ⟨rfl,h9.to ?_,m9⟩;simp only [ZZ,aP,hl];simp [ByteArray.size];omega
theorem Ao (w:World) (B c a:Nat) (s:ByteArray) (S:Bl) (o:bj) (ho:o.is) (h:aZ B c s a w S) (hB:B<=w.heap.size) (ht:bU B w) (hs:s.size<=2000000000) (hg:au s a o.text):
  CP 209 #[zp c] w fun e w'=>e=.returned o.val/\aZ B c s (a+o.text.length) w' S/\Mv S w S w':=by
 obtain ⟨k,A,X,C,D,E,co,ro,t⟩:=o;obtain ⟨hA,hX,⟨rfl,hC,hD,hE,hco,hro,hl⟩ | ⟨rfl,hC,hD,hE,hco,hro,hl⟩ | ⟨rfl,hC,hD,hE,hco,hro,hl⟩ | ⟨rfl,hC,hD,hco,hro,hE,hl⟩⟩:=ho
 ·simp only at hA hX hC hD hE hco hro hl;subst hD hE hco hro;exact y_ w B c a s S A X C t h hB ht hs hA hX hC hl hg
 ·simp only at hA hX hC hD hE hco hro hl;subst hco hro;have:t=⟨#[]⟩:=Zj (Yk hl);subst this;exact xF w B c a s S A X C D E h hB ht hs hA hX hC hD hE hg
 ·simp only at hA hX hC hD hE hco hro hl;subst hco hro;have:t=⟨#[]⟩:=Zj (Yk hl);subst this;exact yQ w B c a s S A X C D E h hB ht hs hA hX hC hD hE hg
 ·simp only at hA hX hC hD hE hco hro hl;subst hE;obtain ⟨co',rfl⟩:∃ n:Nat,co=(n:Int):=⟨co.toNat,by have:=hco.1;omega⟩;obtain ⟨ro',rfl⟩:∃ n:Nat,ro=(n:Int):=⟨ro.toNat,by have:=hro.1;omega⟩;have htx:(bj.mk 4 A X C D 0 co' ro' t).text=[113,32]++(aG [C]++([48,32,48,32]++(aG [D,A,X]++([99,109,32,66,73,32,47,87,32]++(Lib.decDigits co'++([32,47,72,32]++(Lib.decDigits ro'++([32,47,67,83,32,47,71,32,47,66,80,67,32,56,32,73,68,32]++(t.data.toList++[10,69,73,32,81,10]))))))))):=by
   unfold bj.text;rw [ZU (show ¬ (4:Int)=1 by decide),ZU (show ¬ (4:Int)=2 by decide),ZU (show ¬ (4:Int)=3 by decide)];simp only [Lib.itoa_nonneg]
  rw [htx] at hg ⊢;have hle:=hg.le;have hls:t.size=co'*ro':=by
   have h1:(t.size:Int)=((co'*ro':Nat):Int):=by rw [hl];simp
   exact Int.ofNat.inj h1
  refine vT w B c a _ s t S 4 A X C D 0 co' ro' h
   (fun wx hc=>eP wx B c a s _ S hc hs (by decide) (by omega) (au.no [] _ [66,84,32,47,70,49,32] hg (by simp;omega) (by simp)))
   (fun wx hc=>jf wx B c a s ⟨#[113,32]⟩ S hc hs hg.left)
   (fun wx m hc=>tM wx B c a s S A X C D co' ro' t hc (ZN hB m.size) (ht.on (m.below (fun _ e=>(aS.thing B c _).ge hc e) hB)) hs hA hX hC hD (by have:=hco.2;omega) (by have:=hro.2;omega) hls hg)
theorem cv (w:World) (n lo hi:Int):QE 109 #[n,lo,hi] w (.bool (decide (bG n lo hi))):=by
 by_cases h1:lo<=n
 ·by_cases h2:n<=hi
  ·have e:decide (bG n lo hi)=true:=by simp [bG,h1,h2]
   have d1:decide (lo<=n)=true:=by simpa using h1
   have d2:decide (n<=hi)=true:=by simpa using h2
   rw [e];clear e;go_enter func109,ntmps109
   go_wp2;go_ret;exact ⟨rfl,rfl⟩
  ·have e:decide (bG n lo hi)=false:=by simp [bG,h1,h2]
   have d1:decide (lo<=n)=true:=by simpa using h1
   have d2:decide (n<=hi)=false:=by simpa using h2
   rw [e];clear e;go_enter func109,ntmps109
   go_wp2;go_ret;exact ⟨rfl,rfl⟩
 ·have e:decide (bG n lo hi)=false:=by simp [bG,h1]
  have d1:decide (lo<=n)=false:=by simpa using h1
  rw [e];clear e;go_enter func109,ntmps109
  go_wp2;go_ret;exact ⟨rfl,rfl⟩
theorem yJ (w:World) (S:Bl) (A X C D E Co Ro:Int) (t:ByteArray) (hA:decide (bG A (-14400000) 14400000)=true) (hX:decide (bG X (-14400000) 14400000)=true) (hC:decide (bG C 1 14400000)=true) (hl:t.size<=100):CP 111 #[.agg #[(1:Int),A,X,C,(0:Int),(0:Int),(0:Int),(0:Int),t]] w fun e w'=>e=.returned true/\Mv S w S w':=by
 have dl:decide ((t.size:Int)<=100)=true:=by simp;omega
 go_enter func111,ntmps111
 go_wp2_with fail
 refine (cv _ A (-14400000) 14400000).mono ?_;rintro e wz ⟨rfl,rfl⟩;rw [hA];go_wp2_with fail
 refine (cv _ X (-14400000) 14400000).mono ?_;rintro e wz ⟨rfl,rfl⟩;rw [hX];go_wp2_with fail
 refine (cv _ C 1 14400000).mono ?_;rintro e wz ⟨rfl,rfl⟩;rw [hC];go_wp2_with fail
 go_ret;exact ⟨rfl,Mv.grow ((ZV _ w).alloc (ZX _) _) S⟩
theorem yC (w:World) (S:Bl) (A X C D E Co Ro:Int) (t:ByteArray) (hA:decide (bG A (-14400000) 14400000)=true) (hX:decide (bG X (-14400000) 14400000)=true) (hC:decide (bG C (-14400000) 14400000)=true) (hD:decide (bG D (-14400000) 14400000)=true) (hE:decide (bG E 0 14400000)=true):CP 111 #[.agg #[(2:Int),A,X,C,D,E,(0:Int),(0:Int),.string ⟨#[]⟩]] w fun e w'=>e=.returned true/\Mv S w S w':=by
 go_enter func111,ntmps111
 go_wp2_with fail
 refine (cv _ A (-14400000) 14400000).mono ?_;rintro e wz ⟨rfl,rfl⟩;rw [hA];go_wp2_with fail
 refine (cv _ X (-14400000) 14400000).mono ?_;rintro e wz ⟨rfl,rfl⟩;rw [hX];go_wp2_with fail
 refine (cv _ C (-14400000) 14400000).mono ?_;rintro e wz ⟨rfl,rfl⟩;rw [hC];go_wp2_with fail
 refine (cv _ D (-14400000) 14400000).mono ?_;rintro e wz ⟨rfl,rfl⟩;rw [hD];go_wp2_with fail
 refine (cv _ E 0 14400000).mono ?_;rintro e wz ⟨rfl,rfl⟩;rw [hE];go_wp2_with fail
 go_ret;exact ⟨rfl,Mv.grow ((ZV _ w).alloc (ZX _) _) S⟩
theorem xT (w:World) (S:Bl) (A X C D E Co Ro:Int) (t:ByteArray) (hA:decide (bG A (-14400000) 14400000)=true) (hX:decide (bG X (-14400000) 14400000)=true) (hC:decide (bG C 0 14400000)=true) (hD:decide (bG D 0 14400000)=true) (hE:decide (bG E 0 1000)=true):CP 111 #[.agg #[(3:Int),A,X,C,D,E,(0:Int),(0:Int),.string ⟨#[]⟩]] w fun e w'=>e=.returned true/\Mv S w S w':=by
 go_enter func111,ntmps111
 go_wp2_with fail
 refine (cv _ A (-14400000) 14400000).mono ?_;rintro e wz ⟨rfl,rfl⟩;rw [hA];go_wp2_with fail
 refine (cv _ X (-14400000) 14400000).mono ?_;rintro e wz ⟨rfl,rfl⟩;rw [hX];go_wp2_with fail
 refine (cv _ C 0 14400000).mono ?_;rintro e wz ⟨rfl,rfl⟩;rw [hC];go_wp2_with fail
 refine (cv _ D 0 14400000).mono ?_;rintro e wz ⟨rfl,rfl⟩;rw [hD];go_wp2_with fail
 refine (cv _ E 0 1000).mono ?_;rintro e wz ⟨rfl,rfl⟩;rw [hE];go_wp2_with fail
 go_ret;exact ⟨rfl,Mv.grow ((ZV _ w).alloc (ZX _) _) S⟩
theorem xX (w:World) (S:Bl) (A X C D E Co Ro:Int) (t:ByteArray) (hA:decide (bG A (-14400000) 14400000)=true) (hX:decide (bG X (-14400000) 14400000)=true) (hC:decide (bG C 1 14400000)=true) (hD:decide (bG D 1 14400000)=true) (hCo:decide (bG Co 1 64)=true) (hRo:decide (bG Ro 1 64)=true) (hc0:1<=Co) (hc1:Co<=64) (hr0:1<=Ro) (hr1:Ro<=64) (hl:Co*Ro=(t.size:Int)) (hl2:t.size<=4096):CP 111 #[.agg #[(4:Int),A,X,C,D,(0:Int),Co,Ro,t]] w fun e w'=>e=.returned true/\Mv S w S w':=by
 have dco:(Co==0)=false:=by simp;omega
 have dco2:¬ Co=0:=by omega
 go_enter func111,ntmps111
 go_wp2_with fail
 refine (cv _ A (-14400000) 14400000).mono ?_;rintro e wz ⟨rfl,rfl⟩;rw [hA];go_wp2_with fail
 refine (cv _ X (-14400000) 14400000).mono ?_;rintro e wz ⟨rfl,rfl⟩;rw [hX];go_wp2_with fail
 refine (cv _ C 1 14400000).mono ?_;rintro e wz ⟨rfl,rfl⟩;rw [hC];go_wp2_with fail
 refine (cv _ D 1 14400000).mono ?_;rintro e wz ⟨rfl,rfl⟩;rw [hD];go_wp2_with fail
 refine (cv _ Co 1 64).mono ?_;rintro e wz ⟨rfl,rfl⟩;rw [hCo];go_wp2_with fail
 refine (cv _ Ro 1 64).mono ?_;rintro e wz ⟨rfl,rfl⟩;rw [hRo];go_wp2_with fail
 go_ret;exact ⟨rfl,Mv.grow ((ZV _ w).alloc (ZX _) _) S⟩
theorem xm (w:World) (S:Bl) (o:bj) (ho:o.is):CP 111 #[o.val] w fun e w'=>e=.returned true/\Mv S w S w':=by
 obtain ⟨k,A,X,C,D,E,co,ro,t⟩:=o;obtain ⟨hA,hX,⟨rfl,hC,hD,hE,hco,hro,hl⟩ | ⟨rfl,hC,hD,hE,hco,hro,hl⟩ | ⟨rfl,hC,hD,hE,hco,hro,hl⟩ | ⟨rfl,hC,hD,hco,hro,hE,hl⟩⟩:=ho
 ·simp only at hA hX hC hD hE hco hro hl;subst hD hE hco hro;exact yJ w S A X C 0 0 0 0 t (by simpa using hA) (by simpa using hX) (by simpa using hC) hl
 ·simp only at hA hX hC hD hE hco hro hl;subst hco hro;have:t=⟨#[]⟩:=Zj (Yk hl);subst this;exact yC w S A X C D E 0 0 ⟨#[]⟩ (by simpa using hA) (by simpa using hX) (by simpa using hC) (by simpa using hD) (by simpa using hE)
 ·simp only at hA hX hC hD hE hco hro hl;subst hco hro;have:t=⟨#[]⟩:=Zj (Yk hl);subst this;exact xT w S A X C D E 0 0 ⟨#[]⟩ (by simpa using hA) (by simpa using hX) (by simpa using hC) (by simpa using hD) (by simpa using hE)
 ·simp only at hA hX hC hD hE hco hro hl;subst hE;have h4:t.size<=4096:=by
   obtain ⟨co',rfl⟩:∃ n:Nat,co=(n:Int):=⟨co.toNat,by have:=hco.1;omega⟩;obtain ⟨ro',rfl⟩:∃ n:Nat,ro=(n:Int):=⟨ro.toNat,by have:=hro.1;omega⟩;have h1:(t.size:Int)=((co'*ro':Nat):Int):=by rw [hl];simp
   have h2:t.size=co'*ro':=Int.ofNat.inj h1;have h3:co'*ro'<=64*64:=XJ (by have:=hco.2;omega) (by have:=hro.2;omega);omega
  exact xX w S A X C D 0 co ro t (by simpa using hA) (by simpa using hX) (by simpa using hC) (by simpa using hD) (by simpa using hco) (by simpa using hro) hco.1 hco.2 hro.1 hro.2 hl.symm h4
def k_:List bj->List Value
 | []=>[]
 | o::r=>.int .i64 o.k::.int .i64 o.a::.int .i64 o.b::.int .i64 o.c::.int .i64 o.d::.int .i64 o.e::.int .i64 o.co::.int .i64 o.ro::.string o.s::k_ r
theorem qG (l:List bj) (o:bj):k_ (l++[o])=k_ l++[.int .i64 o.k,.int .i64 o.a,.int .i64 o.b,.int .i64 o.c,.int .i64 o.d,.int .i64 o.e,.int .i64 o.co,.int .i64 o.ro,.string o.s]:=by
 induction l with
 | nil=>rfl
 | cons a r ih=>simp only [Zy,k_,ih]
theorem Tryz.infoOp:(Tryz.prog.info? 31).map (fun i=>(i.zero,i.size,i.bytes))=some (some (.agg #[oz,oz,oz,oz,oz,oz,oz,oz,.string ⟨#[]⟩]),9,80):=by kernel_rfl
theorem nE (l:List bj):l.length<=(bE l).length:=by
 induction l with
 | nil=>simp [bE]
 | cons o r ih=>
  have:0 < o.text.length:=List.length_pos_iff.mpr o.text_ne;simp only [bE,ZZ,ZY];omega
theorem r8 (l m:List bj):bE (l++m)=bE l++bE m:=by
 induction l with
 | nil=>rfl
 | cons o r ih=>simp only [Zy,bE,ih,ZQ]
theorem AB (w:World) (a b c d e f g h i:Value) (t:TypeId):∀ j u,[a,b,c,d,e,f,g,h,i][j]? =some u->(w.alloc (.cells #[a,b,c,d,e,f,g,h,i] t)).cell? ((⟨w,0,none⟩:Addr).add j)=some u:=by
 intro j u hj;have hb:(w.alloc (.cells #[a,b,c,d,e,f,g,h,i] t)).heap[w.heap.size]? =some (.cells #[a,b,c,d,e,f,g,h,i] t):=ZE w _;have hadd:(⟨w,0,none⟩:Addr).add j=⟨w,j,none⟩:=by unfold Addr.add;split <;> simp_all
 rw [hadd,aj hb];simpa using hj
theorem Ac (w:World) (B:Nat) (s:ByteArray) (os:List bj) (hB:B<=w.heap.size) (ht:bU B w) (hs:s.size<=1048576) (hos:∀ o∈os,o.is) (hse:s.data.toList=bE os):
  CP 164 #[s] w fun e w'=>∃ v,e=.returned (.tuple #[v,true])/\w'.ownsRow (w.heap.size+1) 31 9 v os.length (k_ os)/\Below w w w':=by
 have HI:=aa hos;have HE:=aa hse;have HT:=aa ht;have hsz:s.size=(bE os).length:=by rw [<-hse,aP]
 have HSZ:=aa hsz;obtain ⟨c,hc⟩:∃ c,c=w.heap.size:=⟨_,rfl⟩;have HCE:=aa hc;have r0:aZ B c s 0 (w.alloc (.cells #[s,oz,false] 110)) (cC c):=by
  rw [hc];exact aS.alloc (vs:=[.string s,.int .i64 0,.bool false]) hB
 have r1:Below w w (w.alloc (.cells #[s,oz,false] 110)):=(ZV _ w).alloc (ZX _) _;go_enter func164,ntmps164
 go_wp2_with fail
 rw [<-hc] at r1 ⊢;clear hos hse ht hsz hc;go_loopg [5] (os.length+1) (fun g x wr=>∃ ds rs v,Hid (os=ds++rs)/\rs.length < g/\x=v/\∃ p:Nat,Hid (p=(bE ds).length)/\aZ B c s p wr (cC c)/\wr.ownsRow (c+1) 31 9 v ds.length (k_ ds)/\Below c w wr)
 case atStart=>exact ⟨[],os,_,rfl,by omega,rfl,0,rfl,r0,Yq _ _ _ _,r1⟩
 case round=>
  obtain ⟨ds,rs,v,HD,hg,rfl,p,HP,hcur,ow,hbel⟩:=hrel;clear r0 r1;have c1:=hcur.at 1 _ rfl
  cases rs with
  | cons o rs=>
   have hle:p+o.text.length+(bE rs).length=s.size:=by
    rw [HP.out,HSZ.out,HD.out,r8,bE,ZZ,ZZ];omega
   have hpos:0 < o.text.length:=List.length_pos_iff.mpr o.text_ne;have hgo:au s p o.text:=⟨bE ds,bE rs,by rw [HE.out,HD.out,r8,bE],HP.out.symm⟩;have hTw:bU B wr:=HT.out.on (hbel.mono (by rw [HCE.out];exact hB));have hBw:B<=wr.heap.size:=ZN hB hbel.size;have ho:=HI.out o (by rw [HD.out];simp);have HC:=aa (Ao wr B c p s (cC c) o ho hcur hBw hTw (by omega) hgo);have d1:decide ((p:Int) < (s.size:Int))=true:=by simp;omega
   have hps:p < s.size:=by omega
   have hnl:ds.length<=1048576:=by
    have:=nE ds;have:=HP.out;omega
   clear hgo;have HIS:=aa (fun wx=>xm wx (fun _=>False) o ho);have HDS:Hid (os=(ds++[o])++rs):=by show _=_;rw [HD.out];simp
   have HOC:=aa (qG ds o);have HPN:Hid (p+o.text.length=(bE (ds++[o])).length):=by show _=_;rw [f9,ZZ,HP.out]
   obtain ⟨K,A,X,C,D,E,Co,Ro,t⟩:=o;obtain ⟨P',hP'⟩:∃ P',P'=p+(bj.mk K A X C D E Co Ro t).text.length:=⟨_,rfl⟩;rw [<-hP'] at HC HPN;clear hP' hpos hle HD HP;simp only [bj.val] at HC HIS HOC;obtain ⟨ad,cap,hform⟩:∃ ad cap,u5=.slice ad ds.length cap:=by
    rcases ow.2 with ⟨hu,hz⟩ | ⟨gg,cap,cur,hu,_⟩
    ·exact ⟨none,0,by rw [hu,hz]⟩
    ·exact ⟨_,_,hu⟩
   subst hform;obtain ⟨N,hN⟩:∃ N,ds.length=N:=⟨_,rfl⟩;rw [hN] at ow hnl ⊢;go_wp2_with fail
   refine HC.out.mono ?_;rintro e w1 ⟨rfl,h1,m1⟩;have hob:∀ g,(Value.slice ad N cap).ownBlock=some g->c+1<=g/\g < wr.heap.size:=fun g hg=>ow.lt g hg
   have ow1:w1.ownsRow (c+1) 31 9 (.slice ad N cap) N (k_ ds):=eZ ow (fun g hg=>m1.keep (hob g hg).2 (fun e=>by have h9:g=c:=e;have:=(hob g hg).1;omega));have hb1:Below c w w1:=hbel.trans (m1.below (fun k e=>by have h9:k=c:=e;omega) (by rw [HCE.out];exact hbel.size));clear ow hbel hcur c1 HC;go_wp2_with fail
   refine (HIS.out _).mono ?_;rintro e w2 ⟨rfl,m2⟩;have hG2:=m2.below (B:=(w1.alloc (.cells #[K,A,X,C,D,E,Co,Ro,t] 31)).heap.size) (fun _ e=>e.elim) (ZX _);have h2:=(aS.thing B c _).grow ((aS.thing B c _).alloc h1 (.cells #[K,A,X,C,D,E,Co,Ro,t] 31)) hG2;have hsz1:(w1.alloc (.cells #[K,A,X,C,D,E,Co,Ro,t] 31)).heap.size=w1.heap.size+1:=by simp
   have ow2:w2.ownsRow (c+1) 31 9 (.slice ad N cap) N (k_ ds):=eZ (ow1.alloc _) (fun g hg=>hG2.block g (by have:=(ow1.lt g hg).2;omega));have kO:w2.heap[w1.heap.size]? =some (.cells #[K,A,X,C,D,E,Co,Ro,t] 31 (0,0)):=by
    rw [hG2.block _ (by omega)];exact ZE w1 _
   have hc1:c < w1.heap.size:=h1.2.2.1;have hb2:Below c w w2:=hb1.trans (((ZV _ w1).alloc (by omega) _).trans (hG2.mono (by omega)));have y2:=h2.at 2 _ rfl;have HKO:=aa kO;have hlt2:w1.heap.size < w2.heap.size:=by have:=hG2.size;omega
   clear kO m1 m2 HIS h1 ow1 hb1 hG2;go_wp2_with (first
    | (refine Zu rfl 31 _ rfl w1.heap.size rfl 31 _ (0,0) _ HKO.out underlying31 rfl (by kernel_rfl) ?_)
    | (at_builtin;refine bQ rfl (.tmp 30) (.tmp 32) 86 rfl 31 (.agg #[oz,oz,oz,oz,oz,oz,oz,oz,.string ⟨#[]⟩]) 9 80 Tryz.infoOp rfl (by omega) underlying86 (c+1) _ N (k_ ds) rfl (ow2.alloc _) (by simp;omega) ⟨w2,0,none⟩ 1 rfl [.int .i64 K,.int .i64 A,.int .i64 X,.int .i64 C,.int .i64 D,.int .i64 E,.int .i64 Co,.int .i64 Ro,.string t] rfl (AB _ _ _ _ _ _ _ _ _ _ _) (by intro u hu;simp at hu;rcases hu with rfl | rfl | rfl | rfl | rfl | rfl | rfl | rfl | rfl <;> rfl) (by omega) (by omega) ?_))
   intro v7 w7 hO7 hg7 hat7;have hne:(Value.slice ad N cap).ownBlock≠some c:=fun e=>by have:=(ow2.lt c e).1;omega
   have hc2:c < w2.heap.size:=h2.2.2.1;have h7:aZ B c s P' w7 (cC c):=(aS.thing B c _).keep h2 (fun k hk=>by
    have h9:k=c:=hk;subst h9;exact (hg7.block k (by simp;omega) (fun e=>hne e.symm)).trans (ZC w2 _ k hc2)) (by have:=hg7.size;simp at this;omega)
   have hb7:Below c w w7:=(hb2.alloc (by omega) _).grown hg7 (by simp;omega) (fun k hk=>by have:=(ow2.lt k hk).1;omega);clear ow2 hg7 hat7 h2 y2 HKO hb2;go_wp2_with fail
   go_roundg (gk - 1)
   case measure=>simp at hg;omega
   case rel=>
    refine ⟨ds++[⟨K,A,X,C,D,E,Co,Ro,t⟩],rs,_,HDS,by simp at hg;omega,rfl,P',HPN,h7,?_,hb7⟩;rw [HOC.out,ZZ,hN];exact hO7
  | nil=>
   have hds:os=ds:=by rw [HD.out,Zm]
   have hpe:p=s.size:=by rw [HP.out,HSZ.out,hds]
   have d1:decide ((p:Int) < (s.size:Int))=false:=by simp;omega
   have hps:¬ p < s.size:=by omega
   have HZ:Hid (wr.ownsRow (w.heap.size+1) 31 9 u5 os.length (k_ os)/\Below w w wr):=by
    show _/\_
    rw [hds, <-HCE.out];exact ⟨ow,hbel⟩
   clear hds hpe HD HP ow hbel;go_wp2_with fail
   go_ret2;exact ⟨_,rfl,HZ.out⟩
end Go.Proofs.YtbklfkpjoinofaaGreatDoor
