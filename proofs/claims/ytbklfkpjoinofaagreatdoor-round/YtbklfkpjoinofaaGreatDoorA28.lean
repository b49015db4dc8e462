import Derived.Test.YtbklfkpjoinofaaGreatDoorA26
set_option linter.all false
set_option maxRecDepth 100000
set_option maxHeartbeats 8000000
namespace Go.Proofs.YtbklfkpjoinofaaGreatDoor
open Go.RowKit Go.Proofs.Tryz
theorem wS (w:World) (Fb C m:Nat) (hm:0 < m) (c0:w.cell? Fb=zp C) (cn:w.cell? (zq C 1)=(m:Int)):QE 85 #[zp Fb] w .nilIface:=by
 have HQ:=ai (eE w C (m:Int) cn);have hpos:(0:Int) < (m:Int):=by omega
 go_enter func85,ntmps85
 go_wp2_with fail
 refine HQ.out.mono ?_;rintro e w1 ⟨rfl,rfl⟩;go_wp2;go_ret;exact ⟨rfl,rfl⟩
theorem Wn.drawn_file {n:Wn} {s:St} {xs:List iB} {W H:Int} {ops:List bj} {Pg Cd P Cp:Nat} {st:dE} {Y:List UInt8} {w:World} {S:Bl} (h:n.drawn s xs W H ops Pg Cd P Cp st Y w S):w.cell? n.Fb=zp n.C/\∃ m:Nat,0 < m/\w.cell? (zq n.C 1)=(m:Int):=by
 obtain ⟨S1,S2,_,⟨S3,S4,_,hp,_,_⟩,_,_⟩:=h;obtain ⟨S5,S6,_,⟨S7,S8,_,⟨S9,S10,hF,hpd,_,_⟩,_,_⟩,_,_⟩:=hp;obtain ⟨vf,vw,vs,R,_,hk2,_⟩:=hpd;obtain ⟨R1,hck,_⟩:=hk2;obtain ⟨R2,_,_,_,_,_,_,_,c1,_⟩:=hck;obtain ⟨vb,vz,S11,S12,hc,_⟩:=hF;refine ⟨hc.at 0 _ rfl,_,?_,c1⟩;simp only [aC,bi,ZY,ZX];omega
theorem m_ (n:Wn) (s:St) (w:World) (S:Bl) (hlim:n.lim < 0) (hok:s.ok) (h:WD n s w S):CP 38 #[zp n.Wb] w (dp n w S (s.flush,s)):=by
 have HR:=dV n s w S h;have h0:=h;unfold St.flush;obtain ⟨xs,hx,⟨a,_,h⟩ | ⟨a,b,c,X,d,h⟩ | ⟨a,b,W,H,ops,l,Pg,Cd,P,Cp,st,Y,c1,c2,c3,c4,c5,c6,c7,h⟩⟩:=h
 ·rw [ZM a];refine (pC w _ n.Rb (h0.gone a).1 HR).mono ?_;rintro e w' ⟨rfl,q,rfl⟩;exact dp.same h0 (ay w q)
 ·rw [ZO (by rw [a];simp)];obtain ⟨_,_,_,r1,_⟩:=Wn.idle_read h;have hxl:xs.length=s.pages.length:=by rw [<-c];simp
  have hp80:=hok.pages;have hbeg:=fX d;have hup:=cN hx (by omega);have hXl:X.length<=100000000:=by
   have h2:(X++eW X).length<=100000000:=by rw [hbeg];exact hup
   simp at h2;omega
  refine jD w _ n.Rb n.Fb _ r1 HR (et:=0) (ev:=.int .i64 0) ?_;intro qn;have hiq:=(Wn.idle_thing n s xs X).drewN h qn;obtain ⟨Sf,hf,_,backf⟩:=ah.third (aS.thing _ _ _) (de.thing _ _ _ _ _ _ _ _ _) hiq;refine (jj (n.down hlim) (ZV _) (w.drewN qn) Sf n.Fb n.C _ _ X hf (by omega)).mono ?_;rintro e w' (⟨_,rfl,S',hf',m⟩ | ⟨hno,_⟩)
  ·rw [hbeg] at hf';obtain ⟨S2,h2,m2⟩:=backf _ _ _ hf' m;exact .inl ⟨rfl,rfl,S2,⟨xs,hx,.inr (.inl ⟨a,b,c,_,.inr rfl,h2⟩)⟩,m2.undrew⟩
  ·exact absurd trivial hno
 ·rw [ZO (by rw [a];simp)];obtain ⟨_,_,_,r1,_⟩:=Wn.drawn_read h;obtain ⟨f0,m,hm,cn⟩:=Wn.drawn_file h;refine jD w _ n.Rb n.Fb _ r1 HR (et:=0) (ev:=.int .i64 0) ?_;intro qn;refine (wS (w.drewN qn) n.Fb n.C m hm f0 cn).mono ?_;rintro e w' ⟨rfl,rfl⟩;exact .inl ⟨rfl,dp.same h0 (ay w qn)⟩
theorem cG.sizesAt {K:World->Bl->List UInt8->Prop} {B Fb C Pg Cd P Cp:Nat} {ty:TypeId} {q:Value} {begins:List Nat} {sizes:List (Int×Int)} {st:dE} {X0 Y Dr:List UInt8} {w:World} {S:Bl} (h:cG K B Fb C Pg Cd P Cp ty q begins sizes st X0 Y Dr w S):∃ ad cap,w.cell? (zq Fb 2)=some (.slice ad sizes.length cap)/\Fb < w.heap.size/\S Fb:=by
 obtain ⟨S5,S6,_,⟨S7,S8,_,⟨S9,S10,hF,_,_,rfl⟩,_,rfl⟩,_,rfl⟩:=h;obtain ⟨vb,vz,S11,S12,hc,⟨S13,S14,_,hz,_,_⟩,_,rfl⟩:=hF;obtain ⟨ad,cap,hv⟩:=eL hz.2;refine ⟨ad,cap,?_,hc.2.2.1,.inr (.inr (.inl (.inl (by rw [hc.1];rfl))))⟩;rw [hc.at 2 _ rfl,hv]
theorem wg (n:Wn) (s:St) (w:World) (S:Bl) (t:ByteArray) (htl:t.size<=9223372036854775807) (hok:s.ok) (hB:n.B<=w.heap.size) (h:WD n s w S):CP 39 #[zp n.Wb,t] w (dp n w S (s.mark t)):=by
 have HR:=dV n s w S h;have h0:=h;unfold St.mark;obtain ⟨xs,hx,⟨a,_,h⟩ | ⟨a,b,c,X,d,h⟩ | ⟨a,b,W,H,ops,l,Pg,Cd,P,Cp,st,Y,c1,c2,c3,c4,c5,c6,c7,h⟩⟩:=h
 ·rw [ZM (hok.shut a)];refine (nc w t (h0.gone a).2 HR).mono ?_;rintro e w' ⟨rfl,q,rfl⟩;exact dp.same h0 (ay w q)
 ·rw [ZM b];obtain ⟨_,_,_,_,r2,_⟩:=Wn.idle_read h;refine (nc w t r2 HR).mono ?_;rintro e w' ⟨rfl,q,rfl⟩;exact dp.same h0 (ay w q)
 rw [ZO (by rw [b];simp)];obtain ⟨_,_,_,r1,r2,_,_,fz,hRl⟩:=Wn.drawn_read h;by_cases h2:t.size=0\/100 < t.size
 ·rw [ZM h2];refine (yB w Pg t htl (by simp;omega) r2 HR).mono ?_;rintro e w' ⟨rfl,q,rfl⟩;exact dp.same h0 (ay w q)
 rw [ZO h2];have h1:decide (0 < t.size/\t.size<=100)=true:=by simp;omega
 obtain ⟨Sa,Sb,hcW,hRP,_,_,backW⟩:=ah.two2 (aS.thing _ _ _) h;obtain ⟨Sp,Sr,hP,hrep,hoff,_,backP⟩:=ah.two2 (cG.thing (jp.thing _ _ _) _ _ _ _ _ _ _ _ _ _ _ _) hRP.swap;obtain ⟨adz,capz,z2,hFb,hFS⟩:=cG.sizesAt hP;obtain ⟨vm,hrep⟩:=hrep;obtain ⟨Sc,Sm,hcR,hm,hoffR,hsubR,backR⟩:=ah.two2 (aS.thing _ _ _) hrep;obtain ⟨hSm,ow⟩:=hm;obtain ⟨ad,cap,hform⟩:=eL ow;have r5:w.cell? (zq n.Rb 5)=some vm:=hcR.at 5 _ rfl;have hmk:=hok.marks;by_cases h3:20<=s.marks.length
 ·rw [ZM h3];refine (tj w Pg s.marks.length cap ad t htl h1 h3 (by omega) r2 (by rw [r5,hform]) HR).mono ?_;rintro e w' ⟨rfl,q,rfl⟩;exact dp.same h0 (ay w q)
 rw [ZO h3];have hin:∀ k,(Value.slice ad s.marks.length cap).ownBlock=some k->Sm k:=fun k e=>by rw [hSm,hform];exact e
 have ne:(Value.slice ad s.marks.length cap).ownBlock≠some n.Rb:=fun e=>hoffR n.Rb (by rw [hcR.1];rfl) (hin _ e)
 have neF:(Value.slice ad s.marks.length cap).ownBlock≠some n.Fb:=fun e=>hoff n.Fb hFS (hsubR _ (hin _ e))
 have hNl:(aQ xs++[(W,H)]).length=s.pages.length:=by
  rw [ZY,xL,c1];have e:xs.length=l.length:=by rw [<-c2];simp
  simp [e]
 have hpg:=hok.pages;have hN0:0 < s.pages.length:=by rw [c1];simp
 rw [hNl] at z2;refine zC w _ n.B n.Rb n.Fb Pg s.marks.length cap s.pages.length capz ad adz t (iz s.marks) _ (by omega) h1 (by omega) (by omega) r1 r2 (by rw [r5,hform]) (fz 5) z2 hRl hFb hB (by rw [<-hform];exact ow) ne neF HR ?_;intro v w7 hg hA;obtain ⟨kr,km⟩:=hA.moved hg;obtain ⟨S7,h7,m7⟩:=backR (aW n.B 98 2 v (s.marks++[(t,s.pages.length - 1)]).length (iz (s.marks++[(t,s.pages.length - 1)]))) w7 _ (by
  rw [nf,ZY,show (((t,s.pages.length - 1):ByteArray×Nat).2:Int)=(s.pages.length:Int) - 1 by show ((s.pages.length - 1:Nat):Int)=_;omega];exact kr) (by rw [hSm,hform];exact km)
 obtain ⟨S8,hc8,_,back8⟩:=ah.fst (aW.thing _ _ _ _ _ _) h7;obtain ⟨k9,m9⟩:=hc8.set 5 v (by simp);obtain ⟨S9,h9,m9'⟩:=back8 _ _ _ k9 m9;obtain ⟨S10,h10,m10⟩:=backP (de n.B n.Rb n.T n.Fb (zp Pg) (s.left:Int) s.title (s.marks++[(t,s.pages.length - 1)]).length (iz (s.marks++[(t,s.pages.length - 1)]))) _ _ ⟨v,h9⟩ (m7.trans m9');obtain ⟨S11,h11,m11⟩:=backW _ _ _ h10.swap m10;exact ⟨rfl,S11,⟨xs,hx,.inr (.inr ⟨a,b,W,H,ops,l,Pg,Cd,P,Cp,st,Y,c1,c2,c3,c4,c5,c6,c7,h11⟩)⟩,m11⟩
structure oc (B:Nat) (T:TypeId) (q q':Value) (f:FuncId) (L:Nat) (K:World->Bl->List UInt8->Prop):Prop where
 thing:∀ D,aJ B (fun w S=>K w S D)
 hn:∀ wx,(nilAhead 465 T q "Write").run prog wx=.ok (some false) wx
 hm:∀ wx,(method 465 T q "Write").run prog wx=.ok (f,q') wx
 he:∀ args wx,(callFunc f args).run prog wx=.ok (.enter f args) wx
 write:∀ w S D (s:ByteArray),K w S D->D.length+s.size<=L->CP f #[q',s] w fun e w'=>e=.returned .nilIface/\∃ S',K w' S' (D++s.data.toList)/\Mv S w S' w'
def nt (K:World->Bl->List UInt8->Prop) (S:Bl) (w:World) (D:List UInt8) (e:Ending) (w':World):Prop:=e=.returned .nilIface/\∃ S',K w' S' D/\Mv S w S' w'
section
variable {B:Nat} {T:TypeId} {q q':Value} {f:FuncId} {L:Nat} {K:World->Bl->List UInt8->Prop}
theorem oc.send (F:oc B T q q' f L K) {w:World} {S:Bl} {D:List UInt8} (h:K w S D) (x:List UInt8) (hl:D.length+x.length<=L):∀ wx,af w wx->CP f #[q',.string ⟨x.toArray⟩] wx fun e w'=>∃ v,e=.returned v/\nt K S w (D++x) (.returned v) w':=by
 intro wx hb;have hk:K wx S D:=(F.thing D).keep h (fun k hk=>hb.block k ((F.thing D).lt h hk)) hb.size;refine (F.write wx S D ⟨x.toArray⟩ hk (by simpa [ByteArray.size] using hl)).mono ?_;rintro e w' ⟨rfl,S',h',m'⟩;exact ⟨_,rfl,rfl,S',by simpa using h',(Mv.grow hb S).trans m'⟩
theorem ek (w:World) (ns:List Int) (hB:B<=w.heap.size) (ht:bU B w) (hl:ns.length<=4) (hr:∀ z∈ns,-100000000<=z/\z<=100000000):Hid (∀ v wx,af w wx->ci ns v wx->QB 170 #[v] wx (.string ⟨(aG ns).toArray⟩)):=by
 rintro v wx hb ⟨b,rfl,hbl,hc⟩;exact rJ B wx b _ _ ns rfl hbl (by omega) hc hr (ZU hB hb.size) (ht.on (hb.mono hB))
theorem dL:∀ ns:List Int,(∀ z∈ns,-100000000<=z/\z<=100000000)->(aG ns).length<=27*ns.length
 | [],_=>by simp [aG]
 | z::l,h=>by
  have h1:=eu z (h z (by simp)).1 (h z (by simp)).2;have h2:=dL l (fun y hy=>h y (by simp [hy]));simp only [aG,ZY,ZX,ZS];omega
theorem BE (F:oc B T q q' f L K) (w:World) (S:Bl) (D:List UInt8) (o:bj) (ho:o.near) (hk:o.k=2) (hB:B<=w.heap.size) (ht:bU B w) (h:K w S D) (hl:D.length+o.text.length<=L):
  CP 358 #[.agg #[o.a,o.b,o.c,o.d,o.e],.iface T q] w (nt K S w (D++o.text)):=by
 obtain ⟨⟨a1,a2⟩,⟨b1,b2⟩,⟨c1,c2⟩,⟨d1,d2⟩,⟨e1,e2⟩,_⟩:=ho;have r1:∀ z∈[o.e],-100000000<=z/\z<=100000000:=(ZC.2 ⟨⟨e1,e2⟩,(fun z hz=>by simp at hz)⟩);have r2:∀ z∈[o.a,o.b],-100000000<=z/\z<=100000000:=(ZC.2 ⟨⟨a1,a2⟩,(ZC.2 ⟨⟨b1,b2⟩,(fun z hz=>by simp at hz)⟩)⟩);have r3:∀ z∈[o.c,o.d],-100000000<=z/\z<=100000000:=(ZC.2 ⟨⟨c1,c2⟩,(ZC.2 ⟨⟨d1,d2⟩,(fun z hz=>by simp at hz)⟩)⟩);have l1:=dL _ r1;have l2:=dL _ r2;have l3:=dL _ r3;simp only [ZX,ZS] at l1 l2 l3;have ht2:o.text=aG [o.e]++[119,32]++aG [o.a,o.b]++[109,32]++aG [o.c,o.d]++[108,32,83,10]:=by
  unfold bj.text;rw [ZO (by omega),ZM hk];simp only [ZT]
 exact ox B w o.a o.b o.c o.d o.e T q q' f F.hn F.hm hB ht _ _ _ o.text ht2.symm (by omega) (by omega) (by omega) _ F.he (F.send h _ hl) (ek w _ hB ht (by simp) r1) (ek w _ hB ht (by simp) r2) (ek w _ hB ht (by simp) r3)
theorem Bo (F:oc B T q q' f L K) (w:World) (S:Bl) (D:List UInt8) (o:bj) (ho:o.near) (hk:o.k=3) (hB:B<=w.heap.size) (ht:bU B w) (h:K w S D) (hl:D.length+o.text.length<=L):
  CP 360 #[.agg #[o.a,o.b,o.c,o.d,o.e],.iface T q] w (nt K S w (D++o.text)):=by
 obtain ⟨⟨a1,a2⟩,⟨b1,b2⟩,⟨c1,c2⟩,⟨d1,d2⟩,⟨e1,e2⟩,_⟩:=ho;have r1:∀ z∈[o.e],-100000000<=z/\z<=100000000:=(ZC.2 ⟨⟨e1,e2⟩,(fun z hz=>by simp at hz)⟩);have r2:∀ z∈[o.a,o.b,o.c,o.d],-100000000<=z/\z<=100000000:=(ZC.2 ⟨⟨a1,a2⟩,(ZC.2 ⟨⟨b1,b2⟩,(ZC.2 ⟨⟨c1,c2⟩,(ZC.2 ⟨⟨d1,d2⟩,(fun z hz=>by simp at hz)⟩)⟩)⟩)⟩);have l1:=dL _ r1;have l2:=dL _ r2;simp only [ZX,ZS] at l1 l2;have ht2:o.text=aG [o.e]++[103,32]++aG [o.a,o.b,o.c,o.d]++[114,101,32,102,10]:=by
  unfold bj.text;rw [ZO (by omega),ZO (by omega),ZM hk];simp only [ZT]
 exact nV w o.a o.b o.c o.d o.e T q q' f F.hn F.hm _ _ o.text ht2.symm (by omega) (by omega) _ F.he (F.send h _ hl) (ek w _ hB ht (by simp) r1) (ek w _ hB ht (by simp) r2)
theorem Bn (F:oc B T q q' f L K) (w:World) (S:Bl) (D:List UInt8) (o:bj) (ho:o.near) (hk:o.k=1) (hB:B<=w.heap.size) (ht:bU B w) (h:K w S D) (hl:D.length+o.text.length<=L):
  CP 356 #[.agg #[o.a,o.b,o.c,o.s],.iface T q] w (nt K S w (D++o.text)):=by
 obtain ⟨⟨a1,a2⟩,⟨b1,b2⟩,⟨c1,c2⟩,⟨d1,d2⟩,⟨e1,e2⟩,_,_,_,hs⟩:=ho;have hs:=hs hk;have r1:∀ z∈[o.c],-100000000<=z/\z<=100000000:=(ZC.2 ⟨⟨c1,c2⟩,(fun z hz=>by simp at hz)⟩);have r2:∀ z∈[o.a,o.b],-100000000<=z/\z<=100000000:=(ZC.2 ⟨⟨a1,a2⟩,(ZC.2 ⟨⟨b1,b2⟩,(fun z hz=>by simp at hz)⟩)⟩);have l1:=dL _ r1;have l2:=dL _ r2;have l3:=ii o.s.data.toList;rw [aP] at l3;simp only [ZX,ZS] at l1 l2;have ht2:o.text=[66,84,32,47,70,49,32]++aG [o.c]++[84,102,32]++aG [o.a,o.b]++[84,100,32]++bc o.s.data.toList++[32,84,106,32,69,84,10]:=by
  unfold bj.text;rw [ZM hk];simp only [ZT]
 exact oq w o.a o.b o.c o.s T q q' f F.hn F.hm _ _ _ o.text ht2.symm (by omega) (by omega) (by simp only [bc,ZY,ZX,ZS];omega) _ F.he (F.send h _ hl) (ek w _ hB ht (by simp) r1) (ek w _ hB ht (by simp) r2) (fun wx _=>jK wx o.s (by omega))
theorem Et (F:oc B T q q' f L K) (w:World) (S:Bl) (D:List UInt8) (o:bj) (ho:o.near) (hB:B<=w.heap.size) (ht:bU B w) (h:K w S D) (hl:D.length+o.headB.length<=L):
  CP 132 #[.agg #[o.a,o.b,o.c,o.d,o.co,o.ro],.iface T q] w (nt K S w (D++o.headB)):=by
 obtain ⟨⟨a1,a2⟩,⟨b1,b2⟩,⟨c1,c2⟩,⟨d1,d2⟩,⟨e1,e2⟩,⟨f1,f2⟩,⟨g1,g2⟩,_⟩:=ho;have r1:∀ z∈[o.c],-100000000<=z/\z<=100000000:=(ZC.2 ⟨⟨c1,c2⟩,(fun z hz=>by simp at hz)⟩);have r2:∀ z∈[o.d,o.a,o.b],-100000000<=z/\z<=100000000:=(ZC.2 ⟨⟨d1,d2⟩,(ZC.2 ⟨⟨a1,a2⟩,(ZC.2 ⟨⟨b1,b2⟩,(fun z hz=>by simp at hz)⟩)⟩)⟩);have l1:=dL _ r1;have l2:=dL _ r2;have i1:=ar o.co f1 f2;have i2:=ar o.ro g1 g2;simp only [ZX,ZS] at l1 l2;have ht2:o.headB=[113,32]++aG [o.c]++[48,32,48,32]++aG [o.d,o.a,o.b]++[99,109,32,66,73,32]++([47,87,32]++Lib.itoa o.co++[32,47,72,32]++Lib.itoa o.ro)++[32,47,67,83,32,47,71,32,47,66,80,67,32,56,32,73,68,32]:=by
  unfold bj.headB;simp
 exact lI w o.a o.b o.c o.d o.co o.ro T q q' f F.hn F.hm _ _ _ _ _ o.headB rfl ht2.symm (by omega) (by omega) (by omega) (by omega) (by simp only [ZY,ZX,ZS];omega) _ F.he (F.send h _ hl) (ek w _ hB ht (by simp) r1) (ek w _ hB ht (by simp) r2) (fun wx hb=>bp B wx o.co f1 f2 (ht.on (hb.mono hB))) (fun wx hb=>bp B wx o.ro g1 g2 (ht.on (hb.mono hB)))
end
section
variable {T:TypeId} {q q':Value} {f:FuncId}
theorem jL (w:World) (X Y W H C R:Int) (s:ByteArray) (et:TypeId) (ev:Value) (G1 G2:World->Prop) (Z:Ending->World->Prop) (hn:∀ wx,(nilAhead 465 T q "Write").run prog wx=.ok (some false) wx) (hm:∀ wx,(method 465 T q "Write").run prog wx=.ok (f,q') wx) (he:∀ args wx,(callFunc f args).run prog wx=.ok (.enter f args) wx)
  (H1:Hid (∀ wx,af w wx->wx.cell? (zq w 6)=some (.string s)->w.heap.size < wx.heap.size->CP 132 #[.agg #[X,Y,W,H,C,R],.iface T q] wx fun e w'=>(e=.returned .nilIface/\G1 w')\/(e=.returned (.iface et ev)/\Z (.returned (.iface et ev)) w')))
  (H2:Hid (∀ w1,G1 w1->CP f #[q',s] w1 fun e w'=>(e=.returned .nilIface/\G2 w')\/(e=.returned (.iface et ev)/\Z (.returned (.iface et ev)) w')))
  (HK:Hid (∀ w1,G1 w1->w1.cell? (zq w 6)=some (.string s)))
  (H3:Hid (∀ w2,G2 w2->CP f #[q',.string ⟨#[10,69,73,32,81,10]⟩] w2 fun e w'=>∃ v,e=.returned v/\Z (.returned v) w')):
  CP 353 #[.agg #[X,Y,W,H,C,R,s],.iface T q] w Z:=by
 go_enter func353,ntmps353
 go_wp2_with fail
 refine (H1.out _ (aN _ _) (by simp) (by simp)).mono ?_;rintro e w1 (⟨rfl,h1⟩ | ⟨rfl,hz⟩)
 ·have c6:=HK.out w1 h1;have HX:=ai (H2.out w1 h1);clear H1 H2 HK;go_wp2_with fail
  refine HX.out.mono ?_;rintro e w2 (⟨rfl,h2⟩ | ⟨rfl,hz⟩)
  ·have HY:=ai (ju (T:=T) (q:=q) w2 (fun e w'=>∃ v,e=.returned v/\Z (.returned v) w') hn hm he ((H3.out w2 h2).mono (fun e w' ⟨v,a,b⟩=>⟨v,a,v,rfl,b⟩)));clear HX H3 c6;go_wp2_with fail
   refine HY.out.mono ?_;rintro e w3 ⟨v,rfl,hZ⟩;go_wp2
   first
    | exact hZ
    | (go_ret;exact hZ)
  ·go_wp2
   first
    | exact hz
    | (go_ret;exact hz)
 ·go_wp2
  first
   | exact hz
   | (go_ret;exact hz)
end
section
variable {B:Nat} {T:TypeId} {q q':Value} {f:FuncId} {L:Nat} {K:World->Bl->List UInt8->Prop}
theorem yS {o:bj} (hk:o.k=4):o.text=o.headB++(o.s.data.toList++[10,69,73,32,81,10]):=by
 unfold bj.text bj.headB;rw [ZO (by omega),ZO (by omega),ZO (by omega)];simp only [ZT]
theorem yx (F:oc B T q q' f L K) (w:World) (S:Bl) (D:List UInt8) (o:bj) (ho:o.near) (hk:o.k=4) (hB:B<=w.heap.size) (ht:bU B w) (h:K w S D) (hl:D.length+o.text.length<=L):
  CP 353 #[.agg #[o.a,o.b,o.c,o.d,o.co,o.ro,o.s],.iface T q] w (nt K S w (D++o.text)):=by
 have htx:=yS hk;have hlen:o.text.length=o.headB.length+o.s.size+6:=by rw [htx];simp;omega
 refine jL w o.a o.b o.c o.d o.co o.ro o.s 0 (0:Int) (fun w1=>(∃ S1,K w1 S1 (D++o.headB)/\Mv S w S1 w1)/\w1.cell? (zq w 6)=some (.string o.s)) (fun w2=>∃ S2,K w2 S2 (D++o.headB++o.s.data.toList)/\Mv S w S2 w2) _ F.hn F.hm F.he ?_ ?_ ?_ ?_
 ·intro wx hb c6 hlt;have hkx:K wx S D:=(F.thing D).keep h (fun k hk=>hb.block k ((F.thing D).lt h hk)) hb.size;refine (Et F wx S D o ho (ZU hB hb.size) (ht.on (hb.mono hB)) hkx (by omega)).mono ?_;rintro e w' ⟨rfl,S',h',m'⟩;refine .inl ⟨rfl,⟨S',h',(Mv.grow hb S).trans m'⟩,?_⟩;have hnS:¬ S w.heap.size:=fun e=>by have:=(F.thing D).lt h e;omega
  exact (ZR (a:=zq w 6) (m'.keep hlt hnS)).trans c6
 ·rintro w1 ⟨⟨S1,h1,m1⟩,_⟩;refine (F.write w1 S1 _ o.s h1 (by simp;omega)).mono ?_;rintro e w' ⟨rfl,S',h',m'⟩;exact .inl ⟨rfl,S',h',m1.trans m'⟩
 ·rintro w1 ⟨_,c⟩;exact c
 ·rintro w2 ⟨S2,h2,m2⟩;have h6:(⟨#[10,69,73,32,81,10]⟩:ByteArray).size=6:=rfl;refine (F.write w2 S2 _ ⟨#[10,69,73,32,81,10]⟩ h2 (by rw [h6,ZY,ZY,aP];omega)).mono ?_;rintro e w' ⟨rfl,S',h',m'⟩;refine ⟨_,rfl,rfl,S',?_,m2.trans m'⟩;rw [htx];simpa using h'
end
structure BO (o:bj) (Tk:TypeId) (vk:Value) (fk:FuncId):Prop where
 hn:∀ wx,(nilAhead 465 Tk vk "Write").run prog wx=.ok (some false) wx
 hm:∀ wx,(method 465 Tk vk "Write").run prog wx=.ok (fk,vk) wx
 he:∀ args wx,(callFunc fk args).run prog wx=.ok (.enter fk args) wx
 writes:∀ {B:Nat} {T:TypeId} {q q':Value} {f:FuncId} {L:Nat} {K:World->Bl->List UInt8->Prop},oc B T q q' f L K->∀ (w:World) (S:Bl) (D:List UInt8),B<=w.heap.size->bU B w->K w S D->D.length+o.text.length<=L->CP fk #[vk,.iface T q] w (nt K S w (D++o.text))
theorem AZ (args:Array Value) (w:World):(callFunc 356 args).run prog w=.ok (.enter 356 args) w:=by kernel_rfl
theorem AF (args:Array Value) (w:World):(callFunc 358 args).run prog w=.ok (.enter 358 args) w:=by kernel_rfl
theorem AH (args:Array Value) (w:World):(callFunc 360 args).run prog w=.ok (.enter 360 args) w:=by kernel_rfl
theorem uF (args:Array Value) (w:World):(callFunc 353 args).run prog w=.ok (.enter 353 args) w:=by kernel_rfl
theorem BF (args:Array Value) (w:World):(callFunc 128 args).run prog w=.ok (.enter 128 args) w:=by kernel_rfl
theorem zX (o:bj) (ho:o.is):∃ Tk vk fk,lm o=.iface Tk vk/\BO o Tk vk fk:=by
 have hnear:=ho.near;by_cases k1:o.k=1
 ·exact ⟨_,_,_,by unfold lm;rw [ZM k1],⟨AK _,Bf _,AZ,fun F w S D hB ht h hl=>Bn F w S D o hnear k1 hB ht h hl⟩⟩
 by_cases k2:o.k=2
 ·exact ⟨_,_,_,by unfold lm;rw [ZO k1,ZM k2],⟨Bc _,AG _,AF,fun F w S D hB ht h hl=>BE F w S D o hnear k2 hB ht h hl⟩⟩
 by_cases k3:o.k=3
 ·exact ⟨_,_,_,by unfold lm;rw [ZO k1,ZO k2,ZM k3],⟨AP _,AJ _,AH,fun F w S D hB ht h hl=>Bo F w S D o hnear k3 hB ht h hl⟩⟩
 have k4:o.k=4:=by
  obtain ⟨_,_,h | h | h | h⟩:=ho
  ·exact absurd h.1 k1
  ·exact absurd h.1 k2
  ·exact absurd h.1 k3
  ·exact h.1
 exact ⟨_,_,_,by unfold lm;rw [ZO k1,ZO k2,ZO k3],⟨uE _,zu _,uF,fun F w S D hB ht h hl=>yx F w S D o hnear k4 hB ht h hl⟩⟩
theorem zL (B C:Nat):oc B 162 (zp C) (zp C) 128 1000000 (fun w S D=>aS B C [.nilIface,.int .i64 (D.length:Int)] w S) where
 thing:=fun D=>aS.thing _ _ _
 hn:=xQ C
 hm:=uz C
 he:=BF
 write:=by
  intro w S D s h hl;refine (yH w C D.length s (h.at 0 _ rfl) (h.at 1 _ rfl) (h.fz 1) (by omega) (by omega)).mono ?_;rintro e w' ⟨rfl,rfl⟩;obtain ⟨k,m⟩:=h.set 1 (.int .i64 ((D.length:Int)+(s.size:Int))) (by simp);refine ⟨rfl,S,?_,m⟩;have e:((D++s.data.toList).length:Int)=(D.length:Int)+(s.size:Int):=by rw [ZY,aP];omega
  rw [e];exact k
theorem qS (B:Nat) (w:World) (o:bj) {Tk:TypeId} {vk:Value} {fk:FuncId} (W:BO o Tk vk fk) (hl:o.text.length<=1000000) (hB:B<=w.heap.size) (ht:bU B w):QB 88 #[.iface Tk vk] w (o.text.length:Int):=by
 refine wX w Tk vk fk _ W.hn W.hm W.he ?_;have hg:af w (w.alloc (.cells #[.nilIface,oz] 208)):=aN _ _;have hc:aS B w.heap.size [.nilIface,.int .i64 0] (w.alloc (.cells #[.nilIface,oz] 208)) (cC w.heap.size):=aS.alloc hB;refine (W.writes (zL B w.heap.size) _ (cC w.heap.size) [] (ZU hB hg.size) (ht.on (hg.mono hB)) hc (by simpa using hl)).mono ?_;rintro e w' ⟨rfl,S',h',m'⟩;refine ⟨_,rfl,by simpa using h'.at 1 _ rfl,?_⟩;have hb:Below w (w.alloc (.cells #[.nilIface,oz] 208)) w':=m'.below (fun k e=>by rw [show k=w.heap.size from e];exact ZV _) hg.size;exact Below.trans hg hb
theorem mg (n:Wn) (hlim:n.lim < 0) (Pg Cd P Cp:Nat) (begins:List Nat) (sizes:List (Int×Int)) (X0:List UInt8) (hX:X0.length+1200000<=2000000000):oc n.B 91 (zp Pg) (zp Pg) 133 1048576 (fun w S D=>∃ st Y,cG n.K n.B n.Fb n.C Pg Cd P Cp 89 n.sk begins sizes st X0 Y D w S/\PI st Y D/\st.W.length - st.at_ < 261) where
 thing:=fun D=>{
  keep:=by
   rintro w w' S ⟨st,Y,h,a,b⟩ hk hz;exact ⟨st,Y,(cG.thing (jp.thing _ _ _) _ _ _ _ _ _ _ _ _ _ _ _).keep h hk hz,a,b⟩
  lt:=by
   rintro w S k ⟨st,Y,h,a,b⟩ hk;exact (cG.thing (jp.thing _ _ _) _ _ _ _ _ _ _ _ _ _ _ _).lt h hk
  ge:=by
   rintro w S k ⟨st,Y,h,a,b⟩ hk;exact (cG.thing (jp.thing _ _ _) _ _ _ _ _ _ _ _ _ _ _ _).ge h hk}
 hn:=uJ Pg
 hm:=rO Pg
 he:=oK
 write:=by
  rintro w S D s ⟨st,Y,h,hI,h2⟩ hl;refine (nX (n.down hlim) (ZV _) w S n.Fb n.C Pg Cd P Cp begins sizes st X0 Y D s h hI h2 hl hX).mono ?_;rintro e w' (⟨_,rfl,S',⟨h',a,b⟩,m⟩ | ⟨hno,_⟩)
  ·exact ⟨rfl,S',⟨_,_,h',a,b⟩,m⟩
  ·exact absurd trivial hno
theorem cG.room {K:World->Bl->List UInt8->Prop} {B Fb C Pg Cd P Cp:Nat} {ty:TypeId} {q:Value} {begins:List Nat} {sizes:List (Int×Int)} {st:dE} {X0 Y Dr:List UInt8} {w:World} {S:Bl} (h:cG K B Fb C Pg Cd P Cp ty q begins sizes st X0 Y Dr w S) (hl:Dr.length<=1048576):QE 90 #[zp Pg] w ((1048576 - Dr.length:Nat):Int):=by
 obtain ⟨S5,S6,hc,⟨S7,S8,hd,_⟩,_⟩:=h;exact vv w Pg Cd Dr.length (hc.at 1 _ rfl) (hd.at 1 _ rfl) hl
theorem xd (n:Wn) (s:St) (w:World) (S:Bl) (o:bj) (hos:o.s.size<=9223372036854775807) (hlim:n.lim < 0) (hok:s.ok) (hB:n.B<=w.heap.size) (ht:bU n.B w) (h:WD n s w S):CP 42 #[zp n.Wb,o.val] w (dp n w S (s.draw o)):=by
 have HR:∀ wx,Below w w wx->QD 77 #[zp n.Wb] wx (if s.drawing then .tuple #[zp n.Rb,oz] else .tuple #[.pointer none,(2:Int)]):=fun wx hb=>mi n s wx S hok (h.on hb)
 have HF:∀ wx,QB 93 #[o.val] wx (.tuple #[if o.is then lm o else .nilIface,.bool (decide o.is)]):=fun wx=>yj wx o hos
 unfold St.draw;by_cases hd:s.drawing=false
 ·rw [ZM hd];rw [hd] at HR;refine (rM w o.k o.a o.b o.c o.d o.e o.co o.ro o.s 2 (by decide) HR).mono ?_;rintro e w' ⟨rfl,hb⟩;exact dp.same h hb
 rw [ZO hd];have hdr:s.drawing=true:=by cases e:s.drawing with | false=>exact absurd e hd | true=>rfl
 rw [hdr] at HR;obtain ⟨hop,hl0⟩:=St.drawing_of hdr;by_cases h2:¬ o.is
 ·rw [ZM h2];rw [ZO h2,Zj h2] at HF;refine (xt w _ n.Rb o.k o.a o.b o.c o.d o.e o.co o.ro o.s .nilIface HR (fun wx _=>HF wx)).mono ?_;rintro e w' ⟨rfl,hb⟩;exact dp.same h hb
 rw [ZO h2];have ho:o.is:=Decidable.not_not.1 h2;rw [ZM ho,Zq ho] at HF;obtain ⟨Tk,vk,fk,hfr,OW⟩:=zX o ho;rw [hfr] at HF;have htl:=ho.near.text_len;have h0:=h;obtain ⟨xs,hx,⟨a,_,h⟩ | ⟨a,b,c,X,d,h⟩ | ⟨a,b,W,H,ops,l,Pg,Cd,P,Cp,st,Y,c1,c2,c3,c4,c5,c6,c7,h⟩⟩:=h
 ·exact absurd (hop.symm.trans (hok.shut a)) (by simp)
 ·exact absurd (hop.symm.trans b) (by simp)
 have hpart:s.part=[]:=by simp [St.part,hl0]
 have hsz:s.size=(bE ops).length:=by have:=c5.2;rw [ZM hl0] at this;exact this
 have hDl:(bE ops++s.part).length=s.size:=by rw [hpart,YX,hsz]
 have hsm:=hok.size;obtain ⟨_,_,_,_,r2,_,_,_,hRl⟩:=Wn.drawn_read h;have HS:∀ wx,Below w w wx->QB 88 #[.iface Tk vk] wx (o.text.length:Int):=fun wx hb=>qS n.B wx o OW (by omega) (ZU hB hb.size) (ht.on (hb.mono hB))
 have hon:∀ wx,Below w w wx->n.drawn s xs W H ops Pg Cd P Cp st Y wx S:=fun wx hb=>(Wn.drawn_thing n s xs W H ops Pg Cd P Cp st Y).keep h (fun k hk=>hb.block k ((Wn.drawn_thing n s xs W H ops Pg Cd P Cp st Y).lt h hk)) hb.size
 have HM:∀ wx,Below w w wx->QE 90 #[zp Pg] wx ((1048576 - s.size:Nat):Int):=fun wx hb=>by
  obtain ⟨Sp,hp,_,_⟩:=ah.third (aS.thing _ _ _) (de.thing _ _ _ _ _ _ _ _ _) (hon wx hb);have:=hp.room (by omega);rw [hDl] at this;exact this
 by_cases h3:1048576 < s.size+o.text.length
 ·rw [ZM h3];refine (tU w _ n.Rb o.k o.a o.b o.c o.d o.e o.co o.ro o.s Pg Tk vk o.text.length (1048576 - s.size) (by omega) (by omega) hRl r2 HR (fun wx _=>HF wx) HS HM (by omega)).mono ?_;rintro e w' ⟨rfl,hb⟩;exact dp.same h0 hb
 rw [ZO h3];have hxn:xs.length+1<=80:=by
  have:=hok.pages;rw [c1] at this;have e:xs.length=l.length:=by rw [<-c2];simp
  simp at this;omega
 have hup:=cN hx (by omega);have ho1:=eK (2*xs.length+1) (by omega);have ho2:=gn (2*xs.length+2) (by omega);refine zU w _ n.Rb o.k o.a o.b o.c o.d o.e o.co o.ro o.s Pg Tk vk o.text.length (1048576 - s.size) (by omega) (by omega) hRl r2 HR (fun wx _=>HF wx) HS HM (by omega) fk 0 (0:Int) _ OW.hm OW.hn OW.he ?_;intro wx hb;obtain ⟨Sp,hp,_,backp⟩:=ah.third (aS.thing _ _ _) (de.thing _ _ _ _ _ _ _ _ _) (hon wx hb);refine (OW.writes (mg n hlim Pg Cd P Cp (be 9 0 (aA xs)++[(aC (aA xs)).length]) (aQ xs++[(W,H)]) (aC (aA xs)++(aL (2*xs.length+1)++cX (2*xs.length+2))) (by simp only [ZY];omega)) wx Sp (bE ops++s.part) (ZU hB hb.size) (ht.on (hb.mono hB)) ⟨st,Y,hp,c6,c7⟩ (by omega)).mono ?_;rintro e w' ⟨rfl,S',⟨st',Y',h',hI',h261'⟩,m'⟩;obtain ⟨S2,hw2,m2⟩:=backp _ _ _ h' m';have hD:bE ops++s.part++o.text=bE (ops++[o])++s.part:=by rw [hpart,sR];simp
 rw [hD] at hw2 hI';refine .inl ⟨rfl,rfl,S2,⟨xs,hx,.inr (.inr ⟨a,b,W,H,ops++[o],l,Pg,Cd,P,Cp,st',Y',?_,c2,c3,c4,⟨?_,?_⟩,hI',h261',hw2⟩)⟩,(Mv.grow hb S).trans m2⟩
 ·simp [St.put,c1]
 ·intro p hp;rcases Zu.1 hp with hp | hp
  ·exact c5.1 p hp
  ·simp at hp;subst hp;exact ho
 ·rw [ZM hl0];simp [sR,hsz]
def Wn.at (B b:Nat) (lim:Int):Wn:=⟨B,b,b+1,b+2,b+3,b+4,lim⟩
theorem i6 (k:Nat):¬ ob (.slice none 0 0) k:=fun e=>by simp [ob,Value.ownBlock] at e
theorem WD.new (B:Nat) (w:World) (lim:Int) (hB:B<=w.heap.size) (hl:lim < 0) (hl2:-9223372036854775808<=lim):∃ S,WD (Wn.at B w.heap.size lim) St.new (fU w lim) S/\∀ k,S k->w.heap.size<=k:=by
 obtain ⟨u1,hu1⟩:∃ u,u=w.alloc (.cells #[lim,.slice none 0 0,false] 153):=⟨_,rfl⟩;have z1:u1.heap.size=w.heap.size+1:=by rw [hu1];simp
 have k1:jp B w.heap.size lim u1 (cC w.heap.size) []:=by
  have hc:aS B w.heap.size [.int .i64 lim,.slice none 0 0,.bool false] u1 (cC w.heap.size):=by rw [hu1];exact aS.alloc hB
  refine ⟨.slice none 0 0,⟨hc.at 0 _ rfl,hc.at 1 _ rfl,hc.at 2 _ rfl,hc.fz,Yl _ _ _ _,by simp [Value.ownBlock],by omega,by omega,?_,hl2,by omega⟩,?_,hB⟩
  ·first
    | exact .inl hl
    | (unfold uU;omega)
    | (unfold uU;simp;omega)
  ·funext k
   exact propext ⟨.inl,fun e=>e.elim id (fun e=>(i6 k e).elim)⟩
 obtain ⟨u2,hu2⟩:∃ u,u=u1.alloc (.cells #[.iface 89 (zp w),oz] 208):=⟨_,rfl⟩;have z2:u2.heap.size=w.heap.size+2:=by rw [hu2];simp [z1]
 have g2:af u1 u2:=by rw [hu2];exact aN _ _
 have c2:aS B (w.heap.size+1) [.iface 89 (zp w),.int .i64 0] u2 (cC (w.heap.size+1)):=by rw [hu2, <-z1];exact aS.alloc (by omega)
 have k2:CK (jp B w.heap.size lim) B (w.heap.size+1) 0 89 (zp w) u2 (cT (cC (w.heap.size+1)) (cC w.heap.size)) []:=by
  refine ⟨cC w.heap.size,(jp.thing B w.heap.size lim []).keep k1 (fun k hk=>g2.block k ((jp.thing B w.heap.size lim []).lt k1 hk)) g2.size,rfl,by omega,fun e=>by have:w.heap.size+1=w.heap.size:=e;omega,by omega,ZV _,c2.at 0 _ rfl,c2.at 1 _ rfl,c2.fz⟩
 have T2:=CK.thing (jp.thing B w.heap.size lim) (w.heap.size+1) 0 89 (zp w) [];obtain ⟨u3,hu3⟩:∃ u,u=u2.alloc (.cells #[zp (w.heap.size+1),.slice none 0 0,.slice none 0 0] 166):=⟨_,rfl⟩;have z3:u3.heap.size=w.heap.size+3:=by rw [hu3];simp [z2]
 have g3:af u2 u3:=by rw [hu3];exact aN _ _
 have c3:aS B (w.heap.size+2) [.pointer (some ⟨w.heap.size+1,0,none⟩),.slice none 0 0,.slice none 0 0] u3 (cC (w.heap.size+2)):=by rw [hu3, <-z2];exact aS.alloc (by omega)
 have f3:FB B (w.heap.size+2) (w.heap.size+1) [] [] u3 (cT (cC (w.heap.size+2)) (cT (ob (.slice none 0 0)) (ob (.slice none 0 0)))):=⟨.slice none 0 0,.slice none 0 0,_,_,c3,⟨_,_,aW.nil _ _ _ _,aW.nil _ _ _ _,fun k e=>(i6 k e).elim,rfl⟩,fun k _ e=>e.elim (i6 k) (i6 k),rfl⟩;obtain ⟨h3,m3⟩:=ah.new T2 k2 f3 g3 (fun k e=>e.elim (fun e=>by have:k=w.heap.size+2:=e;omega) (fun e=>(e.elim (i6 k) (i6 k)).elim));have T3:=aX.thing (jp.thing B w.heap.size lim) (w.heap.size+2) (w.heap.size+1) 89 (zp w) [] [] [];obtain ⟨u4,hu4⟩:∃ u,u=u3.alloc (.cells #[zp w.heap.size,zp (w.heap.size+2),.pointer none,oz,.string ⟨#[]⟩,.slice none 0 0] 93):=⟨_,rfl⟩;have z4:u4.heap.size=w.heap.size+4:=by rw [hu4];simp [z3]
 have g4:af u3 u4:=by rw [hu4];exact aN _ _
 have c4:aS B (w.heap.size+3) [.pointer (some ⟨w,0,none⟩),.pointer (some ⟨w.heap.size+2,0,none⟩),.pointer none,.int .i64 0,.string ⟨#[]⟩,.slice none 0 0] u4 (cC (w.heap.size+3)):=by rw [hu4, <-z3];exact aS.alloc (by omega)
 have r4:de B (w.heap.size+3) w.heap.size (w.heap.size+2) (.pointer none) 0 ⟨#[]⟩ 0 [] u4 (cT (cC (w.heap.size+3)) (ob (.slice none 0 0))):=⟨.slice none 0 0,_,_,c4,aW.nil _ _ _ _,fun k _ e=>i6 k e,rfl⟩;obtain ⟨h4,m4⟩:=ah.new T3 h3 r4 g4 (fun k e=>e.elim (fun e=>by have:k=w.heap.size+3:=e;omega) (fun e=>(i6 k e).elim));have T4:=ah.thing (de.thing B (w.heap.size+3) w.heap.size (w.heap.size+2) (.pointer none) 0 ⟨#[]⟩ 0 []) T3;obtain ⟨u5,hu5⟩:∃ u,u=u4.alloc (.cells #[zp (w.heap.size+3)] 72):=⟨_,rfl⟩;have g5:af u4 u5:=by rw [hu5];exact aN _ _
 have c5:aS B (w.heap.size+4) [.pointer (some ⟨w.heap.size+3,0,none⟩)] u5 (cC (w.heap.size+4)):=by rw [hu5, <-z4];exact aS.alloc (by omega)
 obtain ⟨h5,m5⟩:=ah.new T4 h4 c5 g5 (fun k e=>by have:k=w.heap.size+4:=e;omega);have hu:fU w lim=u5:=by rw [hu5,hu4,hu3,hu2,hu1];rfl
 rw [hu];refine ⟨_,⟨[],fun x hx=>by simp at hx,.inr (.inl ⟨rfl,rfl,rfl,[],.inl ⟨rfl,rfl⟩,h5⟩)⟩,?_⟩;rintro k (e | (e | e) | (e | e | e) | e | e)
 ·have:k=w.heap.size+4:=e;omega
 ·have:k=w.heap.size+3:=e;omega
 ·exact (i6 k e).elim
 ·have:k=w.heap.size+2:=e;omega
 ·exact (i6 k e).elim
 ·exact (i6 k e).elim
 ·have:k=w.heap.size+1:=e;omega
 ·have:k=w.heap.size:=e;omega
theorem oE (n:Wn) (s:St) (xs:List iB) (w:World) (S:Bl) (hl:(fO (aA xs) (aQ xs) s.mks s.title.data.toList).length<=2000000000) (h:n.closed s xs w S):QE 20 #[zp n.Wb] w (.string ⟨(fO (aA xs) (aQ xs) s.mks s.title.data.toList).toArray⟩):=by
 obtain ⟨c0,r0,_,_,_,R,hk⟩:=Wn.closed_read h;exact pd w n.B n.Wb n.Rb n.T n.lim R _ c0 r0 hk hl
end Go.Proofs.YtbklfkpjoinofaaGreatDoor
