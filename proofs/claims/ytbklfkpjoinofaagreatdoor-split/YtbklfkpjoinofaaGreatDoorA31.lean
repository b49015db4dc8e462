import Derived.Test.YtbklfkpjoinofaaGreatDoorA29
set_option linter.all false
set_option maxRecDepth 100000
set_option maxHeartbeats 8000000
namespace Go.Proofs.YtbklfkpjoinofaaGreatDoor
open Go.RowKit Go.Proofs.Tryz
theorem o9 (x:iB) (xs:List iB):aA (x::xs)=aA xs++[x.1]:=by simp [aA]
theorem pf (x:iB) (xs:List iB):aQ (x::xs)=aQ xs++[(x.2.1,x.2.2.1)]:=by simp [aQ]
theorem jS (xs:List iB):(aA xs).length=xs.length:=by simp [aA]
theorem xL (xs:List iB):(aQ xs).length=xs.length:=by simp [aQ]
theorem oZ (l:List (List UInt8)) (Z:List UInt8):aC (l++[Z])=aC l++d_ l.length Z:=by
 simp only [aC,lG,YF,ZS]
theorem nI (l:List (List UInt8)) (Z:List UInt8):be 9 0 (l++[Z])=be 9 0 l++[(aC l).length,(aC l).length+(aL (2*l.length+1)++cX (2*l.length+2)).length+Z.length+18]:=by
 have h9:9+(bW 0 l).length=(aC l).length:=by simp only [aC,bi,ZY,ZX,ZR]
 rw [lF,sF,h9,YF];congr 2;simp only [ZY,fC,ZX,ZR];simp;omega
theorem yf (n:Wn) (s:St) (w:World) (S:Bl) (hlim:n.lim < 0) (hok:s.ok) (hB:n.B<=w.heap.size) (ht:bU n.B w) (h:WD n s w S):CP 33 #[zp n.Wb] w (dp n w S s.endPage):=by
 have HR:=em n s w S hok h;unfold St.endPage;by_cases hd:s.drawing=true
 case neg=>
  have hd2:s.drawing=false:=by cases e:s.drawing with | false=>rfl | true=>exact absurd e hd
  rw [ZO hd];rw [hd2] at HR;refine (mB w _ 2 (by decide) HR).mono ?_;rintro e w' ⟨rfl,q,rfl⟩;exact dp.same h (ay w q)
 rw [ZN hd];rw [hd] at HR;obtain ⟨hop,hl0⟩:=St.drawing_of hd;obtain ⟨xs,⟨hx,hzs⟩,⟨a,_,h⟩ | ⟨a,b,c,X,d,h⟩ | ⟨hc,b,W,H,ops,l,Pg,Cd,P,Cp,st,Y,hpl,hxl,hW,hH,hfit,hPI,h261,h⟩⟩:=h
 ·exact absurd (hop.symm.trans (hok.shut a)) (by simp)
 ·exact absurd (hop.symm.trans b) (by simp)
 have hpart:s.part=[]:=by simp [St.part,hl0]
 have hsz:s.size=(bE ops).length:=by have:=hfit.2;rw [ZN hl0] at this;exact this
 have hxn:xs.length+1<=80:=by
  have:=hok.pages;rw [hpl] at this;have e:xs.length=l.length:=by rw [<-hxl];simp
  simp at this;omega
 have hup:=cN hx (by omega);refine jW w _ n.Rb _ HR ?_;intro qn;have hiq:=(Wn.drawn_thing n s xs W H ops Pg Cd P Cp st Y).drewN h qn;obtain ⟨_,_,_,_,r2,_⟩:=Wn.drawn_read hiq;obtain ⟨Sp,hp,_,backp⟩:=ah.third (aS.thing _ _ _) (de.thing _ _ _ _ _ _ _ _ _) hiq;have ho1:=eK (2*xs.length+1) (by omega);have ho2:=gn (2*xs.length+2) (by omega);have hcl:(be 9 0 (aA xs)++[(aC (aA xs)).length]).length=2*xs.length+1:=by rw [ZY,dy,jS];rfl
 have hPE:=ll (n.down hlim) (ZW _) (w.drewN qn) Sp n.Fb n.C Pg Cd P Cp _ _ st _ Y _ hp hPI hB (ht.on (cU (ZT _ w))) (by omega) (by simp only [ZY];omega);rw [hcl] at hPE;refine iq (w.drewN qn) n.Rb Pg (fun w1=>∃ S',aX n.K n.B n.Fb n.C 89 n.sk (be 9 0 (aA ((Y++aV st,(W,H,ops))::xs))) (aQ ((Y++aV st,(W,H,ops))::xs)) (aC (aA ((Y++aV st,(W,H,ops))::xs))) w1 S'/\kx (Y++aV st,(W,H,ops))/\Mv Sp (w.drewN qn) S' w1) (fun _=>False) _ r2 (et:=0) (ev:=.int .i64 0) ?_ ?_ ?_
 ·refine hPE.mono ?_;rintro e w' (⟨_,rfl,S',⟨hf,hu,h8,_⟩,m⟩ | ⟨hno,_⟩)
  ·refine .inl ⟨rfl,S',?_,⟨?_,by show (bE ops).length<=1048576;rw [<-hsz];exact hok.size,hfit.1,?_,hW,hH⟩,m⟩
   ·rw [o9,pf,nI,oZ,jS];have e1:be 9 0 (aA xs)++[(aC (aA xs)).length,(aC (aA xs)).length+(aL (2*xs.length+1)++cX (2*xs.length+2)).length+(Y++aV st).length+18]=be 9 0 (aA xs)++[(aC (aA xs)).length]++[(aC (aA xs)++(aL (2*xs.length+1)++cX (2*xs.length+2))).length+(Y++aV st).length+18]:=by
     have hlen:(aC (aA xs)++(aL (2*xs.length+1)++cX (2*xs.length+2))).length=(aC (aA xs)).length+(aL (2*xs.length+1)++cX (2*xs.length+2)).length:=ZY;rw [hlen,ZS];rfl
    have e2:aC (aA xs)++d_ xs.length (Y++aV st)=aC (aA xs)++(aL (2*xs.length+1)++cX (2*xs.length+2))++(Y++yJ (2*xs.length+1+1) st Y):=by
     simp only [d_,yJ,ZS]
    rw [e1,e2];exact hf
   ·simpa [hpart] using hu
   ·simpa [hpart] using h8
  ·exact absurd trivial hno
 ·rintro w1 ⟨S',hf,hgx,m⟩;obtain ⟨S2,h2,m2⟩:=backp _ _ _ hf m;obtain ⟨S3,hr3,_,back3⟩:=ah.mid (aS.thing _ _ _) (aX.thing (jp.thing _ _ _) _ _ _ _ _ _ _) h2;obtain ⟨_,_,q2,_,_,qz,_⟩:=hr3.read;refine ⟨q2,qz 2,_,rfl,rfl,?_⟩;obtain ⟨S4,hr4,m4⟩:=hr3.page (.pointer none);obtain ⟨S5,h5,m5⟩:=back3 _ _ _ hr4 m4;rw [hl0] at h5;refine ⟨S5,⟨(Y++aV st,(W,H,ops))::xs,⟨?_,by simp only [Yo,hzs, <-h261.2]⟩,.inr (.inl ⟨hc,rfl,by simp [hpl,hxl],_,.inr rfl,h5⟩)⟩,(m2.trans m5).undrew⟩;intro x hxm;rcases Zk.1 hxm with rfl | hxm
  ·exact hgx
  ·exact hx x hxm
 ·intro w1 hf;exact hf.elim
theorem zA (w:World) (Fb C m:Nat) (hm:0 < m) (c0:w.cell? Fb=zp C) (cn:w.cell? (zq C 1)=(m:Int)):QE 85 #[zp Fb] w .nilIface:=by
 have HQ:=ai (eE w C (m:Int) cn);have hpos:(0:Int) < (m:Int):=by omega
 go_enter func85,ntmps85
 go_wp2_with fail
 refine HQ.out.mono ?_;rintro e w1 ⟨rfl,rfl⟩;go_wp2;go_ret;exact ⟨rfl,rfl⟩
theorem Wn.drawn_file {n:Wn} {s:St} {xs:List iB} {W H:Int} {ops:List bj} {Pg Cd P Cp:Nat} {st:dE} {Y:List UInt8} {w:World} {S:Bl} (h:n.drawn s xs W H ops Pg Cd P Cp st Y w S):w.cell? n.Fb=zp n.C/\∃ m:Nat,0 < m/\w.cell? (zq n.C 1)=(m:Int):=by
 obtain ⟨S1,S2,_,⟨S3,S4,_,hp,_,_⟩,_,_⟩:=h;obtain ⟨S5,S6,_,⟨S7,S8,_,⟨S9,S10,hF,hpd,_,_⟩,_,_⟩,_,_⟩:=hp;obtain ⟨vf,vw,vs,R,_,hk2,_⟩:=hpd;obtain ⟨R1,hck,_⟩:=hk2;obtain ⟨R2,_,_,_,_,_,_,_,c1,_⟩:=hck;obtain ⟨vb,vz,S11,S12,hc,_⟩:=hF;refine ⟨hc.at 0 _ rfl,_,?_,c1⟩;simp only [aC,bi,ZY,ZX];omega
theorem m_ (n:Wn) (s:St) (w:World) (S:Bl) (hlim:n.lim < 0) (hok:s.ok) (h:WD n s w S):CP 38 #[zp n.Wb] w (dp n w S (s.flush,s)):=by
 have HR:=dV n s w S h;have h0:=h;unfold St.flush;obtain ⟨xs,⟨hx,hzs⟩,⟨a,_,h⟩ | ⟨a,b,c,X,d,h⟩ | ⟨a,b,W,H,ops,l,Pg,Cd,P,Cp,st,Y,c1,c2,c3,c4,c5,c6,c7,h⟩⟩:=h
 ·rw [ZN a];refine (pC w _ n.Rb (h0.gone a).1 HR).mono ?_;rintro e w' ⟨rfl,q,rfl⟩;exact dp.same h0 (ay w q)
 ·rw [ZO (by rw [a];simp)];obtain ⟨_,_,_,r1,_⟩:=Wn.idle_read h;have hxl:xs.length=s.pages.length:=by rw [<-c];simp
  have hp80:=hok.pages;have hbeg:=fX d;have hup:=cN hx (by omega);have hXl:X.length<=100000000:=by
   have h2:(X++eW X).length<=100000000:=by rw [hbeg];exact hup
   simp at h2;omega
  refine jD w _ n.Rb n.Fb _ r1 HR (et:=0) (ev:=.int .i64 0) ?_;intro qn;have hiq:=(Wn.idle_thing n s xs X).drewN h qn;obtain ⟨Sf,hf,_,backf⟩:=ah.third (aS.thing _ _ _) (de.thing _ _ _ _ _ _ _ _ _) hiq;refine (jj (n.down hlim) (ZW _) (w.drewN qn) Sf n.Fb n.C _ _ X hf (by omega)).mono ?_;rintro e w' (⟨_,rfl,S',hf',m⟩ | ⟨hno,_⟩)
  ·rw [hbeg] at hf';obtain ⟨S2,h2,m2⟩:=backf _ _ _ hf' m;exact .inl ⟨rfl,rfl,S2,⟨xs,⟨hx,hzs⟩,.inr (.inl ⟨a,b,c,_,.inr rfl,h2⟩)⟩,m2.undrew⟩
  ·exact absurd trivial hno
 ·rw [ZO (by rw [a];simp)];obtain ⟨_,_,_,r1,_⟩:=Wn.drawn_read h;obtain ⟨f0,m,hm,cn⟩:=Wn.drawn_file h;refine jD w _ n.Rb n.Fb _ r1 HR (et:=0) (ev:=.int .i64 0) ?_;intro qn;refine (zA (w.drewN qn) n.Fb n.C m hm f0 cn).mono ?_;rintro e w' ⟨rfl,rfl⟩;exact .inl ⟨rfl,dp.same h0 (ay w qn)⟩
theorem cG.sizesAt {K:World->Bl->List UInt8->Prop} {B Fb C Pg Cd P Cp:Nat} {ty:TypeId} {q:Value} {begins:List Nat} {sizes:List (Int×Int)} {st:dE} {X0 Y Dr:List UInt8} {w:World} {S:Bl} (h:cG K B Fb C Pg Cd P Cp ty q begins sizes st X0 Y Dr w S):∃ ad cap,w.cell? (zq Fb 2)=some (.slice ad sizes.length cap)/\Fb < w.heap.size/\S Fb:=by
 obtain ⟨S5,S6,_,⟨S7,S8,_,⟨S9,S10,hF,_,_,rfl⟩,_,rfl⟩,_,rfl⟩:=h;obtain ⟨vb,vz,S11,S12,hc,⟨S13,S14,_,hz,_,_⟩,_,rfl⟩:=hF;obtain ⟨ad,cap,hv⟩:=eL hz.2;refine ⟨ad,cap,?_,hc.2.2.1,.inr (.inr (.inl (.inl (by rw [hc.1];rfl))))⟩;rw [hc.at 2 _ rfl,hv]
theorem Dz (n:Wn) (s:St) (w:World) (S:Bl) (t:ByteArray) (htl:t.size<=9223372036854775807) (hok:s.ok) (hB:n.B<=w.heap.size) (h:WD n s w S):CP 39 #[zp n.Wb,t] w (dp n w S (s.mark t)):=by
 have HR:=dV n s w S h;have h0:=h;unfold St.mark;obtain ⟨xs,⟨hx,hzs⟩,⟨a,_,h⟩ | ⟨a,b,c,X,d,h⟩ | ⟨a,b,W,H,ops,l,Pg,Cd,P,Cp,st,Y,c1,c2,c3,c4,c5,c6,c7,h⟩⟩:=h
 ·rw [ZN (hok.shut a)];refine (nc w t (h0.gone a).2 HR).mono ?_;rintro e w' ⟨rfl,q,rfl⟩;exact dp.same h0 (ay w q)
 ·rw [ZN b];obtain ⟨_,_,_,_,r2,_⟩:=Wn.idle_read h;refine (nc w t r2 HR).mono ?_;rintro e w' ⟨rfl,q,rfl⟩;exact dp.same h0 (ay w q)
 rw [ZO (by rw [b];simp)];obtain ⟨_,_,_,r1,r2,_,_,fz,hRl⟩:=Wn.drawn_read h;by_cases h2:t.size=0\/100 < t.size
 ·rw [ZN h2];refine (yB w Pg t htl (by simp;omega) r2 HR).mono ?_;rintro e w' ⟨rfl,q,rfl⟩;exact dp.same h0 (ay w q)
 rw [ZO h2];have h1:decide (0 < t.size/\t.size<=100)=true:=by simp;omega
 obtain ⟨Sa,Sb,hcW,hRP,_,_,backW⟩:=ah.two2 (aS.thing _ _ _) h;obtain ⟨Sp,Sr,hP,hrep,hoff,_,backP⟩:=ah.two2 (cG.thing (jp.thing _ _ _) _ _ _ _ _ _ _ _ _ _ _ _) hRP.swap;obtain ⟨adz,capz,z2,hFb,hFS⟩:=cG.sizesAt hP;obtain ⟨vm,hrep⟩:=hrep;obtain ⟨Sc,Sm,hcR,hm,hoffR,hsubR,backR⟩:=ah.two2 (aS.thing _ _ _) hrep;obtain ⟨hSm,ow⟩:=hm;obtain ⟨ad,cap,hform⟩:=eL ow;have r5:w.cell? (zq n.Rb 5)=some vm:=hcR.at 5 _ rfl;have hmk:=hok.marks;by_cases h3:20<=s.marks.length
 ·rw [ZN h3];refine (Bj w Pg s.marks.length cap ad t htl h1 h3 (by omega) r2 (by rw [r5,hform]) HR).mono ?_;rintro e w' ⟨rfl,q,rfl⟩;exact dp.same h0 (ay w q)
 rw [ZO h3];have hin:∀ k,(Value.slice ad s.marks.length cap).ownBlock=some k->Sm k:=fun k e=>by rw [hSm,hform];exact e
 have ne:(Value.slice ad s.marks.length cap).ownBlock≠some n.Rb:=fun e=>hoffR n.Rb (by rw [hcR.1];rfl) (hin _ e)
 have neF:(Value.slice ad s.marks.length cap).ownBlock≠some n.Fb:=fun e=>hoff n.Fb hFS (hsubR _ (hin _ e))
 have hNl:(aQ xs++[(W,H)]).length=s.pages.length:=by
  rw [ZY,xL,c1];have e:xs.length=l.length:=by rw [<-c2];simp
  simp [e]
 have hpg:=hok.pages;have hN0:0 < s.pages.length:=by rw [c1];simp
 rw [hNl] at z2;refine zC w _ n.B n.Rb n.Fb Pg s.marks.length cap s.pages.length capz ad adz t (iz s.marks) _ (by omega) h1 (by omega) (by omega) r1 r2 (by rw [r5,hform]) (fz 5) z2 hRl hFb hB (by rw [<-hform];exact ow) ne neF HR ?_;intro v w7 hg hA;obtain ⟨kr,km⟩:=hA.moved hg;obtain ⟨S7,h7,m7⟩:=backR (aW n.B 98 2 v (s.marks++[(t,s.pages.length - 1)]).length (iz (s.marks++[(t,s.pages.length - 1)]))) w7 _ (by
  rw [nf,ZY,show (((t,s.pages.length - 1):ByteArray×Nat).2:Int)=(s.pages.length:Int) - 1 by show ((s.pages.length - 1:Nat):Int)=_;omega];exact kr) (by rw [hSm,hform];exact km)
 obtain ⟨S8,hc8,_,back8⟩:=ah.fst (aW.thing _ _ _ _ _ _) h7;obtain ⟨k9,m9⟩:=hc8.set 5 v (by simp);obtain ⟨S9,h9,m9'⟩:=back8 _ _ _ k9 m9;obtain ⟨S10,h10,m10⟩:=backP (de n.B n.Rb n.T n.Fb (zp Pg) (s.left:Int) s.title (s.marks++[(t,s.pages.length - 1)]).length (iz (s.marks++[(t,s.pages.length - 1)]))) _ _ ⟨v,h9⟩ (m7.trans m9');obtain ⟨S11,h11,m11⟩:=backW _ _ _ h10.swap m10;exact ⟨rfl,S11,⟨xs,⟨hx,hzs⟩,.inr (.inr ⟨a,b,W,H,ops,l,Pg,Cd,P,Cp,st,Y,c1,c2,c3,c4,c5,c6,c7,h11⟩)⟩,m11⟩
abbrev Dg:=List UInt8×Gh
def Dg.add (D:Dg) (l:List UInt8):Dg:=(D.1++l,D.2.wr l)
def Dg.op (D:Dg) (o:bj):Dg:=(D.1++o.text,D.2.op o)
structure oc (B:Nat) (T:TypeId) (q q':Value) (f:FuncId) (L:Nat) (K:World->Bl->Dg->Prop):Prop where
 thing:∀ D,aJ B (fun w S=>K w S D)
 hn:∀ wx,(nilAhead 465 T q "Write").run prog wx=.ok (some false) wx
 hm:∀ wx,(method 465 T q "Write").run prog wx=.ok (f,q') wx
 he:∀ args wx,(callFunc f args).run prog wx=.ok (.enter f args) wx
 write:∀ w S D (s:ByteArray),K w S D->D.1.length+s.size<=L->CP f #[q',s] w fun e w'=>e=.returned .nilIface/\∃ S',K w' S' (D.add s.data.toList)/\Mv S w S' w'
def zu (K:World->Bl->Dg->Prop) (S:Bl) (w:World) (D:Dg) (e:Ending) (w':World):Prop:=e=.returned .nilIface/\∃ S',K w' S' D/\Mv S w S' w'
section
variable {B:Nat} {T:TypeId} {q q':Value} {f:FuncId} {L:Nat} {K:World->Bl->Dg->Prop}
theorem oc.send (F:oc B T q q' f L K) {w:World} {S:Bl} {D:Dg} (h:K w S D) (x:List UInt8) (hl:D.1.length+x.length<=L):∀ wx,af w wx->CP f #[q',.string ⟨x.toArray⟩] wx fun e w'=>∃ v,e=.returned v/\zu K S w (D.add x) (.returned v) w':=by
 intro wx hb;have hk:K wx S D:=(F.thing D).keep h (fun k hk=>hb.block k ((F.thing D).lt h hk)) hb.size;refine (F.write wx S D ⟨x.toArray⟩ hk (by simpa [ByteArray.size] using hl)).mono ?_;rintro e w' ⟨rfl,S',h',m'⟩;exact ⟨_,rfl,rfl,S',by simpa using h',(Mv.grow hb S).trans m'⟩
theorem ek (w:World) (ns:List Int) (hB:B<=w.heap.size) (ht:bU B w) (hl:ns.length<=4) (hr:∀ z∈ns,-100000000<=z/\z<=100000000):Hid (∀ v wx,af w wx->ci ns v wx->QB 170 #[v] wx (.string ⟨(aG ns).toArray⟩)):=by
 rintro v wx hb ⟨b,rfl,hbl,hc⟩;exact rJ B wx b _ _ ns rfl hbl (by omega) hc hr (ZU hB hb.size) (ht.on (hb.mono hB))
theorem dL:∀ ns:List Int,(∀ z∈ns,-100000000<=z/\z<=100000000)->(aG ns).length<=27*ns.length
 | [],_=>by simp [aG]
 | z::l,h=>by
  have h1:=eu z (h z (by simp)).1 (h z (by simp)).2;have h2:=dL l (fun y hy=>h y (by simp [hy]));simp only [aG,ZY,ZX,ZR];omega
theorem BE (F:oc B T q q' f L K) (w:World) (S:Bl) (D:Dg) (o:bj) (ho:o.near) (hk:o.k=2) (hB:B<=w.heap.size) (ht:bU B w) (h:K w S D) (hl:D.1.length+o.text.length<=L):
  CP 358 #[.agg #[o.a,o.b,o.c,o.d,o.e],.iface T q] w (zu K S w (D.add o.text)):=by
 obtain ⟨⟨a1,a2⟩,⟨b1,b2⟩,⟨c1,c2⟩,⟨d1,d2⟩,⟨e1,e2⟩,_⟩:=ho;have r1:∀ z∈[o.e],-100000000<=z/\z<=100000000:=(ZA.2 ⟨⟨e1,e2⟩,(fun z hz=>by simp at hz)⟩);have r2:∀ z∈[o.a,o.b],-100000000<=z/\z<=100000000:=(ZA.2 ⟨⟨a1,a2⟩,(ZA.2 ⟨⟨b1,b2⟩,(fun z hz=>by simp at hz)⟩)⟩);have r3:∀ z∈[o.c,o.d],-100000000<=z/\z<=100000000:=(ZA.2 ⟨⟨c1,c2⟩,(ZA.2 ⟨⟨d1,d2⟩,(fun z hz=>by simp at hz)⟩)⟩);have l1:=dL _ r1;have l2:=dL _ r2;have l3:=dL _ r3;simp only [ZX,ZR] at l1 l2 l3;have ht2:o.text=aG [o.e]++[119,32]++aG [o.a,o.b]++[109,32]++aG [o.c,o.d]++[108,32,83,10]:=by
  unfold bj.text;rw [ZO (by omega),ZN hk];simp only [ZS]
 exact ox B w o.a o.b o.c o.d o.e T q q' f F.hn F.hm hB ht _ _ _ o.text ht2.symm (by omega) (by omega) (by omega) _ F.he (F.send h _ hl) (ek w _ hB ht (by simp) r1) (ek w _ hB ht (by simp) r2) (ek w _ hB ht (by simp) r3)
theorem Bo (F:oc B T q q' f L K) (w:World) (S:Bl) (D:Dg) (o:bj) (ho:o.near) (hk:o.k=3) (hB:B<=w.heap.size) (ht:bU B w) (h:K w S D) (hl:D.1.length+o.text.length<=L):
  CP 360 #[.agg #[o.a,o.b,o.c,o.d,o.e],.iface T q] w (zu K S w (D.add o.text)):=by
 obtain ⟨⟨a1,a2⟩,⟨b1,b2⟩,⟨c1,c2⟩,⟨d1,d2⟩,⟨e1,e2⟩,_⟩:=ho;have r1:∀ z∈[o.e],-100000000<=z/\z<=100000000:=(ZA.2 ⟨⟨e1,e2⟩,(fun z hz=>by simp at hz)⟩);have r2:∀ z∈[o.a,o.b,o.c,o.d],-100000000<=z/\z<=100000000:=(ZA.2 ⟨⟨a1,a2⟩,(ZA.2 ⟨⟨b1,b2⟩,(ZA.2 ⟨⟨c1,c2⟩,(ZA.2 ⟨⟨d1,d2⟩,(fun z hz=>by simp at hz)⟩)⟩)⟩)⟩);have l1:=dL _ r1;have l2:=dL _ r2;simp only [ZX,ZR] at l1 l2;have ht2:o.text=aG [o.e]++[103,32]++aG [o.a,o.b,o.c,o.d]++[114,101,32,102,10]:=by
  unfold bj.text;rw [ZO (by omega),ZO (by omega),ZN hk];simp only [ZS]
 exact nV w o.a o.b o.c o.d o.e T q q' f F.hn F.hm _ _ o.text ht2.symm (by omega) (by omega) _ F.he (F.send h _ hl) (ek w _ hB ht (by simp) r1) (ek w _ hB ht (by simp) r2)
theorem Bn (F:oc B T q q' f L K) (w:World) (S:Bl) (D:Dg) (o:bj) (ho:o.near) (hk:o.k=1) (hB:B<=w.heap.size) (ht:bU B w) (h:K w S D) (hl:D.1.length+o.text.length<=L):
  CP 356 #[.agg #[o.a,o.b,o.c,o.s],.iface T q] w (zu K S w (D.add o.text)):=by
 obtain ⟨⟨a1,a2⟩,⟨b1,b2⟩,⟨c1,c2⟩,⟨d1,d2⟩,⟨e1,e2⟩,_,_,_,hs⟩:=ho;have hs:=hs hk;have r1:∀ z∈[o.c],-100000000<=z/\z<=100000000:=(ZA.2 ⟨⟨c1,c2⟩,(fun z hz=>by simp at hz)⟩);have r2:∀ z∈[o.a,o.b],-100000000<=z/\z<=100000000:=(ZA.2 ⟨⟨a1,a2⟩,(ZA.2 ⟨⟨b1,b2⟩,(fun z hz=>by simp at hz)⟩)⟩);have l1:=dL _ r1;have l2:=dL _ r2;have l3:=ii o.s.data.toList;rw [aP] at l3;simp only [ZX,ZR] at l1 l2;have ht2:o.text=[66,84,32,47,70,49,32]++aG [o.c]++[84,102,32]++aG [o.a,o.b]++[84,100,32]++bc o.s.data.toList++[32,84,106,32,69,84,10]:=by
  unfold bj.text;rw [ZN hk];simp only [ZS]
 exact oq w o.a o.b o.c o.s T q q' f F.hn F.hm _ _ _ o.text ht2.symm (by omega) (by omega) (by simp only [bc,ZY,ZX,ZR];omega) _ F.he (F.send h _ hl) (ek w _ hB ht (by simp) r1) (ek w _ hB ht (by simp) r2) (fun wx _=>jK wx o.s (by omega))
theorem D6 (F:oc B T q q' f L K) (w:World) (S:Bl) (D:Dg) (o:bj) (ho:o.near) (hB:B<=w.heap.size) (ht:bU B w) (h:K w S D) (hl:D.1.length+o.headB.length<=L):
  CP 132 #[.agg #[o.a,o.b,o.c,o.d,o.co,o.ro],.iface T q] w (zu K S w (D.add o.headB)):=by
 obtain ⟨⟨a1,a2⟩,⟨b1,b2⟩,⟨c1,c2⟩,⟨d1,d2⟩,⟨e1,e2⟩,⟨f1,f2⟩,⟨g1,g2⟩,_⟩:=ho;have r1:∀ z∈[o.c],-100000000<=z/\z<=100000000:=(ZA.2 ⟨⟨c1,c2⟩,(fun z hz=>by simp at hz)⟩);have r2:∀ z∈[o.d,o.a,o.b],-100000000<=z/\z<=100000000:=(ZA.2 ⟨⟨d1,d2⟩,(ZA.2 ⟨⟨a1,a2⟩,(ZA.2 ⟨⟨b1,b2⟩,(fun z hz=>by simp at hz)⟩)⟩)⟩);have l1:=dL _ r1;have l2:=dL _ r2;have i1:=ar o.co f1 f2;have i2:=ar o.ro g1 g2;simp only [ZX,ZR] at l1 l2;have ht2:o.headB=[113,32]++aG [o.c]++[48,32,48,32]++aG [o.d,o.a,o.b]++[99,109,32,66,73,32]++([47,87,32]++Lib.itoa o.co++[32,47,72,32]++Lib.itoa o.ro)++[32,47,67,83,32,47,71,32,47,66,80,67,32,56,32,73,68,32]:=by
  unfold bj.headB;simp
 exact nG w o.a o.b o.c o.d o.co o.ro T q q' f F.hn F.hm _ _ _ _ _ o.headB rfl ht2.symm (by omega) (by omega) (by omega) (by omega) (by simp only [ZY,ZX,ZR];omega) _ F.he (F.send h _ hl) (ek w _ hB ht (by simp) r1) (ek w _ hB ht (by simp) r2) (fun wx hb=>bp B wx o.co f1 f2 (ht.on (hb.mono hB))) (fun wx hb=>bp B wx o.ro g1 g2 (ht.on (hb.mono hB)))
end
section
variable {T:TypeId} {q q':Value} {f:FuncId}
theorem lf (w:World) (X Y W H C R:Int) (s:ByteArray) (et:TypeId) (ev:Value) (G1 G2:World->Prop) (Z:Ending->World->Prop) (hn:∀ wx,(nilAhead 465 T q "Write").run prog wx=.ok (some false) wx) (hm:∀ wx,(method 465 T q "Write").run prog wx=.ok (f,q') wx) (he:∀ args wx,(callFunc f args).run prog wx=.ok (.enter f args) wx)
  (H1:Hid (∀ wx,af w wx->wx.cell? (zq w 6)=some (.string s)->w.heap.size < wx.heap.size->CP 132 #[.agg #[X,Y,W,H,C,R],.iface T q] wx fun e w'=>(e=.returned .nilIface/\G1 w')\/(e=.returned (.iface et ev)/\Z (.returned (.iface et ev)) w')))
  (H2:Hid (∀ w1,G1 w1->CP f #[q',s] w1 fun e w'=>(e=.returned .nilIface/\G2 w')\/(e=.returned (.iface et ev)/\Z (.returned (.iface et ev)) w')))
  (HK:Hid (∀ w1,G1 w1->w1.cell? (zq w 6)=some (.string s)))
  (H3:Hid (∀ w2,G2 w2->CP f #[q',.string ⟨#[10,69,73,32,81,10]⟩] w2 fun e w'=>∃ v,e=.returned v/\Z (.returned v) w')):
  CP 353 #[.agg #[X,Y,W,H,C,R,s],.iface T q] w Z:=by
 go_enter func353,ntmps353
 go_wp2_with fail
 refine (H1.out _ (aN _ _) (by simp) (by simp)).mono ?_;rintro e w1 (⟨rfl,h1⟩ | ⟨rfl,hz⟩)
 ·have c6:=HK.out w1 h1;have HX:=ai (H2.out w1 h1);clear H1 H2 HK;go_wp2_with fail
  refine HX.out.mono ?_;rintro e w2 (⟨rfl,h2⟩ | ⟨rfl,hz⟩)
  ·have HY:=ai (ju (T:=T) (q:=q) w2 (fun e w'=>∃ v,e=.returned v/\Z (.returned v) w') hn hm he ((H3.out w2 h2).mono (fun e w' ⟨v,a,b⟩=>⟨v,a,v,rfl,b⟩)));clear HX H3 c6;go_wp2_with fail
   refine HY.out.mono ?_;rintro e w3 ⟨v,rfl,hZ⟩;go_wp2
   first
    | exact hZ
    | (go_ret;exact hZ)
  ·go_wp2
   first
    | exact hz
    | (go_ret;exact hz)
 ·go_wp2
  first
   | exact hz
   | (go_ret;exact hz)
end
section
variable {B:Nat} {T:TypeId} {q q':Value} {f:FuncId} {L:Nat} {K:World->Bl->Dg->Prop}
theorem yS {o:bj} (hk:o.k=4):o.text=o.headB++(o.s.data.toList++[10,69,73,32,81,10]):=by
 unfold bj.text bj.headB;rw [ZO (by omega),ZO (by omega),ZO (by omega)];simp only [ZS]
theorem yx (F:oc B T q q' f L K) (w:World) (S:Bl) (D:Dg) (o:bj) (ho:o.near) (hk:o.k=4) (hB:B<=w.heap.size) (ht:bU B w) (h:K w S D) (hl:D.1.length+o.text.length<=L):
  CP 353 #[.agg #[o.a,o.b,o.c,o.d,o.co,o.ro,o.s],.iface T q] w (zu K S w (D.op o)):=by
 have htx:=yS hk;have hlen:o.text.length=o.headB.length+o.s.size+6:=by rw [htx];simp;omega
 refine lf w o.a o.b o.c o.d o.co o.ro o.s 0 (0:Int) (fun w1=>(∃ S1,K w1 S1 (D.add o.headB)/\Mv S w S1 w1)/\w1.cell? (zq w 6)=some (.string o.s)) (fun w2=>∃ S2,K w2 S2 ((D.add o.headB).add o.s.data.toList)/\Mv S w S2 w2) _ F.hn F.hm F.he ?_ ?_ ?_ ?_
 ·intro wx hb c6 hlt;have hkx:K wx S D:=(F.thing D).keep h (fun k hk=>hb.block k ((F.thing D).lt h hk)) hb.size;refine (D6 F wx S D o ho (ZU hB hb.size) (ht.on (hb.mono hB)) hkx (by omega)).mono ?_;rintro e w' ⟨rfl,S',h',m'⟩;refine .inl ⟨rfl,⟨S',h',(Mv.grow hb S).trans m'⟩,?_⟩;have hnS:¬ S w.heap.size:=fun e=>by have:=(F.thing D).lt h e;omega
  exact (ZQ (a:=zq w 6) (m'.keep hlt hnS)).trans c6
 ·rintro w1 ⟨⟨S1,h1,m1⟩,_⟩;refine (F.write w1 S1 _ o.s h1 (by simp only [Dg.add,ZY];omega)).mono ?_;rintro e w' ⟨rfl,S',h',m'⟩;exact .inl ⟨rfl,S',h',m1.trans m'⟩
 ·rintro w1 ⟨_,c⟩;exact c
 ·rintro w2 ⟨S2,h2,m2⟩;have h6:(⟨#[10,69,73,32,81,10]⟩:ByteArray).size=6:=rfl;refine (F.write w2 S2 _ ⟨#[10,69,73,32,81,10]⟩ h2 (by simp only [Dg.add];rw [h6,ZY,ZY,aP];omega)).mono ?_;rintro e w' ⟨rfl,S',h',m'⟩;refine ⟨_,rfl,rfl,S',?_,m2.trans m'⟩;have e:D.op o=((D.add o.headB).add o.s.data.toList).add vq:=by simp only [Dg.op,Dg.add,Gh.op,ZN hk,htx,ZS]
  rw [e];exact h'
end
structure BO (o:bj) (Tk:TypeId) (vk:Value) (fk:FuncId):Prop where
 hn:∀ wx,(nilAhead 465 Tk vk "Write").run prog wx=.ok (some false) wx
 hm:∀ wx,(method 465 Tk vk "Write").run prog wx=.ok (fk,vk) wx
 he:∀ args wx,(callFunc fk args).run prog wx=.ok (.enter fk args) wx
 writes:∀ {B:Nat} {T:TypeId} {q q':Value} {f:FuncId} {L:Nat} {K:World->Bl->Dg->Prop},oc B T q q' f L K->∀ (w:World) (S:Bl) (D:Dg),B<=w.heap.size->bU B w->K w S D->D.1.length+o.text.length<=L->CP fk #[vk,.iface T q] w (zu K S w (D.op o))
theorem AZ (args:Array Value) (w:World):(callFunc 356 args).run prog w=.ok (.enter 356 args) w:=by kernel_rfl
theorem AF (args:Array Value) (w:World):(callFunc 358 args).run prog w=.ok (.enter 358 args) w:=by kernel_rfl
theorem AH (args:Array Value) (w:World):(callFunc 360 args).run prog w=.ok (.enter 360 args) w:=by kernel_rfl
theorem uF (args:Array Value) (w:World):(callFunc 353 args).run prog w=.ok (.enter 353 args) w:=by kernel_rfl
theorem BF (args:Array Value) (w:World):(callFunc 128 args).run prog w=.ok (.enter 128 args) w:=by kernel_rfl
theorem sW {D:Dg} {o:bj} (h:o.k≠4):D.op o=D.add o.text:=by simp only [Dg.op,Dg.add,Gh.op,ZO h]
theorem zX (o:bj) (ho:o.is):∃ Tk vk fk,fs o=.iface Tk vk/\BO o Tk vk fk:=by
 have hnear:=ho.near;by_cases k1:o.k=1
 ·exact ⟨_,_,_,by unfold fs;rw [ZN k1],⟨AK _,Bf _,AZ,fun F w S D hB ht h hl=>by rw [sW (by omega)];exact Bn F w S D o hnear k1 hB ht h hl⟩⟩
 by_cases k2:o.k=2
 ·exact ⟨_,_,_,by unfold fs;rw [ZO k1,ZN k2],⟨Bc _,AG _,AF,fun F w S D hB ht h hl=>by rw [sW (by omega)];exact BE F w S D o hnear k2 hB ht h hl⟩⟩
 by_cases k3:o.k=3
 ·exact ⟨_,_,_,by unfold fs;rw [ZO k1,ZO k2,ZN k3],⟨AP _,AJ _,AH,fun F w S D hB ht h hl=>by rw [sW (by omega)];exact Bo F w S D o hnear k3 hB ht h hl⟩⟩
 have k4:o.k=4:=by
  obtain ⟨_,_,h | h | h | h⟩:=ho
  ·exact absurd h.1 k1
  ·exact absurd h.1 k2
  ·exact absurd h.1 k3
  ·exact h.1
 exact ⟨_,_,_,by unfold fs;rw [ZO k1,ZO k2,ZO k3],⟨uE _,wu _,uF,fun F w S D hB ht h hl=>yx F w S D o hnear k4 hB ht h hl⟩⟩
theorem zL (B C:Nat):oc B 162 (zp C) (zp C) 128 1000000 (fun w S D=>aS B C [.nilIface,.int .i64 (D.1.length:Int)] w S) where
 thing:=fun D=>aS.thing _ _ _
 hn:=xQ C
 hm:=uz C
 he:=BF
 write:=by
  intro w S D s h hl;refine (yH w C D.1.length s (h.at 0 _ rfl) (h.at 1 _ rfl) (h.fz 1) (by omega) (by omega)).mono ?_;rintro e w' ⟨rfl,rfl⟩;obtain ⟨k,m⟩:=h.set 1 (.int .i64 ((D.1.length:Int)+(s.size:Int))) (by simp);refine ⟨rfl,S,?_,m⟩;have e:((D.add s.data.toList).1.length:Int)=(D.1.length:Int)+(s.size:Int):=by simp only [Dg.add];rw [ZY,aP];omega
  rw [e];exact k
theorem qS (B:Nat) (w:World) (o:bj) {Tk:TypeId} {vk:Value} {fk:FuncId} (W:BO o Tk vk fk) (hl:o.text.length<=1000000) (hB:B<=w.heap.size) (ht:bU B w):QB 88 #[.iface Tk vk] w (o.text.length:Int):=by
 refine wX w Tk vk fk _ W.hn W.hm W.he ?_;have hg:af w (w.alloc (.cells #[.nilIface,oz] 208)):=aN _ _;have hc:aS B w.heap.size [.nilIface,.int .i64 0] (w.alloc (.cells #[.nilIface,oz] 208)) (cC w.heap.size):=aS.alloc hB;refine (W.writes (zL B w.heap.size) _ (cC w.heap.size) ([],(lJ,[])) (ZU hB hg.size) (ht.on (hg.mono hB)) hc (by simpa using hl)).mono ?_;rintro e w' ⟨rfl,S',h',m'⟩;refine ⟨_,rfl,by simpa [Dg.op] using h'.at 1 _ rfl,?_⟩;have hb:Below w (w.alloc (.cells #[.nilIface,oz] 208)) w':=m'.below (fun k e=>by rw [show k=w.heap.size from e];exact ZW _) hg.size;exact Below.trans hg hb
theorem mg (n:Wn) (hlim:n.lim < 0) (Pg Cd P Cp:Nat) (begins:List Nat) (sizes:List (Int×Int)) (X0:List UInt8) (hX:X0.length+1200000<=2000000000):oc n.B 91 (zp Pg) (zp Pg) 133 1048576 (fun w S D=>cG n.K n.B n.Fb n.C Pg Cd P Cp 89 n.sk begins sizes D.2.1 X0 D.2.2 D.1 w S/\PI D.2.1 D.2.2 D.1/\D.2.1.W.length - D.2.1.at_ < 261) where
 thing:=fun D=>{
  keep:=by
   rintro w w' S ⟨h,a,b⟩ hk hz;exact ⟨(cG.thing (jp.thing _ _ _) _ _ _ _ _ _ _ _ _ _ _ _).keep h hk hz,a,b⟩
  lt:=by
   rintro w S k ⟨h,a,b⟩ hk;exact (cG.thing (jp.thing _ _ _) _ _ _ _ _ _ _ _ _ _ _ _).lt h hk
  ge:=by
   rintro w S k ⟨h,a,b⟩ hk;exact (cG.thing (jp.thing _ _ _) _ _ _ _ _ _ _ _ _ _ _ _).ge h hk}
 hn:=uJ Pg
 hm:=rO Pg
 he:=oK
 write:=by
  rintro w S D s ⟨h,hI,h2⟩ hl;refine (nX (n.down hlim) (ZW _) w S n.Fb n.C Pg Cd P Cp begins sizes D.2.1 X0 D.2.2 D.1 s h hI h2 hl hX).mono ?_;rintro e w' (⟨_,rfl,S',⟨h',a,b⟩,m⟩ | ⟨hno,_⟩)
  ·exact ⟨rfl,S',⟨h',a,b⟩,m⟩
  ·exact absurd trivial hno
theorem cG.room {K:World->Bl->List UInt8->Prop} {B Fb C Pg Cd P Cp:Nat} {ty:TypeId} {q:Value} {begins:List Nat} {sizes:List (Int×Int)} {st:dE} {X0 Y Dr:List UInt8} {w:World} {S:Bl} (h:cG K B Fb C Pg Cd P Cp ty q begins sizes st X0 Y Dr w S) (hl:Dr.length<=1048576):QE 90 #[zp Pg] w ((1048576 - Dr.length:Nat):Int):=by
 obtain ⟨S5,S6,hc,⟨S7,S8,hd,_⟩,_⟩:=h;exact vv w Pg Cd Dr.length (hc.at 1 _ rfl) (hd.at 1 _ rfl) hl
theorem xd (n:Wn) (s:St) (w:World) (S:Bl) (o:bj) (hos:o.s.size<=9223372036854775807) (hlim:n.lim < 0) (hok:s.ok) (hB:n.B<=w.heap.size) (ht:bU n.B w) (h:WD n s w S):CP 42 #[zp n.Wb,o.val] w (dp n w S (s.draw o)):=by
 have HR:∀ wx,Below w w wx->QD 77 #[zp n.Wb] wx (if s.drawing then .tuple #[zp n.Rb,oz] else .tuple #[.pointer none,(2:Int)]):=fun wx hb=>em n s wx S hok (h.on hb)
 have HF:∀ wx,QB 93 #[o.val] wx (.tuple #[if o.is then fs o else .nilIface,.bool (decide o.is)]):=fun wx=>yj wx o hos
 unfold St.draw;by_cases hd:s.drawing=false
 ·rw [ZN hd];rw [hd] at HR;refine (rM w o.k o.a o.b o.c o.d o.e o.co o.ro o.s 2 (by decide) HR).mono ?_;rintro e w' ⟨rfl,hb⟩;exact dp.same h hb
 rw [ZO hd];have hdr:s.drawing=true:=by cases e:s.drawing with | false=>exact absurd e hd | true=>rfl
 rw [hdr] at HR;obtain ⟨hop,hl0⟩:=St.drawing_of hdr;by_cases h2:¬ o.is
 ·rw [ZN h2];rw [ZO h2,Zo h2] at HF;refine (xt w _ n.Rb o.k o.a o.b o.c o.d o.e o.co o.ro o.s .nilIface HR (fun wx _=>HF wx)).mono ?_;rintro e w' ⟨rfl,hb⟩;exact dp.same h hb
 rw [ZO h2];have ho:o.is:=Xw.1 h2;rw [ZN ho,Zt ho] at HF;obtain ⟨Tk,vk,fk,hfr,OW⟩:=zX o ho;rw [hfr] at HF;have htl:=ho.near.text_len;have h0:=h;obtain ⟨xs,⟨hx,hzs⟩,⟨a,_,h⟩ | ⟨a,b,c,X,d,h⟩ | ⟨a,b,W,H,ops,l,Pg,Cd,P,Cp,st,Y,c1,c2,c3,c4,c5,c6,c7,h⟩⟩:=h
 ·exact absurd (hop.symm.trans (hok.shut a)) (by simp)
 ·exact absurd (hop.symm.trans b) (by simp)
 have hpart:s.part=[]:=by simp [St.part,hl0]
 have hsz:s.size=(bE ops).length:=by have:=c5.2;rw [ZN hl0] at this;exact this
 have hDl:(bE ops++s.part).length=s.size:=by rw [hpart,YZ,hsz]
 have hsm:=hok.size;obtain ⟨_,_,_,_,r2,_,_,_,hRl⟩:=Wn.drawn_read h;have HS:∀ wx,Below w w wx->QB 88 #[.iface Tk vk] wx (o.text.length:Int):=fun wx hb=>qS n.B wx o OW (by omega) (ZU hB hb.size) (ht.on (hb.mono hB))
 have hon:∀ wx,Below w w wx->n.drawn s xs W H ops Pg Cd P Cp st Y wx S:=fun wx hb=>(Wn.drawn_thing n s xs W H ops Pg Cd P Cp st Y).keep h (fun k hk=>hb.block k ((Wn.drawn_thing n s xs W H ops Pg Cd P Cp st Y).lt h hk)) hb.size
 have HM:∀ wx,Below w w wx->QE 90 #[zp Pg] wx ((1048576 - s.size:Nat):Int):=fun wx hb=>by
  obtain ⟨Sp,hp,_,_⟩:=ah.third (aS.thing _ _ _) (de.thing _ _ _ _ _ _ _ _ _) (hon wx hb);have:=hp.room (by omega);rw [hDl] at this;exact this
 by_cases h3:1048576 < s.size+o.text.length
 ·rw [ZN h3];refine (tU w _ n.Rb o.k o.a o.b o.c o.d o.e o.co o.ro o.s Pg Tk vk o.text.length (1048576 - s.size) (by omega) (by omega) hRl r2 HR (fun wx _=>HF wx) HS HM (by omega)).mono ?_;rintro e w' ⟨rfl,hb⟩;exact dp.same h0 hb
 rw [ZO h3];have hxn:xs.length+1<=80:=by
  have:=hok.pages;rw [c1] at this;have e:xs.length=l.length:=by rw [<-c2];simp
  simp at this;omega
 have hup:=cN hx (by omega);have ho1:=eK (2*xs.length+1) (by omega);have ho2:=gn (2*xs.length+2) (by omega);refine zU w _ n.Rb o.k o.a o.b o.c o.d o.e o.co o.ro o.s Pg Tk vk o.text.length (1048576 - s.size) (by omega) (by omega) hRl r2 HR (fun wx _=>HF wx) HS HM (by omega) fk 0 (0:Int) _ OW.hm OW.hn OW.he ?_;intro wx hb;obtain ⟨Sp,hp,_,backp⟩:=ah.third (aS.thing _ _ _) (de.thing _ _ _ _ _ _ _ _ _) (hon wx hb);refine (OW.writes (mg n hlim Pg Cd P Cp (be 9 0 (aA xs)++[(aC (aA xs)).length]) (aQ xs++[(W,H)]) (aC (aA xs)++(aL (2*xs.length+1)++cX (2*xs.length+2))) (by simp only [ZY];omega)) wx Sp (bE ops++s.part,(st,Y)) (ZU hB hb.size) (ht.on (hb.mono hB)) ⟨hp,c6,c7.1⟩ (by show (bE ops++s.part).length+_<=_;omega)).mono ?_;rintro e w' ⟨rfl,S',⟨h',hI',h261'⟩,m'⟩;dsimp only [Dg.op] at h' hI' h261';obtain ⟨S2,hw2,m2⟩:=backp _ _ _ h' m';have hD:bE ops++s.part++o.text=bE (ops++[o])++s.part:=by rw [hpart,oW];simp
 rw [hD] at hw2 hI';refine .inl ⟨rfl,rfl,S2,⟨xs,⟨hx,hzs⟩,.inr (.inr ⟨a,b,W,H,ops++[o],l,Pg,Cd,P,Cp,_,_,?_,c2,c3,c4,⟨?_,?_⟩,hI',⟨h261',by rw [c7.2]⟩,hw2⟩)⟩,(Mv.grow hb S).trans m2⟩
 ·simp [St.put,c1]
 ·intro p hp;rcases Zu.1 hp with hp | hp
  ·exact c5.1 p hp
  ·simp at hp;subst hp;exact ho
 ·rw [ZN hl0];simp [oW,hsz]
theorem de.lacks {B Rb T Fb:Nat} {page:Value} {lack:Int} {title:ByteArray} {n:Nat} {ms:List Value} {w:World} {S:Bl} (h:de B Rb T Fb page lack title n ms w S) (k:Int):∃ S',de B Rb T Fb page k title n ms (w.setCell (zq Rb 3) k) S'/\Mv S w S' (w.setCell (zq Rb 3) k):=by
 obtain ⟨vm,h⟩:=h;obtain ⟨S1,hc,_,kk⟩:=ah.fst (aW.thing _ _ _ _ _ _) h;obtain ⟨a,m⟩:=hc.set 3 (.int .i64 k) (by simp);obtain ⟨S',h',m'⟩:=kk _ _ _ a m;exact ⟨S',⟨vm,h'⟩,m'⟩
theorem yl (o:bj) (ho:o.near) (hk:o.k=4):BO o 135 (.agg #[o.a,o.b,o.c,o.d,o.co,o.ro,o.s]) 353:=
 ⟨uE _,wu _,uF,fun F w S D hB ht h hl=>yx F w S D o ho hk hB ht h hl⟩
theorem sm (n:Wn) (s:St) (w:World) (S:Bl) (o:bj) (hlim:n.lim < 0) (hok:s.ok) (hB:n.B<=w.heap.size) (ht:bU n.B w) (h:WD n s w S):CP 40 #[zp n.Wb,o.val] w (dp n w S (s.begin o)):=by
 have HR:∀ wx,Below w w wx->QD 77 #[zp n.Wb] wx (if s.drawing then .tuple #[zp n.Rb,oz] else .tuple #[.pointer none,(2:Int)]):=fun wx hb=>em n s wx S hok (h.on hb)
 have HF:=fun wx=>oJ wx o
 unfold St.begin;by_cases hd:s.drawing=false
 ·rw [ZN hd];rw [hd] at HR;refine (oQ w o.k o.a o.b o.c o.d o.e o.co o.ro o.s 2 (by decide) HR).mono ?_;rintro e w' ⟨rfl,hb⟩;exact dp.same h hb
 rw [ZO hd];have hdr:s.drawing=true:=by cases e:s.drawing with | false=>exact absurd e hd | true=>rfl
 rw [hdr] at HR;obtain ⟨hop,hl0⟩:=St.drawing_of hdr;by_cases h2:¬ o.isFrame
 ·rw [ZN h2];simp only [ZO h2,Zo h2] at HF;refine (vG w _ n.Rb o.k o.a o.b o.c o.d o.e o.co o.ro o.s HR (fun wx _=>HF wx)).mono ?_;rintro e w' ⟨rfl,hb⟩;exact dp.same h hb
 rw [ZO h2];have ho:o.isFrame:=Xw.1 h2;simp only [ZN ho,Zt ho] at HF;have hnear:=ho.near;have htl:=hnear.text_len;obtain ⟨hk4,hs0,he0,iA,iX,iC,iD,iCo,iRo⟩:=ho;have hsb:=lZ hs0;obtain ⟨hc0,hc1⟩:=iCo;obtain ⟨hr0,hr1⟩:=iRo;have hp:0<=o.co*o.ro:=Xy (by omega) (by omega);have hpos:0 < o.co*o.ro:=Int.mul_pos (by omega) (by omega);have hq:o.co*o.ro<=64*64:=XM hc1 hr1 (by omega) (by omega);have hm:o.co*o.ro=((o.co*o.ro).toNat:Int):=(XV hp).symm;obtain ⟨k,hke⟩:∃ k,k=(o.co*o.ro).toNat:=⟨_,rfl⟩;rw [<-hke] at hm ⊢;have h0:=h;obtain ⟨xs,⟨hx,hzs⟩,⟨a,_,h⟩ | ⟨a,b,c,X,d,h⟩ | ⟨a,b,W,H,ops,l,Pg,Cd,P,Cp,st,Y,c1,c2,c3,c4,c5,c6,c7,h⟩⟩:=h
 ·exact absurd (hop.symm.trans (hok.shut a)) (by simp)
 ·exact absurd (hop.symm.trans b) (by simp)
 have hpart:s.part=[]:=by simp [St.part,hl0]
 have hsz:s.size=(bE ops).length:=by have:=c5.2;rw [ZN hl0] at this;exact this
 have hDl:(bE ops++s.part).length=s.size:=by rw [hpart,YZ,hsz]
 have hsm:=hok.size;obtain ⟨_,_,_,_,r2,_,_,_,hRl⟩:=Wn.drawn_read h;have HS:∀ wx,Below w w wx->QB 88 #[.iface 135 (.agg #[o.a,o.b,o.c,o.d,o.co,o.ro,.string ⟨#[]⟩])] wx (o.text.length:Int):=fun wx hb=>by
  have:=qS n.B wx o (yl o hnear hk4) (by omega) (ZU hB hb.size) (ht.on (hb.mono hB));rw [hsb] at this;exact this
 have hon:∀ wx,Below w w wx->n.drawn s xs W H ops Pg Cd P Cp st Y wx S:=fun wx hb=>(Wn.drawn_thing n s xs W H ops Pg Cd P Cp st Y).keep h (fun k hk=>hb.block k ((Wn.drawn_thing n s xs W H ops Pg Cd P Cp st Y).lt h hk)) hb.size
 have HM:∀ wx,Below w w wx->QE 90 #[zp Pg] wx ((1048576 - s.size:Nat):Int):=fun wx hb=>by
  obtain ⟨Sp,hp,_,_⟩:=ah.third (aS.thing _ _ _) (de.thing _ _ _ _ _ _ _ _ _) (hon wx hb);have:=hp.room (by omega);rw [hDl] at this;exact this
 by_cases h3:1048576 < s.size+o.text.length+k
 ·rw [ZN h3];refine (qX w _ n.Rb o.k o.a o.b o.c o.d o.e o.co o.ro o.s Pg o.text.length (1048576 - s.size) k (by omega) (by omega) (by omega) hm (by omega) hc1 (by omega) hr1 hRl r2 HR (fun wx _=>HF wx) HS HM (by omega)).mono ?_;rintro e w' ⟨rfl,hb⟩;exact dp.same h0 hb
 rw [ZO h3];have hxn:xs.length+1<=80:=by
  have:=hok.pages;rw [c1] at this;have e:xs.length=l.length:=by rw [<-c2];simp
  simp at this;omega
 have hup:=cN hx (by omega);have ho1:=eK (2*xs.length+1) (by omega);have ho2:=gn (2*xs.length+2) (by omega);have htx:o.text.length=o.headB.length+6:=by rw [yS hk4,hsb];simp
 refine yn w _ n.Rb o.k o.a o.b o.c o.d o.e o.co o.ro o.s Pg o.text.length (1048576 - s.size) k (by omega) (by omega) (by omega) hm (by omega) hc1 (by omega) hr1 hRl r2 HR (fun wx _=>HF wx) HS HM (by omega) _ ?_;intro wx hb;obtain ⟨_,_,_,_,q2,q3,_,qz,qRl⟩:=Wn.drawn_read (hon wx hb);refine lI wx n.Rb Pg k o.a o.b o.c o.d o.co o.ro 0 (0:Int) _ hm (by omega) hc1 (by omega) hr1 qRl q2 _ q3 (qz 3) ?_;intro w1 wy hb1 hby;have hd1:=hon w1 (hb.trans (hb1.mono hb.size));obtain ⟨S1,hr1',_,back1⟩:=ah.mid (aS.thing _ _ _) (cG.thing (jp.thing _ _ _) _ _ _ _ _ _ _ _ _ _ _ _) hd1;obtain ⟨S2,hr2,m2⟩:=hr1'.lacks (k:Int);obtain ⟨S3,h3',m3⟩:=back1 _ _ _ hr2 m2;have hT3:=ah.thing (aS.thing n.B n.Wb [.pointer (some ⟨n.Rb,0,none⟩)]) (ah.thing (de.thing n.B n.Rb n.T n.Fb (zp Pg) (k:Int) s.title s.marks.length (iz s.marks)) (cG.thing (ty:=89) (q:=n.sk) (K:=n.K) (jp.thing n.B n.T n.lim) n.Fb n.C Pg Cd P Cp (be 9 0 (aA xs)++[(aC (aA xs)).length]) (aQ xs++[(W,H)]) st (aC (aA xs)++(aL (2*xs.length+1)++cX (2*xs.length+2))) Y (bE ops++s.part)));have h4:=hT3.keep h3' (fun k hk=>hby.block k (hT3.lt h3' hk)) hby.size;obtain ⟨Sp,hpp,_,backp⟩:=ah.third (aS.thing _ _ _) (de.thing _ _ _ _ _ _ _ _ _) h4;have hBy:Below n.B w wy:=((hb.mono hB).trans (hb1.mono (ZU hB hb.size))).trans ((m3.below (fun k e=>(Wn.drawn_thing n s xs W H ops Pg Cd P Cp st Y).ge hd1 e) (ZU hB (ZU hb.size hb1.size))).trans (hby.mono (ZU hB (ZU hb.size (ZU hb1.size m3.size)))));refine (D6 (mg n hlim Pg Cd P Cp (be 9 0 (aA xs)++[(aC (aA xs)).length]) (aQ xs++[(W,H)]) (aC (aA xs)++(aL (2*xs.length+1)++cX (2*xs.length+2))) (by simp only [ZY];omega)) wy Sp (bE ops++s.part,(st,Y)) o hnear (ZU hB hBy.size) (ht.on hBy) ⟨hpp,c6,c7.1⟩ (by show (bE ops++s.part).length+_<=_;omega)).mono ?_;rintro e w' ⟨rfl,S',⟨h',hI',h261'⟩,m'⟩;dsimp only [Dg.add] at h' hI' h261';obtain ⟨S5,hw5,m5⟩:=backp _ _ _ h' m';have hk0:¬ k=0:=by omega
 have hnp:({s with img:=o,left:=k,size:=s.size+o.text.length+k,g:=s.g.wr o.headB}:St).part=o.headB:=by simp [St.part,hk0,hsb]
 have hD:bE ops++s.part++o.headB=bE ops++({s with img:=o,left:=k,size:=s.size+o.text.length+k,g:=s.g.wr o.headB}:St).part:=by rw [hpart,hnp];simp
 rw [hD] at hw5 hI';have mall:Mv S w S5 w':=(((Mv.grow hb S).trans (Mv.grow hb1 S)).trans m3).trans ((Mv.grow hby S3).trans m5);refine .inl ⟨rfl,_,rfl,rfl,S5,⟨xs,⟨hx,hzs⟩,.inr (.inr ⟨a,b,W,H,ops,l,Pg,Cd,P,Cp,_,_,c1,c2,c3,c4,⟨c5.1,?_⟩,hI',⟨h261',by rw [c7.2]⟩,hw5⟩)⟩,mall⟩;rw [ZO hk0];refine ⟨?_,hk4,he0,iA,iX,iC,iD,⟨hc0,hc1⟩,⟨hr0,hr1⟩,?_⟩
 ·simp only [hs0];omega
 ·simp only [hs0];rw [hm];simp
theorem oL (a b:ByteArray):(a++b).data.toList=a.data.toList++b.data.toList:=by simp
theorem vI (n:Wn) (s:St) (w:World) (S:Bl) (t:ByteArray) (htl:t.size<=9223372036854775807) (hlim:n.lim < 0) (hok:s.ok) (h:WD n s w S):CP 41 #[zp n.Wb,t] w (dp n w S (s.data t)):=by
 have HR:=dV n s w S h;have h0:=h;unfold St.data;have hst:s.left=0->w.cell? (zq n.Rb 3)=(0:Int):=by
  intro hl0;obtain ⟨xs,⟨hx,hzs⟩,⟨a,_,h⟩ | ⟨a,b,c,X,d,h⟩ | ⟨a,b,W,H,ops,l,Pg,Cd,P,Cp,st,Y,c1,c2,c3,c4,c5,c6,c7,h⟩⟩:=h
  ·obtain ⟨S1,S2,_,⟨S3,S4,hr,_⟩,_⟩:=h;exact hr.at 3 _ rfl
  ·obtain ⟨_,_,_,_,_,r3,_⟩:=Wn.idle_read h;exact r3
  ·obtain ⟨_,_,_,_,_,r3,_⟩:=Wn.drawn_read h;rw [r3,hl0];rfl
 by_cases h1:s.left=0
 ·rw [ZN h1];refine (tn w t (hst h1) HR).mono ?_;rintro e w' ⟨rfl,q,rfl⟩;exact dp.same h0 (ay w q)
 rw [ZO h1];obtain ⟨xs,⟨hx,hzs⟩,⟨a,_,h⟩ | ⟨a,b,c,X,d,h⟩ | ⟨a,b,W,H,ops,l,Pg,Cd,P,Cp,st,Y,c1,c2,c3,c4,c5,c6,c7,h⟩⟩:=h
 ·exact absurd (hok.idle (hok.shut a)) h1
 ·exact absurd (hok.idle b) h1
 obtain ⟨_,_,_,_,r2,r3,_,fz,hRl⟩:=Wn.drawn_read h;by_cases h2:s.left < t.size
 ·rw [ZN h2];refine (yv w t s.left (by omega) htl h2 r3 HR).mono ?_;rintro e w' ⟨rfl,q,rfl⟩;exact dp.same h0 (ay w q)
 rw [ZO h2];have hleft:=hok.left;have hsm:=hok.size;have hfit:=c5.2;rw [ZO h1] at hfit;obtain ⟨hsize,hk4,he0,iA,iX,iC,iD,iCo,iRo,hcr⟩:=hfit;have hpart:s.part=s.img.headB++s.img.s.data.toList:=by simp [St.part,h1]
 have hDl:(bE ops++s.part).length=(bE ops).length+s.img.headB.length+s.img.s.size:=by rw [hpart];simp;omega
 have hxn:xs.length+1<=80:=by
  have:=hok.pages;rw [c1] at this;have e:xs.length=l.length:=by rw [<-c2];simp
  simp at this;omega
 have hup:=cN hx (by omega);have ho1:=eK (2*xs.length+1) (by omega);have ho2:=gn (2*xs.length+2) (by omega);have F:=mg n hlim Pg Cd P Cp (be 9 0 (aA xs)++[(aC (aA xs)).length]) (aQ xs++[(W,H)]) (aC (aA xs)++(aL (2*xs.length+1)++cX (2*xs.length+2))) (by simp only [ZY];omega);refine zD w t s.left (by omega) (by omega) (by omega) r3 _ HR ?_;intro qn;have hdq:=(Wn.drawn_thing n s xs W H ops Pg Cd P Cp st Y).drewN h qn;obtain ⟨S1,hr1,_,back1⟩:=ah.mid (aS.thing _ _ _) (cG.thing (jp.thing _ _ _) _ _ _ _ _ _ _ _ _ _ _ _) hdq;by_cases h3:t.size < s.left
 ·rw [ZN h3];have hcast:(s.left:Int) - (t.size:Int)=((s.left - t.size:Nat):Int):=by omega
  refine lK (w.drewN qn) Pg s.left t _ (by omega) h3 r2 r3 (fz 3) (et:=0) (ev:=.int .i64 0) ?_;rw [hcast];obtain ⟨S2,hr2,m2⟩:=hr1.lacks ((s.left - t.size:Nat):Int);obtain ⟨S3,h3',m3⟩:=back1 _ _ _ hr2 m2;obtain ⟨Sp,hpp,_,backp⟩:=ah.third (aS.thing _ _ _) (de.thing _ _ _ _ _ _ _ _ _) h3';refine (F.write _ Sp (bE ops++s.part,(st,Y)) t ⟨hpp,c6,c7.1⟩ (by show (bE ops++s.part).length+_<=_;omega)).mono ?_;rintro e w' ⟨rfl,S',⟨h',hI',h261'⟩,m'⟩;dsimp only [Dg.add] at h' hI' h261';obtain ⟨S5,hw5,m5⟩:=backp _ _ _ h' m';have hnp:({s with img:=s.more t,left:=s.left - t.size,g:=s.g.wr t.data.toList}:St).part=s.img.headB++(s.img.s.data.toList++t.data.toList):=by
   simp only [St.part];rw [ZO (by omega)];show (s.more t).headB++(s.img.s++t).data.toList=_
   rw [oL];rfl
  have hD:bE ops++s.part++t.data.toList=bE ops++({s with img:=s.more t,left:=s.left - t.size,g:=s.g.wr t.data.toList}:St).part:=by rw [hpart,hnp];simp only [ZS]
  rw [hD] at hw5 hI';obtain ⟨_,_,_,_,_,q3,_⟩:=Wn.drawn_read (s:={s with img:=s.more t,left:=s.left - t.size,g:=s.g.wr t.data.toList}) hw5;refine .inl ⟨rfl,q3,_,rfl,rfl,S5,⟨xs,⟨hx,hzs⟩,.inr (.inr ⟨a,b,W,H,ops,l,Pg,Cd,P,Cp,_,_,c1,c2,c3,c4,⟨c5.1,?_⟩,hI',⟨h261',by rw [c7.2]⟩,hw5⟩)⟩,(m3.trans m5).undrew⟩;have hms:(s.more t).s.size=s.img.s.size+t.size:=by simp [St.more]
  rw [ZO (show ¬ s.left - t.size=0 by omega)];refine ⟨?_,hk4,he0,iA,iX,iC,iD,iCo,iRo,?_⟩
  ·show s.size=(bE ops).length+s.img.headB.length+(s.more t).s.size+(s.left - t.size)+6
   omega
  ·show (((s.more t).s.size+(s.left - t.size):Nat):Int)=s.img.co*s.img.ro
   rw [<-hcr,hms];congr 1;omega
 ·rw [ZO h3];have heq:t.size=s.left:=by omega
  refine lL (w.drewN qn) Pg t (fun w1=>∃ st' Y' S5,ah (aS n.B n.Wb [.pointer (some ⟨n.Rb,0,none⟩)]) (ah (de n.B n.Rb n.T n.Fb (zp Pg) 0 s.title s.marks.length (iz s.marks)) (cG n.K n.B n.Fb n.C Pg Cd P Cp 89 n.sk (be 9 0 (aA xs)++[(aC (aA xs)).length]) (aQ xs++[(W,H)]) st' (aC (aA xs)++(aL (2*xs.length+1)++cX (2*xs.length+2))) Y' (bE ops++s.part++t.data.toList))) w1 S5/\PI st' Y' (bE ops++s.part++t.data.toList)/\(st'.W.length - st'.at_ < 261/\(st',Y')=s.g.wr t.data.toList)/\Mv S w S5 w1) _ (by omega) r2 (by rw [heq];exact r3) (fz 3) (et:=0) (ev:=.int .i64 0) ?_ ?_
  ·obtain ⟨S2,hr2,m2⟩:=hr1.lacks 0;obtain ⟨S3,h3',m3⟩:=back1 _ _ _ hr2 m2;obtain ⟨Sp,hpp,_,backp⟩:=ah.third (aS.thing _ _ _) (de.thing _ _ _ _ _ _ _ _ _) h3';refine (F.write _ Sp (bE ops++s.part,(st,Y)) t ⟨hpp,c6,c7.1⟩ (by show (bE ops++s.part).length+_<=_;omega)).mono ?_;rintro e w' ⟨rfl,S',⟨h',hI',h261'⟩,m'⟩;dsimp only [Dg.add] at h' hI' h261';obtain ⟨S5,hw5,m5⟩:=backp _ _ _ h' m';obtain ⟨S6,hr6,_,_⟩:=ah.mid (aS.thing _ _ _) (cG.thing (jp.thing _ _ _) _ _ _ _ _ _ _ _ _ _ _ _) hw5;obtain ⟨_,_,q2,q3,_⟩:=hr6.read;exact .inl ⟨rfl,q3,q2,_,_,S5,hw5,hI',⟨h261',by rw [c7.2]⟩,(m3.trans m5).undrew⟩
  ·rintro w1 ⟨st1,Y1,S5,hw5,hI1,h261,mv⟩;obtain ⟨Sp,hpp,_,backp⟩:=ah.third (aS.thing _ _ _) (de.thing _ _ _ _ _ _ _ _ _) hw5;have h6:(⟨#[10,69,73,32,81,10]⟩:ByteArray).size=6:=rfl;refine (F.write _ Sp (bE ops++s.part++t.data.toList,(st1,Y1)) ⟨#[10,69,73,32,81,10]⟩ ⟨hpp,hI1,h261.1⟩ (by rw [h6,ZY,hDl,aP];omega)).mono ?_;rintro e w' ⟨rfl,S',⟨h',hI',h261'⟩,m'⟩;dsimp only [Dg.add] at h' hI' h261';obtain ⟨S7,hw7,m7⟩:=backp _ _ _ h' m';have hms:(s.more t).s.size=s.img.s.size+t.size:=by simp [St.more]
   have hmis:(s.more t).is:=by
    refine ⟨iA,iX,.inr (.inr (.inr ⟨hk4,iC,iD,iCo,iRo,he0,?_⟩))⟩;rw [hms,heq];exact hcr
   have htx:(s.more t).text=s.img.headB++(s.img.s.data.toList++t.data.toList++[10,69,73,32,81,10]):=by
    rw [yS (o:=s.more t) hk4];show s.img.headB++((s.img.s++t).data.toList++_)=_
    rw [oL]
   have hD:bE ops++s.part++t.data.toList++(⟨#[10,69,73,32,81,10]⟩:ByteArray).data.toList=bE (ops++[s.more t])++({s with img:=s.more t,left:=0,pages:=s.put (s.more t),g:=(s.g.wr t.data.toList).wr vq}:St).part:=by
    have e0:({s with img:=s.more t,left:=0,pages:=s.put (s.more t),g:=(s.g.wr t.data.toList).wr vq}:St).part=[]:=by simp [St.part]
    rw [e0,oW,htx,hpart];simp only [ZS,YZ]
   rw [hD] at hw7 hI';refine .inl ⟨rfl,_,rfl,rfl,S7,⟨xs,⟨hx,hzs⟩,.inr (.inr ⟨a,b,W,H,ops++[s.more t],l,Pg,Cd,P,Cp,_,_,?_,c2,c3,c4,⟨?_,?_⟩,hI',⟨h261',by rw [h261.2]⟩,hw7⟩)⟩,mv.trans m7⟩
   ·simp [St.put,c1]
   ·intro p hp;rcases Zu.1 hp with hp | hp
    ·exact c5.1 p hp
    ·simp at hp;subst hp;exact hmis
   ·rw [ZN rfl];show s.size=(bE (ops++[s.more t])).length
    rw [oW,htx];simp only [ZY,aP,ZX,ZR];omega
end Go.Proofs.YtbklfkpjoinofaaGreatDoor
