import Derived.Test.YtbklfkpjoinofaaGreatDoorA37
set_option linter.all false
set_option maxRecDepth 100000
set_option maxHeartbeats 8000000
namespace Go.Proofs.YtbklfkpjoinofaaGreatDoor
open Go.RowKit Go.Proofs.Tryz
theorem AO {xs:List iB} (ms:List (ByteArray×Nat)) (t:ByteArray) (hx:∀ x∈xs,kx x) (hxl:xs.length<=80) (hti:t.size<=100) (hm:ms.length<=20) (hms:∀ m∈ms,m.1.size<=100/\m.2<=80):(fO (aA xs) (aQ xs) (ax ms) t.data.toList).length<=200000000:=by
 have hzl:(aA xs).length=xs.length:=by simp [aA]
 have hsl:(aQ xs).length=xs.length:=by simp [aQ]
 have hup:=cN hx hxl;have hzs:∀ z∈aQ xs,bG z.1 1 14400000/\bG z.2 1 14400000:=by
  intro z hz;simp only [aQ,YA,Yk] at hz;obtain ⟨x,hxm,rfl⟩:=hz;exact ⟨(hx x hxm).2.2.2.2.1,(hx x hxm).2.2.2.2.2⟩
 have hfont:cK (aA xs)=2*xs.length+1:=by rw [cK,hzl]
 have hms2:∀ m∈ax ms,m.1.length<=100/\m.2<=80:=by
  intro m hmm;simp only [ax,YA] at hmm;obtain ⟨y,hy,rfl⟩:=hmm;have:=hms y hy;exact ⟨by show y.1.data.toList.length<=100;rw [aP];omega,this.2⟩
 obtain ⟨hbl,hbl1,hbs,hcat,hinfo⟩:=fW (cK (aA xs)) (aQ xs) (ax ms) t.data.toList (by omega) (by omega) hzs (by rw [aP];omega) (by simp [ax];omega) hms2;have hob:(dv (aA xs) (aQ xs) (ax ms) t.data.toList).length<=2040*310:=by
  have:=fK (cI (cK (aA xs)) (aQ xs) (ax ms) t.data.toList) (cK (aA xs)) (by omega) hbs;unfold dv;omega
 have hbgl:(eH (aA xs) (aQ xs) (ax ms) t.data.toList).length<=500:=by
  unfold eH;rw [ZY,gD,dy,hzl];omega
 have hbgx:∀ x∈eH (aA xs) (aQ xs) (ax ms) t.data.toList,x<=4000000000:=by
  intro x hxm;unfold eH at hxm;rcases Zu.1 hxm with hxm | hxm
  ·have h1:=jk _ _ _ x hxm;have h2:(aC (aA xs)).length=9+(bW 0 (aA xs)).length:=by rw [aC,bi,ZY];rfl
   omega
  ·have h1:=iT _ _ _ x hxm;unfold dv at hob;omega
 have gen:∀ l:List Nat,(∀ x∈l,x<=4000000000)->(bR l).length<=20*l.length:=by
  intro l;induction l with
  | nil=>intro _;simp [bR]
  | cons a r ih=>
   intro h;have h1:=ih (fun x hx=>h x (by simp [hx]));have h2:=jr a (by have:=h a (by simp);omega);simp only [bR,ux,ZY,ZX,ZR];omega
 have hrw:=gen _ hbgx;obtain ⟨bg,hbg⟩:∃ b,eH (aA xs) (aQ xs) (ax ms) t.data.toList=b:=⟨_,rfl⟩;obtain ⟨cat,hc⟩:∃ b,l7 (cK (aA xs)) (aQ xs) (ax ms) t.data.toList=b:=⟨_,rfl⟩;obtain ⟨inf,hi⟩:∃ b,fo (cK (aA xs)) (aQ xs) (ax ms) t.data.toList=b:=⟨_,rfl⟩;obtain ⟨O,hO⟩:∃ b,dv (aA xs) (aQ xs) (ax ms) t.data.toList=b:=⟨_,rfl⟩;obtain ⟨U,hU⟩:∃ b,aC (aA xs)=b:=⟨_,rfl⟩;rw [fO,xS,hbg,hc,hi,hO,hU];rw [hbg] at hrw hbgl;rw [hc] at hcat;rw [hi] at hinfo;rw [hO] at hob;rw [hU] at hup;have l1:=ar ((bg.length+1:Nat):Int) (by omega) (by omega);have l2:=bm [47,82,111,111,116] (cat:Int) 5 (by simp) (by omega) (by omega);have l3:=bm [47,73,110,102,111] (inf:Int) 5 (by simp) (by omega) (by omega);have l4:=ar ((U.length+O.length:Nat):Int) (by omega) (by omega);simp only [iE,fu,iL,ZY,ZX,ZR];omega
theorem vo:∀ (ms:List (ByteArray×Nat)) (p:Nat),(∀ m∈ms,p<=m.2)->ms.Pairwise (fun a b=>a.2<=b.2)->pz p (ax ms)
 | [],_,_,_=>trivial
 | m::r,p,h,hp=>⟨h m (by simp),vo r m.2 (fun x hx=>(List.pairwise_cons.1 hp).1 x hx) (List.pairwise_cons.1 hp).2⟩
theorem gI (w:World) (lim:Int):(fU w lim).heap.size=w.heap.size+5:=by simp [fU]
theorem nW (w:World) (lim:Int):Below w w (fU w lim):=by
 unfold fU;refine ((((((ZT _ w).alloc ?_ _).alloc ?_ _).alloc ?_ _).alloc ?_ _).alloc ?_ _) <;> simp <;> omega
theorem lQ.new (B:Nat) (w:World):lQ B [] [] (.slice none 0 0) (.slice none 0 0) w (fun _=>False):=by
 refine ⟨fun _=>False,fun _=>False,?_,⟨fun _=>False,fun _=>False,rfl,?_,fun _ e=>e.elim,?_⟩,fun _ e=>e.elim,?_⟩
 all_goals first
  | (refine ⟨?_,Yj _ _ _ _⟩;funext k;simp [ob,Value.ownBlock])
  | (funext k;simp [cT])
abbrev El (b sp fl:Nat):Obj:=.cells #[zp (b+4),.string ⟨#[]⟩,.slice none 0 0,.slice none 0 0,false,(sp:Int),(fl:Int),oz] 64
theorem JD.new (B:Nat) (w:World) (sp fl:Nat) (hB:B<=w.heap.size):∃ S,JD (Wn.at B w.heap.size (-1)) (w.heap.size+5) St.new St.new sp fl 0 ((fU w (-1)).alloc (El w.heap.size sp fl)) S/\∀ k,S k->w.heap.size<=k:=by
 obtain ⟨S1,h1,e1⟩:=WD.new B w (-1) hB (by omega) (by omega);have z1:=gI w (-1);obtain ⟨u,hu⟩:∃ u,fU w (-1)=u:=⟨_,rfl⟩;rw [hu] at h1 z1 ⊢;have b2:Below u u (u.alloc (El w.heap.size sp fl)):=(ZT _ u).alloc (ZW _) _;have c2:aS B u.heap.size [.pointer (some ⟨w.heap.size+4,0,none⟩),.string ⟨#[]⟩,.slice none 0 0,.slice none 0 0,.bool false,.int .i64 (sp:Int),.int .i64 (fl:Int),.int .i64 0] (u.alloc (El w.heap.size sp fl)) (cC u.heap.size):=aS.alloc (by omega);have j2:JS B u.heap.size (w.heap.size+4) St.new sp fl 0 (u.alloc (El w.heap.size sp fl)) (cT (cC u.heap.size) (fun _=>False)):=⟨[],.slice none 0 0,.slice none 0 0,rfl,_,_,c2,lQ.new _ _,fun _ _ e=>e,rfl⟩;obtain ⟨h3,_⟩:=ah.new (WD.thing (Wn.at B w.heap.size (-1)) St.new) h1 j2 b2 (fun k e=>by
  rcases e with e | e
  ·have:k=u.heap.size:=e;omega
  ·exact e.elim)
 rw [z1] at h3;refine ⟨_,h3,?_⟩;rintro k ((e | e) | e)
 ·have:k=w.heap.size+5:=e;omega
 ·exact e.elim
 ·exact e1 k e
def St.xs (s:St):List iB:=s.zs.zip s.pages
def pI (s:St):ByteArray:=⟨(fO (aA s.xs) (aQ s.xs) s.mks s.title.data.toList).toArray⟩
theorem Cm:∀ xs:List iB,(xs.map (·.1)).zip (xs.map (·.2))=xs
 | []=>rfl
 | x::xs=>by simp only [Yo,List.zip_cons_cons,Cm xs]
theorem uy (s:St):(pI s).size=(fO (aA s.xs) (aQ s.xs) (ax s.marks) s.title.data.toList).length:=by simp [pI,ByteArray.size];rfl
theorem JD.file {n:Wn} {jb:Nat} {s d:St} {sp fl c:Nat} {w:World} {S:Bl} (h:JD n jb s d sp fl c w S) (hok:s.ok) (hfi:s.fine) (hcl:s.cl=true):w.cell? jb=zp n.Wb/\(∀ x∈s.xs,kx x)/\s.xs.map (·.2)=s.pages/\s.xs.length<=80/\(pI s).size<=200000000/\QE 20 #[zp n.Wb] w (.string (pI s)):=by
 obtain ⟨ps,vp,vm,SC,hp,hall,hC⟩:=h.parts;refine ⟨hC.at 0 _ rfl,?_⟩;obtain ⟨SW,hW,_,_⟩:=ah.snd (ah.thing (aS.thing _ _ _) (lQ.thing _ _ _ _ _)) hall;obtain ⟨xs,⟨hx,hzs⟩,⟨_,hxs,hcd⟩ | ⟨h,_⟩ | ⟨h,_⟩⟩:=hW
 ·have hxl:xs.length=s.pages.length:=by rw [<-hxs];simp
  have hpg:=hok.pages;have hmk:∀ m∈s.marks,m.1.size<=100/\m.2<=80:=fun m hm=>by have:=hfi.marks m hm;omega
  have hlen:=AO s.marks s.title hx (by omega) hfi.title hok.marks hmk;obtain rfl:xs=s.xs:=by rw [St.xs, <-hzs, <-hxs,Cm]
  exact ⟨hx,hxs,by omega,by rw [uy];exact hlen,oE _ s s.xs w SW (ZU hlen (by omega)) hcd⟩
 ·rw [hcl] at h;cases h
 ·rw [hcl] at h;cases h
theorem uP (w:World) (B:Nat) (s:St) (hok:s.ok) (hfi:s.fine) (hx:∀ x∈s.xs,kx x) (hxs:s.xs.map (·.2)=s.pages) (hxl:s.xs.length<=80) (hz:(pI s).size<=200000000) (hB:B<=w.heap.size) (ht:bU B w) (hml:fH B w) (he:nA B w):
  CP 19 #[.string (pI s)] w fun e w'=>∃ a1 k1 a2 k2 qs,e=.returned (.tuple #[.agg #[s.title,.slice a1 qs.length k1,.slice a2 s.marks.length k2],oz])/\qs.map (·.2)=s.pages/\Gq (.slice a1 qs.length k1) qs w'/\fB (.slice a2 s.marks.length k2) s.marks.length (iz s.marks) w'/\af w w':=by
 have e:=uy s;have hxe:s.xs.length=s.pages.length:=by rw [<-hxs];simp
 refine (uh w B (pI s) s.title s.xs s.marks hx hxl hfi.title hok.marks (fun m hm=>by have:=hfi.marks m hm;exact ⟨⟨this.1,this.2.1⟩,by omega⟩) (vo s.marks 0 (fun _ _=>YO _) hfi.up) (by simp [pI];rfl) (by omega) hB ht hml he).mono ?_;rintro e w4 ⟨v1,v2,rfl,⟨qs,hqs,hPg,hLm⟩,hb4⟩;obtain ⟨⟨⟨a1,k1,rfl,_⟩,_⟩,_⟩:=id hPg;obtain ⟨⟨a2,k2,rfl,_⟩,_⟩:=id hLm;exact ⟨a1,k1,a2,k2,qs,rfl,by rw [hqs,hxs],⟨hPg.1.1,fun x hx=>(hPg.2 x hx).1⟩,hLm.1,hb4⟩
theorem Gq.on {v:Value} {ps:List (Value×(Int×Int×List bj))} {w w':World} (h:Gq v ps w) (hg:af w w'):Gq v ps w':=⟨h.1.on hg,fun x hx=>(h.2 x hx).on hg⟩
theorem JA (B b jb:Nat) (s d:St) (sp fl c:Nat):aJ B (JD (Wn.at B b (-1)) jb s d sp fl c):=JD.thing (Wn.at B b (-1)) jb s d sp fl c
theorem Dl (w:World) (a0:Option Addr) (len cap b off:Nat) (sc:Nat->pE) (A C:Int) (hA:Dh A) (hC:Dh C) (hm:len<=9223372036854775807) (ha:0 < len->a0=some ⟨b,off,none⟩) (hf:∀ i,i < len->(sc i).fits) (ht:bU w.heap.size w) (hml:fH w.heap.size w) (he:nA w.heap.size w) (hbB:b < w.heap.size\/len=0)
  (FS:∀ i,i < len->∀ (j:Nat) u,([.int .i64 (sc i).k,.int .i64 (sc i).a,.int .i64 (sc i).b,.int .i64 (sc i).c,.int .i64 (sc i).d,.int .i64 (sc i).e,.int .i64 (sc i).co,.int .i64 (sc i).ro,.string (sc i).s]:List Value)[j]? =some u->w.cell? (zq b (off+i*9+j))=some u):
  QB 7 #[.slice a0 len cap,A,C] w true:=by
 have p1:=eP A 100 (by omega);have q1:=eP C 5 (by omega);obtain ⟨p,hp⟩:∃ p,aM A 100=p:=⟨_,rfl⟩;obtain ⟨q,hq⟩:∃ q,aM C 5=q:=⟨_,rfl⟩;have HP:=fun wx=>xE wx A 100 hA.1 hA.2 (by omega) (by omega)
 have HQ:=fun wx=>xE wx C 5 hC.1 hC.2 (by omega) (by omega)
 rw [hp] at p1 HP;rw [hq] at q1 HQ;clear hp hq;have h4:min len 400<=400:=by omega
 have gx:=(na 0 sc (min len 400) h4).1;have gy:=(na (1+p) sc (min len 400) h4).1;have lk:=va 0 (1+p) sc (min len 400) h4;obtain ⟨x1,x2,x3,x4,x5,x6⟩:=Ce gx;obtain ⟨y1,y2,y3,y4,y5,y6⟩:=Ce gy;have lt:(mc (gV (1+p) sc (min len 400)).1).title=(mc (gV 0 sc (min len 400)).1).title:=by rw [x4,y4,lk.title]
 have lp:(mc (gV (1+p) sc (min len 400)).1).pages=(mc (gV 0 sc (min len 400)).1).pages:=by rw [x5,y5,lk.pages]
 have lm:(mc (gV (1+p) sc (min len 400)).1).marks=(mc (gV 0 sc (min len 400)).1).marks:=by rw [x6,y6,lk.marks]
 clear x4 x5 x6 y4 y5 y6 lk gx gy;have FSat:∀ {wr:World},Below w w wr->∀ i,i < len->∀ (j:Nat) u,([.int .i64 (sc i).k,.int .i64 (sc i).a,.int .i64 (sc i).b,.int .i64 (sc i).c,.int .i64 (sc i).d,.int .i64 (sc i).e,.int .i64 (sc i).co,.int .i64 (sc i).ro,.string (sc i).s]:List Value)[j]? =some u->wr.cell? (zq b (off+i*9+j))=some u:=fun hb i hi j u hu=>(hb.cell (p:=zq b (off+i*9+j)) (by show b < w.heap.size;omega)).trans (FS i hi j u hu)
 refine BT w (w.heap.size+5) (w.heap.size+6+5) (w.heap.size+12+5) (w.heap.size+4) (w.heap.size+6+4) (w.heap.size+12+4) a0 len cap A C p q p1 q1 (pI (mc (gV (1+p) sc (min len 400)).1)) HP HQ ?_;refine (pm w (-1) 0 0).mono ?_;rintro e w1 ⟨rfl,hw1⟩;refine ⟨rfl,?_⟩;obtain ⟨S1,hX,eX⟩:=JD.new w.heap.size w 0 0 (ZW _);have hw1':(fU w (-1)).alloc (El w.heap.size 0 0)=w1:=hw1.symm;rw [hw1'] at hX;have z1:w1.heap.size=w.heap.size+6:=by rw [hw1];simp [gI]
 have hb1:Below w w w1:=by rw [hw1];exact (nW w (-1)).alloc (by rw [gI];omega) _
 clear hw1 hw1';refine (pm w1 (-1) ((1+p:Nat):Int) ((1+q:Nat):Int)).mono ?_;rintro e w2 ⟨rfl,hw2⟩;refine ⟨by rw [z1],?_⟩;obtain ⟨S2,hY,eY⟩:=JD.new w.heap.size w1 (1+p) (1+q) (by omega);rw [<-hw2] at hY;have z2:w2.heap.size=w.heap.size+12:=by rw [hw2];simp [gI,z1]
 have hb2:Below w1 w1 w2:=by rw [hw2];exact (nW w1 (-1)).alloc (by rw [gI];omega) _
 clear hw2;obtain ⟨hs2,_⟩:=ah.new (JA _ _ _ _ _ _ _ _) hX hY hb2 eY;have hw02:Below w w w2:=hb1.trans (hb2.mono (by omega));rw [z1] at hs2;refine (pm w2 (-1) ((1+p:Nat):Int) ((1+q:Nat):Int)).mono ?_;rintro e w3 ⟨rfl,hw3⟩;refine ⟨by rw [z2],?_⟩;obtain ⟨S3,hZ,eZ⟩:=JD.new w.heap.size w2 (1+p) (1+q) (by omega);rw [<-hw3] at hZ;have hb3:Below w2 w2 w3:=by rw [hw3];exact (nW w2 (-1)).alloc (by rw [gI];omega) _
 clear hw3;obtain ⟨hs3,_⟩:=ah.new (ah.thing (JA _ _ _ _ _ _ _ _) (JA _ _ _ _ _ _ _ _)) hs2 hZ hb3 eZ;have hw03:Below w w w3:=hw02.trans (hb3.mono (by omega));rw [z2] at hs3;clear hX hY hZ hs2 eX eY eZ hb1 hb2 hb3 hw02;obtain ⟨SX,hX3,_,backX⟩:=ah.third (JA _ _ _ _ _ _ _ _) (JA _ _ _ _ _ _ _ _) hs3;refine (qB _ _ 0 0 a0 len cap b off sc w3 SX (by omega) (by omega) hm ha hf (by show (-1:Int) < 0;omega) hw03.size (ht.on hw03) hbB (FSat hw03) hX3).mono ?_;rintro e w4 ⟨rfl,c4,S4,hX4,m4⟩;refine ⟨rfl,?_⟩;obtain ⟨T4,hs4,n4⟩:=backX _ _ _ hX4 m4;have hw04:Below w w w4:=hw03.trans (n4.tabBelow (ah.thing (JA _ _ _ _ _ _ _ _) (ah.thing (JA _ _ _ _ _ _ _ _) (JA _ _ _ _ _ _ _ _))) hs3 hw03.size);obtain ⟨SY,hY4,_,backY⟩:=ah.mid (JA _ _ _ _ _ _ _ _) (JA _ _ _ _ _ _ _ _) hs4;refine (qB _ _ (1+p) (1+q) a0 len cap b off sc w4 SY (by omega) (by omega) hm ha hf (by show (-1:Int) < 0;omega) hw04.size (ht.on hw04) hbB (FSat hw04) hY4).mono ?_;rintro e w5 ⟨rfl,c5,S5,hY5,m5⟩;refine ⟨rfl,?_⟩;obtain ⟨T5,hs5,n5⟩:=backY _ _ _ hY5 m5;have hw05:Below w w w5:=hw04.trans (n5.tabBelow (ah.thing (JA _ _ _ _ _ _ _ _) (ah.thing (JA _ _ _ _ _ _ _ _) (JA _ _ _ _ _ _ _ _))) hs4 hw04.size);obtain ⟨SZ,hZ5,_,backZ⟩:=ah.fst (ah.thing (JA _ _ _ _ _ _ _ _) (JA _ _ _ _ _ _ _ _)) hs5;refine (qB _ _ (1+p) (1+q) a0 len cap b off sc w5 SZ (by omega) (by omega) hm ha hf (by show (-1:Int) < 0;omega) hw05.size (ht.on hw05) hbB (FSat hw05) hZ5).mono ?_;rintro e w6 ⟨rfl,c6,S6,hZ6,m6⟩;refine ⟨rfl,?_⟩;obtain ⟨T6,hs6,n6⟩:=backZ _ _ _ hZ6 m6;have hw06:Below w w w6:=hw05.trans (n6.tabBelow (ah.thing (JA _ _ _ _ _ _ _ _) (ah.thing (JA _ _ _ _ _ _ _ _) (JA _ _ _ _ _ _ _ _))) hs5 hw05.size);obtain ⟨_,hx6,_,_⟩:=ah.third (JA _ _ _ _ _ _ _ _) (JA _ _ _ _ _ _ _ _) hs6;obtain ⟨_,hy6,_,_⟩:=ah.mid (JA _ _ _ _ _ _ _ _) (JA _ _ _ _ _ _ _ _) hs6;obtain ⟨_,hz6,_,_⟩:=ah.fst (ah.thing (JA _ _ _ _ _ _ _ _) (JA _ _ _ _ _ _ _ _)) hs6;clear hs3 hs4 hs5 hs6 backX backY backZ hX3 hX4 hY4 hY5 hZ5 hZ6 FS FSat m4 m5 m6 n4 n5 n6 hw03 hw04 hw05;generalize mc (gV (1+p) sc (min len 400)).1=sy at y1 y2 y3 lt lp lm hy6 hz6 ⊢;generalize mc (gV 0 sc (min len 400)).1=sx at x1 x2 x3 lt lp lm hx6;obtain ⟨cx,fx1,fx2,fx3,fx4,fx5⟩:=hx6.file x1 x2 x3;obtain ⟨_,fy1,fy2,fy3,fy4,_⟩:=hy6.file y1 y2 y3;refine ⟨cx,fx5.mono ?_⟩;rintro e w7 ⟨rfl,rfl⟩;refine ⟨_,rfl,?_⟩;refine (uP w7 w.heap.size sx x1 x2 fx1 fx2 fx3 fx4 hw06.size (ht.on hw06) (hml.on hw06) (nA.on he hw06)).mono ?_;rintro e w8 ⟨a1,k1,a2,k2,qs,rfl,hqs,hPg,hLm,g8⟩;refine ⟨_,_,_,_,_,_,_,rfl,fun we ge=>?_⟩;have g0e:af w7 we:=af.trans g8 ge;have hw0e:Below w w we:=hw06.trans (YY g0e hw06.size);obtain ⟨cy,_,_,_,_,fy5⟩:=((JA _ _ _ _ _ _ _ _).grow hy6 g0e).file y1 y2 y3;refine ⟨cy,fy5.mono ?_⟩;rintro e w10 ⟨rfl,rfl⟩;refine ⟨_,rfl,?_⟩;refine (uP w10 w.heap.size sy y1 y2 fy1 fy2 fy3 fy4 hw0e.size (ht.on hw0e) (hml.on hw0e) (nA.on he hw0e)).mono ?_;rintro e w11 ⟨b1,l1,b2,l2,rs,rfl,hrs,hPg2,hLm2,g11⟩;refine ⟨_,_,_,_,_,_,_,rfl,g11,fun wf gf=>?_⟩;have gef:af w10 wf:=af.trans g11 gf;have g8f:af w8 wf:=af.trans ge gef;have g7f:af w7 wf:=af.trans g8 g8f;have hqr:qs.map (·.2)=rs.map (·.2):=by rw [hqs,hrs,lp]
 have hql:qs.length=sx.xs.length:=by have:=congrArg List.length (hqs.trans fx2.symm);simpa using this
 rw [lt];rw [lm] at hLm2 ⊢;refine (CZ wf sx.title _ _ _ _ qs rs sx.marks (hPg.on g8f) (hPg2.on gf) hqr (by omega) ?_ x1.marks (hLm.on g8f) (hLm2.on gf)).mono ?_
 ·intro x hxq;have h1:x.2∈sx.xs.map (·.2):=by rw [fx2, <-hqs];exact YA.2 ⟨x,hxq,rfl⟩
  obtain ⟨y,hy,e⟩:=YA.1 h1;have h2:=(fx1 y hy).2.1;have h3:=nE y.2.2.2;rw [e] at h2 h3;omega
 ·rintro e w13 ⟨rfl,hb13⟩;refine ⟨rfl,fun wg gg=>?_⟩;have g7g:af w7 wg:=af.trans (af.trans g7f hb13) gg;obtain ⟨cy2,_,_,_,_,by5⟩:=((JA _ _ _ _ _ _ _ _).grow hy6 g7g).file y1 y2 y3;obtain ⟨cz2,_,_,_,_,bz5⟩:=((JA _ _ _ _ _ _ _ _).grow hz6 g7g).file y1 y2 y3;exact ⟨hw06.trans (YY g7g hw06.size),cy2,cz2,by5,bz5⟩
end Go.Proofs.YtbklfkpjoinofaaGreatDoor
