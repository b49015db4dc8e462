import Derived.Test.YtbklfkpjoinofaaGreatDoorA29
set_option linter.all false
set_option maxRecDepth 100000
set_option maxHeartbeats 8000000
namespace Go.Proofs.YtbklfkpjoinofaaGreatDoor
open Go.RowKit Go.Proofs.Tryz
theorem bm (key:List UInt8) (n:Int) (k:Nat) (hk:key.length<=k) (h0:-1000000000<=n) (h1:n<=1000000000):(bt key n).length<=k+27:=by
 have:=gJ n (by omega) (by omega);unfold bt;split
 ·simp
 ·simp only [ZY,ZX,ZR];omega
theorem ED.start {B:Nat} {w:World} (first:Int) (hB:B<=w.heap.size):∃ S,ED B w.heap.size first 0 0 [] (w.alloc (.cells #[first,.slice none 0 0,oz,oz] 185)) S:=by
 have h1:aS B w.heap.size [.int .i64 first,.slice none 0 0,.int .i64 0,.int .i64 0] (w.alloc (.cells #[first,.slice none 0 0,oz,oz] 185)) (cC w.heap.size):=aS.alloc hB;exact ⟨_,.slice none 0 0,cC w.heap.size,ob (.slice none 0 0),h1,aW.nil _ _ _ _,fun k _ h=>by simp [ob,Value.ownBlock] at h,rfl⟩
theorem ED.setInfo {B E:Nat} {first info cat:Int} {bodies:List (List UInt8)} {w:World} {S:Bl} (h:ED B E first info cat bodies w S) (k:Int):w.cell? (zq E 2)=info/\w.frozen? (zq E 2)=false/\∃ S',ED B E first k cat bodies (w.setCell (zq E 2) k) S'/\Mv S w S' (w.setCell (zq E 2) k):=by
 obtain ⟨vb,h⟩:=h;obtain ⟨S1,hc,_,back⟩:=ah.fst (aW.thing _ _ _ _ _ _) h;obtain ⟨h2,m2⟩:=hc.set 2 (.int .i64 k) (by simp);obtain ⟨S',h',m'⟩:=back _ _ _ h2 m2;exact ⟨hc.at 2 _ rfl,hc.fz 2,S',⟨vb,h'⟩,m'⟩
theorem ED.setCat {B E:Nat} {first info cat:Int} {bodies:List (List UInt8)} {w:World} {S:Bl} (h:ED B E first info cat bodies w S) (k:Int):w.cell? (zq E 3)=cat/\w.frozen? (zq E 3)=false/\∃ S',ED B E first info k bodies (w.setCell (zq E 3) k) S'/\Mv S w S' (w.setCell (zq E 3) k):=by
 obtain ⟨vb,h⟩:=h;obtain ⟨S1,hc,_,back⟩:=ah.fst (aW.thing _ _ _ _ _ _) h;obtain ⟨h2,m2⟩:=hc.set 3 (.int .i64 k) (by simp);obtain ⟨S',h',m'⟩:=back _ _ _ h2 m2;exact ⟨hc.at 3 _ rfl,hc.fz 3,S',⟨vb,h'⟩,m'⟩
theorem ij (n:Int) (h0:-100000000<=n) (h1:n<=100000000):(bJ n).length<=30:=ZU (eu n h0 h1) (by omega)
theorem qU {B B':Nat} {w:World} (h:bU B w) (hb:B<=B'):bU B' w:=fun w' h'=>h w' (h'.mono hb)
theorem pX (w:World) (B0 fi:Nat) (zs:List (Int×Int)) (ti:ByteArray) (ms:List (ByteArray×Nat)) (adz adm:Option Addr) (capz capm:Nat) (hB0:B0<=w.heap.size) (ht0:bU B0 w) (hfi:fi<=500) (hz:zs.length<=80) (hzs:∀ z∈zs,bG z.1 1 14400000/\bG z.2 1 14400000) (hti:ti.size<=100) (hm:ms.length<=20) (hms:∀ m∈ms,m.1.size<=100/\m.2<=80)
  (hLz:fB (.slice adz zs.length capz) zs.length (rN zs) w) (hLm:fB (.slice adm ms.length capm) ms.length (iz ms) w):
  CP 137 #[(fi:Int),.slice adz zs.length capz,ti,.slice adm ms.length capm] w fun e w'=>e=.returned (zp w.heap.size)/\Below w w w'/\∃ S',ED w.heap.size w.heap.size (fi:Int) (fo fi zs (ax ms) ti.data.toList:Nat) (l7 fi zs (ax ms) ti.data.toList:Nat) (cI fi zs (ax ms) ti.data.toList) w' S':=by
 obtain ⟨E,hE⟩:∃ E,E=w.heap.size:=⟨_,rfl⟩;have ht:bU E w:=qU ht0 (by omega);rw [<-hE];have hLz2:=hLz;have hLm2:=hLm;obtain ⟨_,_,hv,hcap,hcap2,hcellz⟩:=hLz2;simp at hv;obtain ⟨rfl,rfl⟩:=hv;have P0:∀ {d info cat w1 S1},ED E E (fi:Int) info cat d w1 S1->∀ {w2 S2},Below E w w1->Mv S1 w1 S2 w2->Below E w w2:=fun {d info cat w1 S1} h1 {w2 S2} hb m=>hb.trans (m.below (fun _ e=>(ED.thing _ _ _ _ _ _).ge h1 e) (by have:=hb.size;omega))
 have adds:∀ (info cat:Int) (d:List (List UInt8)) (s:List UInt8) w1 S1,d.length<=2000->ED E E (fi:Int) info cat d w1 S1->Below E w w1->∀ w2,Below w1 w1 w2->CP 171 #[zp E,.string ⟨s.toArray⟩] w2 fun e w'=>e=.returned ((fi+d.length:Nat):Int)/\∃ S',ED E E (fi:Int) info cat (d++[s]) w' S'/\Below E w w'/\Mv S1 w1 S' w':=by
  intro info cat d s w1 S1 hd h1 hb1 w2 hb2;have hz:=hb1.size;refine (nB w2 E E (fi:Int) info cat d S1 s ((ED.thing _ _ _ _ _ _).grow h1 hb2) (by have:=hb2.size;omega) (by omega) (by omega) (by omega)).mono ?_;rintro e w3 ⟨rfl,S3,h3,m3⟩;have m9:=(Mv.grow hb2 S1).trans m3;exact ⟨by congr 2,S3,h3,P0 h1 hb1 m9,m9⟩
 have tabs:∀ {w1},Below E w w1->∀ {w2},Below w1 w1 w2->bU E w2:=fun {w1} hb1 {w2} hb2=>ht.on (hb1.trans (hb2.mono (by have:=hb1.size;omega)))
 have hs:=iO (fi+1) zs.length (by omega) hz;have hrl:1<=(cR (fi+1) zs.length).length:=by simp [cR]
 have hne:cR (fi+1) zs.length≠[]:=by simp [cR]
 have hr0:rowAt (cR (fi+1) zs.length) 0=(fi+1,zs.length,1):=rfl;have hup:∀ i,rR ((cR (fi+1) zs.length).drop 1) i=fi+1+zs.length+i / 8:=fun i=>lv _ _ _ i
 obtain ⟨rows,hrows⟩:∃ rows,cR (fi+1) zs.length=rows:=⟨_,rfl⟩;rw [hrows] at hs hrl hne hr0 hup;have hat:∀ i,i < zs.length->∃ z,zs[i]? =some z/\zs.getD i (0,0)=z/\bG z.1 1 14400000/\bG z.2 1 14400000:=fun i hi=>⟨zs[i],ZM hi,by simp [hi],hzs _ (Yp hi)⟩
 have hnl:=ib zs.length (fi+1) zs.length 1;have hb1l:(b_ fi zs).length=1+zs.length+(bS zs.length (fi+1) zs.length 1).length:=by
  simp only [b_,ZX,ZY,dZ];omega
 have hmkl:(dd (fi+(b_ fi zs).length) (fi+1) (ax ms)).length<=21:=by
  unfold dd;split
  ·simp
  ·simp only [ZX,dN,ax,Yv];omega
 have hb2l:(eG fi zs (ax ms)).length<=300:=by
  simp only [eG,ZY];omega
 have hb3l:(dG fi zs (ax ms) ti.data.toList).length<=301:=by
  simp only [dG,ZY];split <;> simp <;> omega
 have hqt:=gX ti.data.toList;rw [aP] at hqt;have hrootl:fJ fi zs<=100000:=by unfold fJ;omega
 have houtl:rI fi zs (ax ms)<=100000:=by unfold rI;split <;> omega
 refine oG w E fi fi (fi+1) ((adz.getD ⟨0,0,none⟩).block) zs.length capz ms.length capm (fJ fi zs) (rI fi zs (ax ms)) (fo fi zs (ax ms) ti.data.toList) (l7 fi zs (ax ms) ti.data.toList) adm adz ti (fun i=>zs.getD i (0,0)) (fun i=>((fi+1+zs.length+i / 8:Nat):Int)) (fun i=>vO fi zs.length i (zs.getD i (0,0))) (bc ti.data.toList) (aD (fJ fi zs:Int)) (bt [47,79,117,116,108,105,110,101,115] (rI fi zs (ax ms):Int)) (vu (fJ fi zs) (rI fi zs (ax ms)))
  (fun w1=>∃ S1,ED E E (fi:Int) 0 0 [nC] w1 S1/\Below E w w1)
  (fun w1=>∃ S1,ED E E (fi:Int) 0 0 [nC] w1 S1/\Below E w w1)
  (fun rb rn rcap i w1=>∃ S1,ah (ED E E (fi:Int) 0 0 (nC::ed fi zs.length 0 (zs.take i))) (aW E 229 3 (.slice (zp rb) rn rcap) rows.length (eF rows)) w1 S1/\Below E w w1)
  (fun rb rn rcap w1=>∃ S1,ah (ED E E (fi:Int) 0 0 (b_ fi zs)) (aW E 229 3 (.slice (zp rb) rn rcap) rows.length (eF rows)) w1 S1/\Below E w w1)
  (fun w1=>∃ S1,ED E E (fi:Int) 0 0 (eG fi zs (ax ms)) w1 S1/\Below E w w1)
  (fun w1=>∃ S1,ED E E (fi:Int) 0 0 (dG fi zs (ax ms) ti.data.toList) w1 S1/\Below E w w1)
  (fun w1=>∃ S1,ED E E (fi:Int) (fo fi zs (ax ms) ti.data.toList:Nat) 0 (dG fi zs (ax ms) ti.data.toList) w1 S1/\Below E w w1)
  (fun w1=>∃ S1,ED E E (fi:Int) (fo fi zs (ax ms) ti.data.toList:Nat) 0 (cI fi zs (ax ms) ti.data.toList) w1 S1/\Below E w w1)
  _ hE (by omega) hcap hcap2 ?_ (by omega) ?_ ?_ ?_ ?_ ?_ ?_ ?_ ?_ ?_ ?_ ?_ ?_ ?_ ?_ ?_ ?_ ?_ ?_ ?_ ?_
 ·intro h0;obtain ⟨b,rfl,_⟩:=hcellz h0;rfl
 ·have:=gJ (fJ fi zs:Int) (by omega) (by omega);omega
 ·have:=bm [47,79,117,116,108,105,110,101,115] (rI fi zs (ax ms):Int) 9 (by simp) (by omega) (by omega);omega
 ·obtain ⟨S1,h1⟩:=ED.start (B:=E) (w:=w) (fi:Int) (by omega);rw [<-hE] at h1;have hb1:Below E w (w.alloc (.cells #[(fi:Int),.slice none 0 0,oz,oz] 185)):=(ZT _ w).alloc (by omega) _;refine (adds 0 0 [] nC _ S1 (by simp) h1 hb1 _ (ZT _ _)).mono ?_;rintro e w' ⟨rfl,S2,h2,hb2,_⟩;exact ⟨rfl,S2,h2,hb2⟩
 ·rintro w1 ⟨S1,h1,hb1⟩;obtain ⟨ad2,cap2,c0,c1⟩:=h1.cells;refine (kh w1 E (fi:Int) ad2 _ cap2 c0 c1 (by omega) (by omega) (by simp)).mono ?_;rintro e w2 ⟨rfl,q,rfl⟩;exact ⟨rfl,S1,(ED.thing _ _ _ _ _ _).drewN h1 q,cU hb1⟩
 ·rintro w1 ⟨S1,h1,hb1⟩;refine (tz w1 (fi+1) zs.length (by omega) hz).mono ?_;rintro e w2 ⟨v,rfl,ow,hb2⟩;rw [hrows] at ow;obtain ⟨g,cap,hv,_,_,_⟩:=iF ow (by omega);have hz1:=hb1.size;have hlt:=ow.lt;have h2:aW E 229 3 v rows.length (eF rows) w2 (ob v):=⟨rfl,World.ownsRow.mono ow (by omega)⟩;obtain ⟨h3,m3⟩:=ah.new (ED.thing _ _ _ _ _ _) h1 h2 hb2 (fun k hk=>by have:=(hlt k hk).1;omega);rw [hv] at h3;have h4:=ah.swap h3;refine ⟨g,rows.length,cap,by rw [hv],_,h4,hb1.trans (hb2.mono (by omega))⟩
 ·rintro rb rn rcap i w1 hi ⟨S1,h1,hb1⟩;obtain ⟨b,had,hb,hc⟩:=hcellz (by omega);subst had;obtain ⟨z,hzi,e,_⟩:=hat i hi;obtain ⟨a1,a2⟩:=zm zs i z hzi;have hbE:b < E:=by omega
  show w1.rangeAt b (i*2) [.int .i64 (zs.getD i (0,0)).1,.int .i64 (zs.getD i (0,0)).2]
  rw [e];exact pL ((hb1.cell (p:=⟨b,_,none⟩) hbE).trans (hc _ _ a1)) ((hb1.cell (p:=⟨b,_,none⟩) hbE).trans (hc _ _ a2))
 ·rintro rb rn rcap i w1 hi ⟨S1,⟨R1,R2,h1,h2,_⟩,hb1⟩ w2 hb2;have htr:=(lW h2.2 hne).on hb2;have:=kZ w2 rows _ hs htr 0 i (by omega) (by omega);rw [hup] at this;exact this
 ·rintro rb rn rcap i w1 hi ⟨S1,⟨R1,R2,h1,h2,_⟩,hb1⟩ w2 hb2;obtain ⟨z,hzi,e,hz1,hz2⟩:=hat i hi;have htw:=tabs hb1 hb2;have hzw:=hb1.size;have hzw2:=hb2.size;unfold bG at hz1 hz2;show CP _ #[.agg #[.int .i64 (zs.getD i (0,0)).1,.int .i64 (zs.getD i (0,0)).2],_,_,_] w2 fun e w'=>e=.returned (.string ⟨(vO fi zs.length i (zs.getD i (0,0))).toArray⟩)/\_
  rw [e];refine og w2 z.1 z.2 _ _ _ (bJ z.1) (bJ z.2) _ _ _ (ij _ (by omega) (by omega)) (ij _ (by omega) (by omega)) ?_ ?_ ?_ ?_ ?_ ?_ ?_ ?_
  ·have:=bm [47,80,97,114,101,110,116] ((fi+1+zs.length+i / 8:Nat):Int) 7 (by simp) (by omega) (by omega);omega
  ·have:=bm [47,67,111,110,116,101,110,116,115] ((2*i+1:Nat):Int) 9 (by simp) (by omega) (by omega);omega
  ·have:=bm [47,70,49] (fi:Int) 3 (by simp) (by omega) (by omega);omega
  ·intro wx hg;exact mO E wx z.1 (by omega) (by omega) (by have:=Below.size hg;omega) (htw.on (YY hg (by omega)))
  ·intro wx hg;exact mO E wx z.2 (by omega) (by omega) (by have:=Below.size hg;omega) (htw.on (YY hg (by omega)))
  ·intro wx hg;exact dF E wx [47,80,97,114,101,110,116] _ (by simp) (by omega) (by omega) (htw.on (YY hg (by omega)))
  ·intro wx hg;exact dF E wx [47,67,111,110,116,101,110,116,115] _ (by simp) (by omega) (by omega) (htw.on (YY hg (by omega)))
  ·intro wx hg;exact dF E wx [47,70,49] _ (by simp) (by omega) (by omega) (htw.on (YY hg (by omega)))
 ·rintro rb rn rcap i w1 hi ⟨S1,h1,hb1⟩ w2 hb2;obtain ⟨z,hzi,e,_⟩:=hat i hi;have h2:=(ah.thing (ED.thing E E (fi:Int) 0 0 (nC::ed fi zs.length 0 (zs.take i))) (aW.thing E 229 3 (.slice rb rn rcap) rows.length (eF rows))).grow h1 hb2;have hbw2:Below E w w2:=hb1.trans (hb2.mono (by have:=hb1.size;omega));obtain ⟨S2,hE2,_,back⟩:=ah.fst (aW.thing _ _ _ _ _ _) h2;refine ⟨((fi+(nC::ed fi zs.length 0 (zs.take i)).length:Nat):Int),(adds 0 0 _ (vO fi zs.length i (zs.getD i (0,0))) w2 S2 (by simp only [ZX,dZ,Ze];omega) hE2 hbw2 w2 (ZT _ _)).mono ?_⟩;rintro e9 w3 ⟨rfl,S3,h3,hb3,m3⟩;obtain ⟨S4,h4,m4⟩:=back _ _ _ h3 m3;refine ⟨rfl,S4,?_,hb3⟩;have hil:i < zs.length:=hi;rw [Zv hil,pV,Ze,Yr (by omega),YF];have ez:zs[i]=zs.getD i (0,0):=by simp [hil]
  rw [ez];simpa using h4
 ·rintro rb rn rcap w1 ⟨S1,h1,hb1⟩;rw [Zy (ZW _)] at h1;have hz1:=hb1.size;rw [<-hrows] at h1;refine (qh w1 E E fi 0 0 _ S1 _ (fi+1) zs.length (by omega) (ht.on hb1) (by omega) hz (by omega) (by simp only [ZX,dZ];omega) h1).mono ?_;rintro e w2 ⟨rfl,S2,h2,m2⟩;refine ⟨?_,S2,?_,?_⟩
  ·simp only [ZX,dZ];unfold fJ;rw [hb1l];congr 2;omega
  ·rw [<-hrows];simpa [b_] using h2
  ·exact hb1.trans (m2.below (fun _ e=>(ah.thing (ED.thing _ _ _ _ _ _) (aW.thing _ _ _ _ _ _)).ge h1 e) (by omega))
 ·rintro rb rn rcap w1 ⟨S1,⟨R1,R2,h1,h2,_⟩,hb1⟩;obtain ⟨b,cap,hv,hc,hcm,_,hcell⟩:=lW h2.2 hne;rw [Yv] at hv hc;simp at hv;obtain ⟨rfl,rfl,rfl⟩:=hv;refine ⟨by omega,hc,hcm,?_⟩;have:=(hcell 0 (nS (rowAt rows 0)) (by rw [YR,dR (by omega)];rfl)).1;rw [hr0] at this;simpa [nS] using this
 ·rintro rb rn rcap w1 ⟨S1,⟨R1,R2,h1,h2,_⟩,hb1⟩ q;have hb1':Below E w (w1.drewN q):=cU hb1;have hz1:=hb1'.size;refine (pH (w1.drewN q) E E fi (fi+1) 0 0 (b_ fi zs) R1 adm capm ms (by omega) (ht.on hb1') (by omega) (by omega) (by omega) hm hms (hLm.on (hb1'.mono (by omega))) ?_ ((ED.thing _ _ _ _ _ _).drewN h1 q)).mono ?_
  ·intro hm0 b hb;obtain ⟨_,_,hv,_,_,hc⟩:=hLm;simp at hv;obtain ⟨rfl,rfl⟩:=hv;obtain ⟨b',hb',hlt,_⟩:=hc hm0;rw [hb] at hb';simp at hb';subst hb';omega
  ·rintro e w2 ⟨rfl,S2,h3,m3⟩;exact ⟨rfl,S2,h3,hb1'.trans (m3.below (fun _ e=>(ED.thing _ _ _ _ _ _).ge h1 e) (by omega))⟩
 ·rintro h0 w1 ⟨S1,h1,hb1⟩;have h0':ti.data.toList=[]:=by rw [<-Zm];exact h0
  refine ⟨S1,?_,hb1⟩;rw [fo,dG,ZN h0',ZN h0',YZ];exact h1
 ·rintro h0 w1 ⟨S1,h1,hb1⟩;exact jK w1 ti (by omega)
 ·rintro h0 w1 ⟨S1,h1,hb1⟩ w2 hb2;have h0':¬ ti.data.toList=[]:=by rw [<-Zm];exact h0
  refine (adds 0 0 _ (vx ti.data.toList) w1 S1 (by omega) h1 hb1 w2 hb2).mono ?_;rintro e w3 ⟨rfl,S3,h3,hb3,_⟩;refine ⟨?_,S3,?_,hb3⟩
  ·rw [fo,ZO h0']
  ·rw [dG,ZO h0'];exact h3
 ·rintro w1 ⟨S1,h1,hb1⟩;obtain ⟨c2,f2,S2,h2,m2⟩:=h1.setInfo (fo fi zs (ax ms) ti.data.toList:Nat);exact ⟨⟨_,c2⟩,f2,S2,h2,P0 h1 hb1 m2⟩
 ·rintro w1 ⟨S1,h1,hb1⟩ w2 hb2;exact lB E w2 _ (by omega) (by omega) (tabs hb1 hb2)
 ·rintro w1 ⟨S1,h1,hb1⟩ w2 hb2;exact dF E w2 [47,79,117,116,108,105,110,101,115] _ (by simp) (by omega) (by omega) (tabs hb1 hb2)
 ·rintro w1 ⟨S1,h1,hb1⟩ w2 hb2;refine (adds _ 0 _ (vu (fJ fi zs) (rI fi zs (ax ms))) w1 S1 (by omega) h1 hb1 w2 hb2).mono ?_;rintro e w3 ⟨rfl,S3,h3,hb3,_⟩;exact ⟨rfl,S3,h3,hb3⟩
 ·rintro w1 ⟨S1,h1,hb1⟩;obtain ⟨c2,f2,S2,h2,m2⟩:=h1.setCat (l7 fi zs (ax ms) ti.data.toList:Nat);exact ⟨⟨_,c2⟩,f2,rfl,P0 h1 hb1 m2,S2,h2⟩
theorem oH (p:Nat) (hp:p<=80):∀ (ups:List (Nat×Nat×Nat)) (b0:Nat×Nat×Nat),(∀ r∈b0::ups,r.1<=2000/\r.2.1<=80/\r.2.2<=512)->∀ b∈dJ p b0 ups,b.length<=2000:=by
 intro ups;induction ups with
 | nil=>intro b0 _ b hb;simp [dJ] at hb
 | cons r rest ih=>
  intro b0 h b hb;rw [dJ,Zu] at hb;rcases hb with hb | hb
  ·obtain ⟨i,hi,rfl⟩:=YA.1 hb;rw [Yw] at hi;have h0:=h b0 (by simp);have h1:=h r (by simp);have hu:rR rest i<=3000:=by
    cases rest with
    | nil=>simp [rR]
    | cons q l=>have:=(h q (by simp)).1;simp only [rR];omega
   have l1:=bm [47,80,97,114,101,110,116] ((rR rest i:Nat):Int) 7 (by simp) (by omega) (by omega);have l2:=oR b0.1 b0.2.1 i (by omega) (by omega);have h3:=jR p r.2.2 i hp h1.2.2 (by omega);have l3:=ar (bV p r.2.2 i) (by omega) (by omega);simp only [jN,ZY,ZX,ZR];omega
  ·exact ih r (fun q hq=>h q (by rcases Zk.1 hq with rfl | hq <;> simp [*])) b hb
theorem pP (p f:Nat) (hf:f<=1000) (hp:p<=80):∀ b∈bS p f p 1,b.length<=2000:=by
 rw [<-mj];exact oH p hp _ _ (iO f p hf hp).mem
theorem jv (font p:Nat) (hf:font<=1000) (hp:p<=80):∀ (zs:List (Int×Int)) (i:Nat),i+zs.length<=80->(∀ z∈zs,bG z.1 1 14400000/\bG z.2 1 14400000)->∀ b∈ed font p i zs,b.length<=2000
 | [],_,_,_,b,hb=>by simp [ed] at hb
 | z::l,i,hi,hz,b,hb=>by
  simp only [ZX] at hi;rcases Zk.1 hb with rfl | hb
  ·obtain ⟨h1,h2⟩:=hz z (by simp);unfold bG at h1 h2;have l1:=ij z.1 (by omega) (by omega);have l2:=ij z.2 (by omega) (by omega);have l3:=bm [47,80,97,114,101,110,116] ((font+1+p+i / 8:Nat):Int) 7 (by simp) (by omega) (by omega);have l4:=bm [47,67,111,110,116,101,110,116,115] ((2*i+1:Nat):Int) 9 (by simp) (by omega) (by omega);have l5:=bm [47,70,49] (font:Int) 3 (by simp) (by omega) (by omega);simp only [vO,pn,ZY,ZX,ZR];omega
  ·exact jv font p hf hp l (i+1) (by omega) (fun y hy=>hz y (by simp [hy])) b hb
theorem iv (all m fp:Nat) (ha:all<=10000) (hf:fp<=10000):∀ (l:List (List UInt8×Nat)) (i:Nat),i+l.length<=100->(∀ x∈l,x.1.length<=100/\x.2<=80)->∀ b∈bK all m fp i l,b.length<=2000
 | [],_,_,_,b,hb=>by simp [bK] at hb
 | x::l,i,hi,hz,b,hb=>by
  simp only [ZX] at hi;rcases Zk.1 hb with rfl | hb
  ·obtain ⟨h1,h2⟩:=hz x (by simp);have l1:=gX x.1;have l2:=bm [47,80,97,114,101,110,116] (all:Int) 7 (by simp) (by omega) (by omega);have l3:=bm [47,80,114,101,118] (if i=0 then 0 else ((all+i:Nat):Int)) 5 (by simp) (by split <;> omega) (by split <;> omega);have l4:=bm [47,78,101,120,116] (if i+1=m then 0 else ((all+i+2:Nat):Int)) 5 (by simp) (by split <;> omega) (by split <;> omega);have l5:=dU (fp+x.2) (by omega);simp only [iK,ZY,ZX,ZR];omega
  ·exact iv all m fp ha hf l (i+1) (by omega) (fun y hy=>hz y (by simp [hy])) b hb
theorem qV (all m:Nat) (ha:all<=10000) (hm:m<=100):(f_ all m).length<=2000:=by
 have l2:=bm [47,70,105,114,115,116] ((all+1:Nat):Int) 6 (by simp) (by omega) (by omega);have l3:=bm [47,76,97,115,116] ((all+m:Nat):Int) 5 (by simp) (by omega) (by omega);have l4:=ar (m:Int) (by omega) (by omega);simp only [f_,ZY,ZX,ZR];omega
theorem fW (fi:Nat) (zs:List (Int×Int)) (ms:List (List UInt8×Nat)) (t:List UInt8) (hfi:fi<=500) (hz:zs.length<=80) (hzs:∀ z∈zs,bG z.1 1 14400000/\bG z.2 1 14400000) (ht:t.length<=100) (hm:ms.length<=20) (hms:∀ m∈ms,m.1.length<=100/\m.2<=80):(cI fi zs ms t).length<=310/\1<=(cI fi zs ms t).length/\(∀ b∈cI fi zs ms t,b.length<=2000)/\l7 fi zs ms t<=1000/\fo fi zs ms t<=1000:=by
 have hnl:=ib zs.length (fi+1) zs.length 1;have hb1l:(b_ fi zs).length=1+zs.length+(bS zs.length (fi+1) zs.length 1).length:=by
  simp only [b_,ZX,ZY,dZ];omega
 have hmkl:(dd (fi+(b_ fi zs).length) (fi+1) ms).length<=21:=by
  unfold dd;split
  ·simp
  ·simp only [ZX,dN];omega
 have hb2l:(eG fi zs ms).length<=300:=by
  simp only [eG,ZY];omega
 have hb3l:(dG fi zs ms t).length<=301:=by
  simp only [dG,ZY];split <;> simp <;> omega
 have hrootl:fJ fi zs<=1000:=by unfold fJ;omega
 have houtl:rI fi zs ms<=1000:=by unfold rI;split <;> omega
 refine ⟨by simp only [cI,ZY,ZX,ZR];omega,by simp only [cI,ZY,ZX,ZR];omega,?_,by unfold l7;omega,by unfold fo;split <;> omega⟩;intro b hb;simp only [cI,dG,eG,b_,Zu,Zk,YQ,or_false] at hb;rcases hb with (((rfl | hb | hb) | hb) | hb) | rfl
 ·simp [nC]
 ·exact jv fi zs.length (by omega) hz zs 0 (by omega) hzs b hb
 ·exact pP zs.length (fi+1) (by omega) hz b hb
 ·unfold dd at hb;split at hb
  ·simp at hb
  ·rcases Zk.1 hb with rfl | hb
   ·exact qV _ _ (by have:=hb1l;unfold b_ at this;omega) (by omega)
   ·refine iv _ ms.length (fi+1) (by have:=hb1l;unfold b_ at this;omega) (by omega) ms 0 (by omega) hms b hb
 ·split at hb
  ·simp at hb
  ·simp at hb;subst hb;have:=gX t;simp only [vx,ZY,ZX,ZR];omega
 ·have l1:=dU (fJ fi zs) (by omega);have l2:=bm [47,79,117,116,108,105,110,101,115] (rI fi zs ms:Int) 9 (by simp) (by omega) (by omega);simp only [vu,ZY,ZX,ZR];omega
theorem fK:∀ (l:List (List UInt8)) (n:Nat),n+l.length<=100000->(∀ b∈l,b.length<=2000)->(aF n l).length<=2040*l.length
 | [],_,_,_=>by simp [aF]
 | b::l,n,hn,h=>by
  simp only [ZX] at hn;have h1:=eK n (by omega);have h2:=h b (by simp);have h3:=fK l (n+1) (by omega) (fun y hy=>h y (by simp [hy]));simp only [aF,aK,eh,ZY,ZX,ZR];omega
theorem iT:∀ (l:List (List UInt8)) (a n:Nat),∀ x∈aO a n l,x<=a+(aF n l).length
 | [],_,_,x,h=>by simp [aO] at h
 | b::l,a,n,x,h=>by
  rcases Zk.1 h with rfl | h
  ·omega
  ·have:=iT l _ _ x h;simp only [aF,ZY];omega
theorem jk:∀ (l:List (List UInt8)) (a i:Nat),∀ x∈be a i l,x<=a+(bW i l).length
 | [],_,_,x,h=>by simp [be] at h
 | Z::l,a,i,x,h=>by
  rw [be,Zu] at h;rcases h with h | h
  ·simp only [sF,Zk,YQ,or_false] at h;rcases h with rfl | rfl
   ·omega
   ·simp only [bW,d_,ZY];omega
  ·have:=jk l _ _ x h;simp only [bW,ZY];omega
def zG (B E:Nat) (vb:Value) (first info cat:Int) (bodies:List (List UInt8)):As:=ah (aS B E [.int .i64 first,vb,.int .i64 info,.int .i64 cat]) (aW B 9 1 vb bodies.length (gl bodies))
theorem zG.thing (B E:Nat) (vb:Value) (first info cat:Int) (bodies:List (List UInt8)):aJ B (zG B E vb first info cat bodies):=ah.thing (aS.thing _ _ _) (aW.thing _ _ _ _ _ _)
theorem ED.named {B B' E:Nat} {first info cat:Int} {bodies:List (List UInt8)} {w:World} {S:Bl} (h:ED B' E first info cat bodies w S) (hB:B<=B') (hb:0 < bodies.length):∃ g cap,bodies.length<=cap/\cap<=9223372036854775807/\zG B E (.slice (zp g) bodies.length cap) first info cat bodies w S:=by
 obtain ⟨vb,S1,S2,h1,h2,ho,hS⟩:=h;obtain ⟨g,cap,rfl,hc,hc2,_⟩:=iF h2.2 hb;exact ⟨g,cap,hc,hc2,S1,S2,⟨h1.1,by have:=h1.2.1;omega,h1.2.2⟩,⟨h2.1,World.ownsRow.mono h2.2 hB⟩,ho,hS⟩
theorem zG.read {B E g cap:Nat} {first info cat:Int} {bodies:List (List UInt8)} {w:World} {S:Bl} (h:zG B E (.slice g bodies.length cap) first info cat bodies w S):E < w.heap.size/\w.cell? (zq E 1)=some (.slice g bodies.length cap)/\w.cell? (zq E 2)=info/\w.cell? (zq E 3)=cat/\∀ i b,bodies[i]? =some b->w.cell? (zq g i)=some (.string ⟨b.toArray⟩):=by
 obtain ⟨S1,S2,h1,h2,_⟩:=h;refine ⟨h1.2.2.1,h1.at 1 _ rfl,h1.at 2 _ rfl,h1.at 3 _ rfl,fun i b hb=>?_⟩;have:=h2.2.cells (g:=g) rfl i (.string ⟨b.toArray⟩) (by simp [gl,hb]);have hadd:(⟨g,0,none⟩:Addr).add i=⟨g,i,none⟩:=by unfold Addr.add;split <;> simp_all
 rwa [hadd] at this
theorem fB.turned {ad:Option Addr} {n cap:Nat} {xs:List Value} {w w':World} {S S':Bl} (h:fB (.slice ad n cap) n xs w) (m:Mv S w S' w') (ho:0 < n->∀ b,ad=some ⟨b,0,none⟩->¬ S b):fB (.slice ad n cap) n xs w':=by
 obtain ⟨ad',cap',hv,h1,h2,h3⟩:=h;simp at hv;obtain ⟨rfl,rfl⟩:=hv;refine ⟨ad,cap,rfl,h1,h2,fun hn=>?_⟩;obtain ⟨b,rfl,hb,hc⟩:=h3 hn;exact ⟨b,rfl,ZK hb m.size,fun i x hx=>(ZQ (a:=zq b i) (m.keep hb (ho hn b rfl))).trans (hc i x hx)⟩
theorem aX.rows {K:World->Bl->List UInt8->Prop} {B Fb C:Nat} {ty:TypeId} {q:Value} {begins:List Nat} {sizes:List (Int×Int)} {X:List UInt8} {w:World} {S:Bl} (h:aX K B Fb C ty q begins sizes X w S):∃ vb vz,w.cell? (zq Fb 1)=some vb/\w.cell? (zq Fb 2)=some vz/\fB vb begins.length (o0 begins) w/\fB vz sizes.length (rN sizes) w:=by
 obtain ⟨_,_,⟨vb,vz,S1,S2,h1,⟨S3,S4,h3,h4,_⟩,_⟩,_⟩:=h;exact ⟨vb,vz,h1.at 1 _ rfl,h1.at 2 _ rfl,h3.lies,h4.lies⟩
theorem Ae (l:List Nat) (i x:Nat) (h:l[i]? =some x):(o0 l)[i]? =some (.int .i64 (x:Int)):=by simp [o0,h]
theorem zt (n:Wn) (hlim:n.lim < 0) (w:World) (S:Bl) (xs:List iB) (X:List UInt8) (ti:ByteArray) (ms:List (ByteArray×Nat)) (adm:Option Addr) (capm:Nat) (hx:∀ x∈xs,kx x) (hX:(X=[]/\xs=[])\/X=aC (aA xs)) (hxl:xs.length<=80) (hti:ti.size<=100) (hm:ms.length<=20) (hms:∀ m∈ms,m.1.size<=100/\m.2<=80) (hB:n.B<=w.heap.size) (ht:bU n.B w)
  (hLm:fB (.slice adm ms.length capm) ms.length (iz ms) w) (hoff:0 < ms.length->∀ b,adm=some ⟨b,0,none⟩->¬ S b) (h:aX n.K n.B n.Fb n.C 89 n.sk (be 9 0 (aA xs)) (aQ xs) X w S):
  CP 95 #[zp n.Fb,ti,.slice adm ms.length capm] w fun e w'=>e=.returned .nilIface/\∃ bg S',aX n.K n.B n.Fb n.C 89 n.sk bg (aQ xs) (fO (aA xs) (aQ xs) (ax ms) ti.data.toList) w' S'/\Mv S w S' w':=by
 have hd:=n.down hlim;have hzl:(aA xs).length=xs.length:=by simp [aA]
 have hsl:(aQ xs).length=xs.length:=by simp [aQ]
 have hup:=cN hx hxl;have hbeg:=fX hX;have hXl:X.length<=100000000:=by
  have h2:(X++eW X).length<=100000000:=by rw [hbeg];exact hup
  simp at h2;omega
 have hzs:∀ z∈aQ xs,bG z.1 1 14400000/\bG z.2 1 14400000:=by
  intro z hz;simp only [aQ,YA,Yk] at hz;obtain ⟨x,hxm,rfl⟩:=hz;exact ⟨(hx x hxm).2.2.2.2.1,(hx x hxm).2.2.2.2.2⟩
 have hfont:cK (aA xs)=2*xs.length+1:=by rw [cK,hzl]
 have hms2:∀ m∈ax ms,m.1.length<=100/\m.2<=80:=by
  intro m hmm;simp only [ax,YA] at hmm;obtain ⟨y,hy,rfl⟩:=hmm;have:=hms y hy;exact ⟨by show y.1.data.toList.length<=100;rw [aP];omega,this.2⟩
 obtain ⟨hbl,hbl1,hbs,hcat,hinfo⟩:=fW (cK (aA xs)) (aQ xs) (ax ms) ti.data.toList (by omega) (by omega) hzs (by rw [aP];omega) (by simp [ax];omega) hms2;have hcbl:(be 9 0 (aA xs)).length=2*xs.length:=by rw [dy,hzl]
 have hfile:fO (aA xs) (aQ xs) (ax ms) ti.data.toList=aC (aA xs)++xS (aA xs) (aQ xs) (ax ms) ti.data.toList:=rfl;have hend:xS (aA xs) (aQ xs) (ax ms) ti.data.toList=dv (aA xs) (aQ xs) (ax ms) ti.data.toList++iE (eH (aA xs) (aQ xs) (ax ms) ti.data.toList) (l7 (cK (aA xs)) (aQ xs) (ax ms) ti.data.toList) (fo (cK (aA xs)) (aQ xs) (ax ms) ti.data.toList) ((aC (aA xs)).length+(dv (aA xs) (aQ xs) (ax ms) ti.data.toList).length):=rfl;have hobj:dv (aA xs) (aQ xs) (ax ms) ti.data.toList=aF (cK (aA xs)) (cI (cK (aA xs)) (aQ xs) (ax ms) ti.data.toList):=rfl;have hbgs:eH (aA xs) (aQ xs) (ax ms) ti.data.toList=be 9 0 (aA xs)++aO (aC (aA xs)).length (cK (aA xs)) (cI (cK (aA xs)) (aQ xs) (ax ms) ti.data.toList):=rfl;obtain ⟨fi,hfi⟩:∃ fi,cK (aA xs)=fi:=⟨_,rfl⟩;rw [hfi] at hbl hbl1 hbs hcat hinfo hend hobj hbgs hfont;have HEN:∀ wx,n.B<=wx.heap.size->bU n.B wx->∀ adz capz,fB (.slice adz (aQ xs).length capz) (aQ xs).length (rN (aQ xs)) wx->fB (.slice adm ms.length capm) ms.length (iz ms) wx->_:=fun wx h1 h2 adz capz h3 h4=>pX wx n.B fi (aQ xs) ti ms adz adm capz capm h1 h2 (by omega) (by omega) hzs hti hm hms h3 h4
 obtain ⟨bod,hbod⟩:∃ b,cI fi (aQ xs) (ax ms) ti.data.toList=b:=⟨_,rfl⟩;obtain ⟨cat,hcat2⟩:∃ b,l7 fi (aQ xs) (ax ms) ti.data.toList=b:=⟨_,rfl⟩;obtain ⟨inf,hinf2⟩:∃ b,fo fi (aQ xs) (ax ms) ti.data.toList=b:=⟨_,rfl⟩;simp only [hbod,hcat2,hinf2] at hbl hbl1 hbs hcat hinfo hend hobj hbgs HEN;obtain ⟨U,hU⟩:∃ U,aC (aA xs)=U:=⟨_,rfl⟩;rw [hU] at hup hbeg hfile hend hbgs;obtain ⟨cb9,hcb9⟩:∃ c,be 9 0 (aA xs)=c:=⟨_,rfl⟩;have hcble:∀ x∈cb9,x<=U.length:=by
  intro x hxm;rw [<-hcb9] at hxm;have:=jk _ _ _ x hxm;rw [<-hU,aC,bi,ZY];simpa using this
 rw [hcb9] at hcbl hbgs h;have hobs:=fK bod fi (by omega) hbs;rw [hfile,hend,hobj,hbgs];clear hfile hend hobj hbgs hbod hcat2 hinf2 hcb9 hfi hX hx hms2;have hT:∀ bg Y,aJ n.B (aX n.K n.B n.Fb n.C 89 n.sk bg (aQ xs) Y):=fun bg Y=>aX.thing (jp.thing _ _ _) _ _ _ _ _ _ _
 have tb:∀ {S1 w1},Mv S w S1 w1->Below n.B w w1:=fun m=>m.below (fun _ e=>(hT _ _).ge h e) hB
 have hol:∀ i,(aF fi (bod.take i)).length<=2040*310:=fun i=>by
  have:=fK (bod.take i) fi (by rw [Ze];omega) (fun b hb=>hbs b (List.mem_of_mem_take hb));rw [Ze] at this;omega
 have hxl2:(U++aF fi bod).length<=101000000:=by
  rw [ZY];omega
 have hbgl:(cb9++aO U.length fi bod).length=2*xs.length+bod.length:=by rw [ZY,gD,hcbl]
 have hrows:(bR (cb9++aO U.length fi bod)).length<=20*(cb9++aO U.length fi bod).length:=by
  have gen:∀ l:List Nat,(∀ x∈l,x<=4000000000)->(bR l).length<=20*l.length:=by
   intro l;induction l with
   | nil=>intro _;simp [bR]
   | cons a r ih=>
    intro h;have h1:=ih (fun x hx=>h x (by simp [hx]));have h2:=jr a (by have:=h a (by simp);omega);simp only [bR,ux,ZY,ZX,ZR];omega
  refine gen _ fun x hx=>?_
  rcases Zu.1 hx with hx | hx
  ·have:=hcble x hx;omega
  ·have:=iT _ _ _ x hx;omega
 have l5:(fu (cb9++aO U.length fi bod)).length<=30000:=by
  have h9:=ar ((2*xs.length+bod.length+1:Nat):Int) (by omega) (by omega);rw [hbgl] at hrows;unfold fu;rw [hbgl];simp only [ZY,ZX,ZR];omega
 refine wW w n.Fb (2*xs.length) (2*xs.length+bod.length) (aQ xs).length ms.length capm bod.length n.C (U++aF fi bod).length adm ti (fun i=>bod.getD i []) (fu (cb9++aO U.length fi bod)) (iL (2*xs.length+bod.length+1) cat inf) (Lib.itoa ((U++aF fi bod).length:Int))
  (fun w1=>∃ S1,aX n.K n.B n.Fb n.C 89 n.sk cb9 (aQ xs) U w1 S1/\Mv S w S1 w1)
  (fun Eb eb cb i w1=>∃ S1,ah (zG n.B Eb (.slice (zp eb) bod.length cb) (fi:Int) (inf:Int) (cat:Int) bod) (aX n.K n.B n.Fb n.C 89 n.sk (cb9++aO U.length fi (bod.take i)) (aQ xs) (U++aF fi (bod.take i))) w1 S1/\Mv S w S1 w1)
  _ (by omega) (by omega) (by omega) (by omega) ?_ ?_ ?_ ?_ ?_ ?_ ?_ ?_ ?_ ?_ ?_ ?_ ?_ ?_
 ·exact l5
 ·have l1:=ar ((2*xs.length+bod.length+1:Nat):Int) (by omega) (by omega);have l2:=bm [47,82,111,111,116] (cat:Int) 5 (by simp) (by omega) (by omega);have l3:=bm [47,73,110,102,111] (inf:Int) 5 (by simp) (by omega) (by omega);simp only [iL,ZY,ZX,ZR];omega
 ·have:=ar ((U++aF fi bod).length:Int) (by omega) (by omega);omega
 ·refine (jj hd (ZW _) w S n.Fb n.C _ _ X h (by omega)).mono ?_;rintro e w' (⟨_,rfl,S',hf',m⟩ | ⟨hno,_⟩)
  ·rw [hbeg] at hf';exact ⟨rfl,S',hf',m⟩
  ·exact absurd trivial hno
 ·rintro w1 ⟨S1,h1,m1⟩;obtain ⟨a1,k1,a2,k2,c0,c1,c2,_,_,hFb,_⟩:=aX.facts h1;rw [hcbl] at c1;exact ⟨hFb,a2,k2,c2,a1,k1,c1⟩
 ·rintro w1 ⟨S1,h1,m1⟩ adz cz hcz wx hbx;obtain ⟨vb,vz,_,c2,_,hLz⟩:=aX.rows h1;rw [hcz] at c2;have ev:=YI c2;rw [<-ev] at hLz;have hbw:=tb m1;have hz1:=hbw.size;have hz2:=hbx.size;rw [show 2*xs.length+1=fi from hfont.symm];refine (HEN wx (by omega) (ht.on (hbw.trans (hbx.mono (by omega)))) adz cz (hLz.on hbx) ((hLm.turned m1 hoff).on hbx)).mono ?_;rintro e w2 ⟨rfl,hb2,S2,h2⟩;obtain ⟨g,cap,hc1,hc2,h3⟩:=h2.named (B:=n.B) (by omega) (by omega);have hge:∀ k,S2 k->wx.heap.size<=k:=fun k hk=>(ED.thing wx.heap.size wx.heap.size _ _ _ _).ge h2 hk
  obtain ⟨h4,m4⟩:=ah.new (hT _ _) ((hT _ _).grow h1 hbx) h3 hb2 hge;refine ⟨_,g,cap,rfl,hc1,hc2,_,?_,(m1.trans (Mv.grow hbx _)).trans m4⟩;simpa [aO,aF] using h4
 ·rintro Eb eb cb w1 ⟨S1,⟨R1,R2,h1,_⟩,_⟩;exact h1.read.2.1
 ·rintro Eb eb cb i w1 hi ⟨S1,⟨R1,R2,h1,_⟩,_⟩;refine h1.read.2.2.2.2 i _ ?_;rw [ZJ,ZM hi];rfl
 ·rintro Eb eb cb i w1 hi ⟨S1,h1,m1⟩;have hbw:=tb m1;have hz1:=hbw.size;obtain ⟨R1,hF,_,back⟩:=ah.snd (zG.thing _ _ _ _ _ _ _) h1;have ei:bod.getD i []=bod[i]:=by simp [hi]
  have hbi:=hbs _ (Yp hi);have hlt:(bod.take i).length=i:=by rw [Ze];omega
  have hln:(cb9++aO U.length fi (bod.take i)).length+1=fi+i:=by rw [ZY,gD,hcbl,hlt];omega
  have hO:=mD hd (ZW _) w1 R1 n.Fb n.C _ _ _ ⟨(bod[i]).toArray⟩ hF (by omega) (ht.on hbw) (by omega) (by
   have:=hol i;rw [ZY,ae];omega)
  rw [hln] at hO;show CP _ #[_,.string ⟨(bod.getD i []).toArray⟩] w1 _
  rw [ei];refine hO.mono ?_;rintro e w' (⟨_,rfl,S',hf',m⟩ | ⟨hno,_⟩)
  ·obtain ⟨S2,h2,m2⟩:=back _ _ _ hf' m;refine ⟨rfl,S2,?_,m1.trans m2⟩;rw [Zv hi,fj,il,hlt];have e1:(U++aF fi (bod.take i)).length=U.length+(aF fi (bod.take i)).length:=ZY;rw [e1] at h2;simpa [ZS] using h2
  ·exact absurd trivial hno
 ·rintro Eb eb cb w1 ⟨S1,h1,m1⟩;rw [Zy (ZW _)] at h1;obtain ⟨R1,R2,_,h2,_⟩:=h1;obtain ⟨a1,k1,a2,k2,c0,c1,c2,_,cc,hFb,_⟩:=aX.facts h2;rw [hbgl] at c1;exact ⟨hFb,c0,cc,a1,k1,c1⟩
 ·rintro Eb eb cb w1 ⟨S1,h1,m1⟩ wx hbx;have hbw:=tb m1;exact bp n.B wx _ (by omega) (by omega) (ht.on (hbw.trans (hbx.mono (by have:=hbw.size;omega))))
 ·rintro Eb eb cb w1 ⟨S1,h1,m1⟩ wx hbx;have hbw:=tb m1;have hz1:=hbw.size;have hz2:=hbx.size;rw [Zy (ZW _)] at h1;obtain ⟨R1,R2,_,h2,_⟩:=h1;obtain ⟨_,_,_,_,_,_,_,_,_,hFb,_⟩:=aX.facts h2;obtain ⟨vb,vz,c1,_,hLb,_⟩:=aX.rows h2;obtain ⟨ad,cap,rfl,hc1,hc2,hcell⟩:=hLb;obtain ⟨b,rfl,hb,hcell⟩:=hcell (by rw [hbgl];omega);refine tL wx n.B n.Fb b _ cap _ rfl (by omega) (by omega) hc1 hc2 ?_ (by omega) (by omega) (by omega) (ht.on (hbw.trans (hbx.mono (by omega)))) ((hbx.cell (p:=zq n.Fb 1) hFb).trans c1) (fun i x hx=>(hbx.cell (p:=zq b i) hb).trans (hcell _ _ (Ae _ i x hx)));intro x hx;rcases Zu.1 hx with hx | hx
  ·have:=hcble x hx;omega
  ·have:=iT _ _ _ x hx;omega
 ·rintro Eb eb cb w1 ⟨S1,⟨R1,R2,h1,_⟩,m1⟩ wx hbx;have hbw:=tb m1;have hz1:=hbw.size;have hz2:=hbx.size;obtain ⟨hE,_,c2,c3,_⟩:=h1.read;have htx:∀ wy,af wx wy->bU n.B wy:=fun wy hg=>ht.on ((hbw.trans (hbx.mono (by omega))).trans (YY hg (by omega)))
  have l1:=ar ((2*xs.length+bod.length+1:Nat):Int) (by omega) (by omega);have l2:=bm [47,82,111,111,116] (cat:Int) 5 (by simp) (by omega) (by omega);have l3:=bm [47,73,110,102,111] (inf:Int) 5 (by simp) (by omega) (by omega);exact pY wx Eb _ (inf:Int) (cat:Int) _ _ _ (by omega) (by omega) (by omega) (by omega) ((hbx.cell (p:=zq Eb 2) hE).trans c2) ((hbx.cell (p:=zq Eb 3) hE).trans c3) (fun wy hg=>bp n.B wy _ (by omega) (by omega) (htx wy hg)) (fun wy hg=>dF n.B wy [47,82,111,111,116] _ (by simp) (by omega) (by omega) (htx wy hg)) (fun wy hg=>dF n.B wy [47,73,110,102,111] _ (by simp) (by omega) (by omega) (htx wy hg))
 ·rintro Eb eb cb w1 ⟨S1,h1,m1⟩ wx hbx;rw [Zy (ZW _)] at h1;have h2:=(ah.thing (zG.thing _ _ _ _ _ _ _) (hT _ _)).grow h1 hbx;obtain ⟨R1,hF,_,back⟩:=ah.snd (zG.thing _ _ _ _ _ _ _) h2;have l1:=ar ((2*xs.length+bod.length+1:Nat):Int) (by omega) (by omega);have l2:=bm [47,82,111,111,116] (cat:Int) 5 (by simp) (by omega) (by omega);have l3:=bm [47,73,110,102,111] (inf:Int) 5 (by simp) (by omega) (by omega);have l4:=ar ((U.length+(aF fi bod).length:Nat):Int) (by omega) (by omega);have l6:(iL (2*xs.length+bod.length+1) cat inf).length<=1000:=by
   simp only [iL,ZY,ZX,ZR];omega
  refine (aX.write hd (ZW _) hF _ (by rw [ae];simp only [ZY,ZX,ZR] at hxl2 ⊢;omega)).mono ?_;rintro e w' (⟨_,rfl,S',hf',m⟩ | ⟨hno,_⟩)
  ·obtain ⟨S2,h3,m3⟩:=back _ _ _ hf' m;obtain ⟨R3,R4,_,h4,_,hS2⟩:=h3;refine ⟨rfl,rfl,cb9++aO U.length fi bod,R4,?_,((m1.trans (Mv.grow hbx _)).trans m3).trans ⟨Fr.refl _ _,fun k hk=>.inl (by rw [hS2];exact .inr hk)⟩⟩;have e9:U++(aF fi bod++iE (cb9++aO U.length fi bod) cat inf (U.length+(aF fi bod).length))=U++aF fi bod++(fu (cb9++aO U.length fi bod)++iL (2*xs.length+bod.length+1) cat inf++[115,116,97,114,116,120,114,101,102,10]++Lib.itoa ((U++aF fi bod).length:Int)++[10,37,37,69,79,70,10]):=by
    rw [iE,hbgl,ZY,ZS U]
   rw [e9];simpa using h4
  ·exact absurd trivial hno
structure ko (B:Nat) (K D:World->Bl->List UInt8->Prop) (ok:List UInt8->Prop) (M:Nat) (ty:TypeId) (q q':Value) (f:FuncId) (et:TypeId) (ev:Value):Prop where
 thing:∀ X,aJ B (fun w S=>K w S X)
 hn:∀ wx,(nilAhead 465 ty q "Write").run prog wx=.ok (some false) wx
 hm:∀ wx,(method 465 ty q "Write").run prog wx=.ok (f,q') wx
 he:∀ args wx,(callFunc f args).run prog wx=.ok (.enter f args) wx
 okp:∀ X Y,ok (X++Y)->ok X
 kok:∀ {w S X},K w S X->ok X
 write:∀ w S X (s:ByteArray),K w S X->X.length+s.size<=M->ok (X++s.data.toList)->CP f #[q',s] w (aU D ok et ev S w X s.data.toList (fun w' S'=>K w' S' (X++s.data.toList)))
section
variable {K D:World->Bl->List UInt8->Prop} {ok:List UInt8->Prop} {B M:Nat} {ty:TypeId} {q q':Value} {f:FuncId} {et:TypeId} {ev:Value}
theorem ko.count (d:ko B K D ok M ty q q' f et ev) (hMx:M<=2000000000) (C n0:Nat):ko B (CK K B C n0 ty q) D ok M 162 (zp C) (zp C) 128 et ev where
 thing:=CK.thing d.thing C n0 ty q
 hn:=xQ C
 hm:=uz C
 he:=yE
 okp:=d.okp
 kok:=by
  rintro w S X ⟨R,hK,_⟩;exact d.kok hK
 write:=by
  rintro w S X s ⟨R,hK,rfl,hB,hn,hC,h0,c0,c1,fz⟩ hX hok0;have hK1:K (w.setCell (zq C 1) (((X.length - n0:Nat):Int)+(s.size:Int):Int)) R X:=(d.thing X).keep hK (fun k hr=>YX _ _ _ _ (by intro e;have e':k=C:=e;exact hn (e' ▸ hr))) (by simp [World.setCell]);have hfr:Fr (fun k=>k=C) w (w.setCell (zq C 1) (((X.length - n0:Nat):Int)+(s.size:Int):Int)):=⟨rfl,rfl,rfl,by simp [World.setCell],fun k _ hb=>YX _ _ _ _ hb⟩;have hsz:(w.setCell (zq C 1) (((X.length - n0:Nat):Int)+(s.size:Int):Int)).heap.size=w.heap.size:=by simp [World.setCell]
  have hM1:Mv (cT (cC C) R) w (cT (cC C) R) (w.setCell (zq C 1) (((X.length - n0:Nat):Int)+(s.size:Int):Int)):=⟨hfr.mono (fun k e=>.inl e),fun _ h=>.inl h⟩;refine mG ty q q' f d.hn d.hm d.he w C (X.length - n0) s _ c0 c1 (fz 1) (by omega) (by omega) ((d.write _ R X s hK1 hX hok0).mono ?_);intro e w' hS;obtain ⟨v,rfl⟩:=hS.val;refine ⟨v,rfl,?_⟩;rcases hS with ⟨hok,e,R',hK',hm⟩ | ⟨hok,e,R',Y,hD,h1,h2,hm⟩
  ·have hCR:¬ R' C:=fun hr=>(hm.new C hr).elim hn (fun e=>by omega)
   have hblk:=hm.keep (k:=C) (by omega) hn;refine .inl ⟨hok,e,cT (cC C) R',⟨R',hK',rfl,hB,hCR,by have:=hm.size;omega,by rw [ZY];omega,?_,?_,?_⟩,hM1.trans (hm.mono (fun k e=>.inr e) (fun k e=>e.elim (fun e=>.inr (.inl e)) .inl))⟩
   ·rw [ZQ (a:=C) hblk,ZV _ _ _ _ (by simp)];exact c0
   ·rw [ZQ (a:=zq C 1) hblk,ZC _ _ _ c1,ZY,aP s];congr 2;omega
   ·intro o;rw [ZH (a:=zq C o) hblk,ZL];exact fz o
  ·exact .inr ⟨hok,e,R',Y,hD,h1,h2,hM1.trans (hm.mono (fun k e=>.inr e) (fun k e=>.inl e))⟩
theorem pF (d:ko B K D ok M ty q q' f et ev) (hM:M<=2000000000) (w:World) (S:Bl) (Fb C:Nat) (begins:List Nat) (sizes:List (Int×Int)) (X:List UInt8) (h:aX K B Fb C ty q begins sizes X w S) (hB:B<=w.heap.size) (ht:bU B w) (hl:begins.length<=1000000) (hX:X.length+100<=M) (hok0:ok (X++aL (begins.length+1))):
  CP 182 #[zp Fb] w (aU D ok et ev S w X (aL (begins.length+1)) (fun w' S'=>aX K B Fb C ty q (begins++[X.length]) sizes (X++aL (begins.length+1)) w' S')):=by
 have hTF:=aX.thing d.thing Fb C ty q begins sizes X;have hbel:∀ {S' w'},Mv S w S' w'->Below B w w':=fun m=>m.below (fun k e=>hTF.ge h e) hB
 obtain ⟨S1,hF,_,kF⟩:=h.fst (CK.thing d.thing C 0 ty q X);obtain ⟨S2,hC,_,_⟩:=h.snd (FB.thing B Fb C begins sizes);have hcnt:=hC.count;obtain ⟨a1,k1,a2,k2,c0,c1,c2,fz⟩:=hF.read;obtain ⟨vb,cb,ow,ne,kb⟩:=hF.begin X.length;have hFb:Fb < w.heap.size:=ZD w _ c0;rw [Nat.sub_zero] at hcnt;refine kS w Fb C X.length begins vb _ hB c0 cb fz hFb hcnt (by omega) hl ow ne ?_;intro w1 hg1 v' w' hg ho hat;obtain ⟨S1',hF',hm'⟩:=kb w1 hg1 v' w' hg ho hat;obtain ⟨S',hs',hm⟩:=kF _ _ _ hF' hm';have hB8:B<=(w'.setCell (zq Fb 1) v').heap.size:=ZU hB hm.size;refine ⟨ht.on (hbel hm),?_⟩;intro w8 hg8;have hs8:=(ah.thing (FB.thing B Fb C (begins++[X.length]) sizes) (CK.thing d.thing C 0 ty q X)).grow hs' hg8;obtain ⟨S8,hC8,hs88,k8⟩:=hs8.snd (FB.thing B Fb C (begins++[X.length]) sizes);have hw:=(d.count hM C 0).write w8 S8 X ⟨(aL (begins.length+1)).toArray⟩ hC8 (by
  have:=ar ((begins.length+1:Nat):Int) (by omega) (by omega);rw [ae,aL,ZY];simp only [ZX,ZR];omega) (by simpa using hok0)
 refine hw.mono ?_;intro e w9 hS;obtain ⟨v,rfl⟩:=hS.val;exact ⟨v,rfl,aU.pre (hm.trans (Mv.grow hg8 S')) (aU.lift hs88 (fun S9 c m9=>k8 _ w9 S9 c m9) hS)⟩
theorem aX.writeM (d:ko B K D ok M ty q q' f et ev) (hM:M<=2000000000) {w:World} {S:Bl} {Fb C:Nat} {begins:List Nat} {sizes:List (Int×Int)} {X:List UInt8} (h:aX K B Fb C ty q begins sizes X w S) (s:ByteArray) (hs:X.length+s.size<=M) (hok0:ok (X++s.data.toList)):
  CP 128 #[zp C,s] w (aU D ok et ev S w X s.data.toList (aX K B Fb C ty q begins sizes (X++s.data.toList))):=by
 obtain ⟨S8,hC8,hs88,k8⟩:=h.snd (FB.thing B Fb C begins sizes);refine ((d.count hM C 0).write w S8 X s hC8 hs hok0).mono ?_;intro e w9 hS;exact aU.lift hs88 (fun S9 c m9=>k8 _ w9 S9 c m9) hS
theorem aX.belM (d:ko B K D ok M ty q q' f et ev) {w w':World} {S S':Bl} {Fb C:Nat} {begins:List Nat} {sizes:List (Int×Int)} {X:List UInt8} (h:aX K B Fb C ty q begins sizes X w S) (hB:B<=w.heap.size) (m:Mv S w S' w'):Below B w w':=m.below (fun _ e=>(aX.thing d.thing Fb C ty q begins sizes X).ge h e) hB
theorem Ck (d:ko B K D ok M ty q q' f et ev) (hM:M<=2000000000) (w:World) (S:Bl) (Fb C:Nat) (begins:List Nat) (sizes:List (Int×Int)) (X:List UInt8) (body:ByteArray) (h:aX K B Fb C ty q begins sizes X w S) (hB:B<=w.heap.size) (ht:bU B w) (hl:begins.length<=1000000) (hX:X.length+body.size+200<=M) (hok0:ok (X++aK (begins.length+1) body.data.toList)):
  CP 139 #[zp Fb,body] w (aU D ok et ev S w X (aK (begins.length+1) body.data.toList) (aX K B Fb C ty q (begins++[X.length]) sizes (X++aK (begins.length+1) body.data.toList))):=by
 have hobl:(aL (begins.length+1)).length<=28:=by
  have:=ar ((begins.length+1:Nat):Int) (by omega) (by omega);unfold aL;rw [ZY];simp only [ZX,ZR];omega
 unfold aK at hok0 ⊢;have hok1:ok (X++aL (begins.length+1)):=d.okp _ (body.data.toList++eh) (by rw [ZS];exact hok0);obtain ⟨ob1,hob⟩:∃ o,o=aL (begins.length+1):=⟨_,rfl⟩;have HBO:=ai (pF d hM w S Fb C begins sizes X h hB ht hl (by omega) hok1);rw [<-hob] at HBO hobl hok0 ⊢;obtain ⟨bg,hbg⟩:∃ bg,bg=begins++[X.length]:=⟨_,rfl⟩;rw [<-hbg] at HBO ⊢;clear hob hbg;have hbs:body.size<=2000000000:=by omega
 have HE:Hid ((body++⟨#[10,101,110,100,111,98,106,10]⟩:ByteArray).data.toList=body.data.toList++eh):=by show _=_;rw [ByteArray.data_append];simp [eh]
 have hes:(body++⟨#[10,101,110,100,111,98,106,10]⟩:ByteArray).size=body.size+8:=by rw [ByteArray.size_append];rfl
 go_enter func139,ntmps139
 go_wp2_with fail
 refine HBO.out.mono ?_;rintro e w1 (⟨hok,rfl,S1,h1,m1⟩ | ⟨hok,rfl,S1,Y,hD,p1,p2,m1⟩)
 ·have HW:=ai (aX.writeM d hM h1 (body++⟨#[10,101,110,100,111,98,106,10]⟩) (by rw [ZY,hes];omega) (by rw [HE.out,ZS];exact hok0));obtain ⟨a1,k1,a2,k2,c0,c1,c2,fz,hc,hFb,hCb⟩:=h1.facts;clear h1 c1 c2 fz hc;go_wp2_with fail
  refine HW.out.mono ?_;intro e w2 hS;obtain ⟨v,rfl⟩:=hS.val;rw [HE.out] at hS;have HS:=ai (aU.seq m1 hS);clear hS HW;go_wp2
  first
   | (rw [<-ZS X];exact HS.out)
   | (go_ret;rw [<-ZS X];exact HS.out)
 ·go_wp2;go_ret;exact aU.fail1 d.okp hok hD p1 p2 m1
theorem DQ (d:ko B K D ok M ty q q' f et ev) (hM:M<=2000000000) (w:World) (S:Bl) (Fb C:Nat) (begins:List Nat) (sizes:List (Int×Int)) (X:List UInt8) (h:aX K B Fb C ty q begins sizes X w S) (hX:X.length+200<=M) (hok0:ok (X++eW X)):
  CP 85 #[zp Fb] w (aU D ok et ev S w X (eW X) (aX K B Fb C ty q begins sizes (X++eW X))):=by
 obtain ⟨a1,k1,a2,k2,c0,c1,c2,fz,hc,hFb,hCb⟩:=h.facts;have HQ:=ai (eE w C (X.length:Int) hc);by_cases h0:X=[]
 ·have HW:=ai (aX.writeM d hM h ⟨bi.toArray⟩ (by simp [ByteArray.size,bi];omega) (by rw [eW,ZN h0] at hok0;simpa using hok0));unfold eW;rw [ZN h0];have hlen:(X.length:Int)=0:=by rw [h0];rfl
  rw [hlen] at HQ;unfold bi at HW;go_enter func85,ntmps85
  go_wp2_with fail
  refine HQ.out.mono ?_;rintro e w1 ⟨rfl,rfl⟩;go_wp2_with fail
  refine HW.out.mono ?_;intro e w2 hS;obtain ⟨v,rfl⟩:=hS.val;have HS:=ai hS;clear hS HW;go_wp2
  first
   | exact HS.out
   | (go_ret;exact HS.out)
 ·unfold eW;rw [ZO h0];have hpos:(0:Int) < (X.length:Int):=by have:=Yn.2 h0;omega
  have hok:ok X:=by
   obtain ⟨S1,S2,hF,⟨R,hK,_⟩,_⟩:=h;exact d.kok hK
  go_enter func85,ntmps85
  go_wp2_with fail
  refine HQ.out.mono ?_;rintro e w1 ⟨rfl,rfl⟩;go_wp2;go_ret;exact aU.nil hok (by rw [YZ];exact h) (Mv.refl _ _)
theorem xy (d:ko B K D ok M ty q q' f et ev) (hM:M<=2000000000) (w:World) (S:Bl) (Fb C:Nat) (begins:List Nat) (sizes:List (Int×Int)) (X:List UInt8) (n:Nat) (h:aX K B Fb C ty q begins sizes X w S) (hB:B<=w.heap.size) (ht:bU B w) (hl:begins.length<=1000000) (hX:X.length+1000<=M) (hn:n<=2000000000) (hok0:ok (X++(fC++aK (begins.length+1) (Lib.itoa (n:Int))))):
  CP 166 #[zp Fb,n] w (aU D ok et ev S w X (fC++aK (begins.length+1) (Lib.itoa (n:Int))) (aX K B Fb C ty q (begins++[X.length+18]) sizes (X++(fC++aK (begins.length+1) (Lib.itoa (n:Int)))))):=by
 obtain ⟨a1,k1,a2,k2,c0,c1,c2,fz,hc,hFb,hCb⟩:=h.facts;have HW:=ai (aX.writeM d hM h ⟨fC.toArray⟩ (by simp [ByteArray.size,fC];omega) (d.okp _ (aK (begins.length+1) (Lib.itoa (n:Int))) (by simpa [ZS] using hok0)));have hbel:=fun {S' w'} (m:Mv S w S' w')=>aX.belM d h hB m
 have hlen:fC.length=18:=rfl;have hi:=ar (n:Int) (by omega) (by omega);have HI:=ai (fun (w1:World) (ht1:bU B w1)=>bp B w1 (n:Int) (by omega) (by omega) ht1);obtain ⟨si,hsi⟩:∃ si,Lib.itoa (n:Int)=si:=⟨_,rfl⟩;rw [hsi] at HI hi hok0 ⊢;clear hsi;have HW2:Hid (CP 128 #[zp C,.string ⟨#[10,101,110,100,115,116,114,101,97,109,10,101,110,100,111,98,106,10]⟩] w (aU D ok et ev S w X fC (aX K B Fb C ty q begins sizes (X++fC)))):=by
  have:=HW.out;rw [show (⟨fC.toArray⟩:ByteArray).data.toList=fC by simp] at this;exact this
 clear HW;go_enter func166,ntmps166
 go_wp2_with fail
 refine HW2.out.mono ?_;rintro e w1 (⟨hok,rfl,S1,h1,m1⟩ | ⟨hok,rfl,S1,Y,hD,p1,p2,m1⟩)
 ·have hB1:B<=w1.heap.size:=ZU hB m1.size;have ht1:bU B w1:=ht.on (hbel m1);have HX:=ai (HI.out w1 ht1);clear HW2 HI c0 c1 c2 fz hc;go_wp2_with fail
  refine HX.out.mono ?_;rintro e w2 ⟨rfl,hg2⟩;have h2:=(aX.thing d.thing Fb C ty q begins sizes (X++fC)).grow h1 hg2;have HO:=ai (Ck d hM w2 S1 Fb C begins sizes (X++fC) ⟨si.toArray⟩ h2 (ZU hB1 hg2.size) (ht1.on (hg2.mono hB1)) hl (by rw [ZY,hlen,ae];omega) (by rw [ZS];exact hok0));clear HX h1 h2;go_wp2_with fail
  refine HO.out.mono ?_;intro e w3 hS;obtain ⟨v,rfl⟩:=hS.val;have HS:=ai (aU.seq (m1.trans (Mv.grow hg2 S1)) hS);clear hS HO;go_wp2
  first
   | (rw [<-ZS X, <-hlen, <-ZY];exact HS.out)
   | (go_ret;rw [<-ZS X, <-hlen, <-ZY];exact HS.out)
 ·go_wp2;go_ret;exact aU.fail1 d.okp hok hD p1 p2 m1
theorem tR (d:ko B K D ok M ty q q' f et ev) (hM:M<=2000000000) (w:World) (S:Bl) (Fb C:Nat) (begins:List Nat) (sizes:List (Int×Int)) (X:List UInt8) (W H:Int) (h:aX K B Fb C ty q begins sizes X w S) (hB:B<=w.heap.size) (ht:bU B w) (hl:begins.length<=100000) (hz:sizes.length<=100000) (hX:X.length+1000<=M) (hok0:ok (X++(eW X++(aL (begins.length+1)++cX (begins.length+2))))):
  CP 167 #[zp Fb,W,H] w (aU D ok et ev S w X (eW X++(aL (begins.length+1)++cX (begins.length+2))) (aX K B Fb C ty q (begins++[X.length+(eW X).length]) (sizes++[(W,H)]) (X++(eW X++(aL (begins.length+1)++cX (begins.length+2)))))):=by
 have hbel:=fun {S' w'} (m:Mv S w S' w')=>aX.belM d h hB m
 have hbl:(eW X).length<=9:=by unfold eW;split <;> simp [bi]
 have hobl:(aL (begins.length+1)).length<=28:=by
  have:=ar ((begins.length+1:Nat):Int) (by omega) (by omega);unfold aL;rw [ZY];simp only [ZX,ZR];omega
 have HB:=ai (DQ d hM w S Fb C begins sizes X h (by omega) (d.okp _ _ (by rw [ZS];exact hok0)));obtain ⟨b0,hb0⟩:∃ b,eW X=b:=⟨_,rfl⟩;rw [hb0] at HB hbl hok0 ⊢;clear hb0;go_enter func167,ntmps167
 go_wp2_with fail
 refine HB.out.mono ?_;rintro e w1 (⟨hok,rfl,S1,h1,m1⟩ | ⟨hok,rfl,S1,Y,hD,p1,p2,m1⟩)
 rotate_left
 ·go_wp2;go_ret;exact aU.fail1 d.okp hok hD p1 p2 m1
 have hB1:B<=w1.heap.size:=ZU hB m1.size;have ht1:bU B w1:=ht.on (hbel m1);have HO:=ai (pF d hM w1 S1 Fb C begins sizes (X++b0) h1 hB1 ht1 (by omega) (by rw [ZY];omega) (d.okp _ (cX (begins.length+2)) (by simpa [ZS] using hok0)));have hbel1:=fun {S' w'} (m:Mv S1 w1 S' w')=>aX.belM d h1 hB1 m
 clear HB;go_wp2_with fail
 refine HO.out.mono ?_;rintro e w2 (⟨hok2,rfl,S2,h2,m2⟩ | ⟨hok2,rfl,S2,Y,hD,p1,p2,m2⟩)
 rotate_left
 ·go_wp2;go_ret;exact aU.seq m1 (aU.fail1 d.okp hok2 hD p1 p2 m2)
 have hB2:B<=w2.heap.size:=ZU hB1 m2.size;have ht2:bU B w2:=ht1.on (hbel1 m2);clear HO;obtain ⟨a1,k1,a2,k2,c0,c1,c2,fz,hc,hFb,hCb⟩:=h2.facts;rw [ZY,XN] at c1;have hnl:=gJ ((begins.length+2:Nat):Int) (by omega) (by omega);have hfl:(cX (begins.length+2)).length<=80:=by
  unfold cX;rw [ZY,ZY];simp only [ZX,ZR];omega
 have HWr:=ai (fun (w1:World) (hG:af w2 w1)=>aX.writeM d hM ((aX.thing d.thing Fb C ty q _ _ _).grow h2 hG) ⟨(cX (begins.length+2)).toArray⟩ (by rw [ZY,ZY,ae];omega) (by simpa [ZS] using hok0));have HN:=ai (fun (w1:World) (hG:af w2 w1)=>dD w1 Fb (begins.length+1) k1 a1 ((Zc hG (p:=zq Fb 1) hFb).trans c1) (by omega));have HI:=ai (fun (w1:World) (hG:af w2 w1)=>lB B w1 ((begins.length+2:Nat):Int) (by omega) (by omega) (ht2.on (YY hG hB2)));have HF:Hid (cX (begins.length+2)=[60,60,32,47,70,105,108,116,101,114,32,47,70,108,97,116,101,68,101,99,111,100,101,32,47,76,101,110,103,116,104,32]++aD ((begins.length+2:Nat):Int)++[32,62,62,10,115,116,114,101,97,109,10]):=rfl;have HH2:=ai h2;clear h2 c1 c2 fz hc;obtain ⟨fl,hfe⟩:∃ fl,cX (begins.length+2)=fl:=⟨_,rfl⟩;rw [hfe] at HWr HF hfl;have HFe:=ai hfe;obtain ⟨sn,hsn⟩:∃ sn,aD ((begins.length+2:Nat):Int)=sn:=⟨_,rfl⟩;rw [hsn] at HI HF hnl;clear hfe hsn;have hz1:=ae sn;have hz2:=ae ([60,60,32,47,70,105,108,116,101,114,32,47,70,108,97,116,101,68,101,99,111,100,101,32,47,76,101,110,103,116,104,32]++sn);rw [ZY] at hz2;simp only [ZX,ZR] at hz2;obtain ⟨s7,hs7⟩:∃ s7,[60,60,32,47,70,105,108,116,101,114,32,47,70,108,97,116,101,68,101,99,111,100,101,32,47,76,101,110,103,116,104,32]++sn=s7:=⟨_,rfl⟩;rw [hs7] at HF hz2;have HA1:Hid ((⟨#[60,60,32,47,70,105,108,116,101,114,32,47,70,108,97,116,101,68,101,99,111,100,101,32,47,76,101,110,103,116,104,32]⟩:ByteArray)++⟨sn.toArray⟩=⟨s7.toArray⟩):=by
  show _=_
  rw [<-hs7];exact an [60,60,32,47,70,105,108,116,101,114,32,47,70,108,97,116,101,68,101,99,111,100,101,32,47,76,101,110,103,116,104,32] sn
 have HA2:=ai (an s7 [32,62,62,10,115,116,114,101,97,109,10]);clear hs7;go_wp2;refine ap 9 45 (ag [zp Fb,zp Fb,zp Fb,zp C,zp Fb,((begins.length+1+1:Nat):Int),.string ⟨sn.toArray⟩,.string ⟨s7.toArray⟩,.string ⟨fl.toArray⟩]) (by kernel_rfl) rfl (by kernel_rfl) aq ?_;simp only [TD];refine ⟨fun w3 hG hd=>?_,fun v0=>?_⟩
 ·go_wp2;exact RG
 refine ⟨fun w3 hG hd=>?_,fun v1=>?_⟩
 ·simp [ag,Region.binds] at hd;subst hd;go_wp2;exact RG
 refine ⟨fun w3 hG hd=>?_,fun v2=>?_⟩
 ·simp [ag,Region.binds] at hd;subst hd;go_wp2;exact RG
 refine ⟨fun w3 hG hd=>?_,fun v3=>?_⟩
 ·have c:=(Zc hG (p:=Fb) hFb).trans c0;simp [ag,Region.binds] at hd;subst hd;go_wp2;exact RG
 refine ⟨fun w3 hG hd=>?_,fun v4=>?_⟩
 ·go_wp2;exact RG
 refine ⟨fun w3 hG hd=>?_,fun v5=>?_⟩
 ·have HX:=ai (HN.out w3 hG);simp [ag,Region.binds] at hd;subst hd;go_wp2_with fail
  refine HX.out.mono ?_;rintro e w4 ⟨rfl,rfl⟩;go_wp2;exact RG
 refine ⟨fun w3 hG hd=>?_,fun v6=>?_⟩
 ·have HX:=ai (HI.out w3 hG);simp [ag,Region.binds] at hd;subst hd;go_wp2_with fail
  refine HX.out.mono ?_;rintro e w4 ⟨rfl,hB4⟩;go_wp2;exact ⟨rfl,hB4⟩
 refine ⟨fun w3 hG hd=>?_,fun v7=>?_⟩
 ·simp [ag,Region.binds] at hd;subst hd;go_wp2;exact ⟨by unfold ag;exact congrArg Value.string HA1.out,af.refl _⟩
 refine ⟨fun w3 hG hd=>?_,fun v8=>?_⟩
 ·simp [ag,Region.binds] at hd;subst hd;go_wp2;exact ⟨by unfold ag;rw [HF.out];exact congrArg Value.string HA2.out,af.refl _⟩
 intro w3 hG hd;have d3:=hd 3 (by omega);have d8:=hd 8 (by omega);simp [ag] at d3 d8;subst d3 d8;have HX:=ai (HWr.out w3 hG);clear hd HI HN HWr HA1 HA2 HF hz1 hz2 hnl c0;go_wp2_with fail
 refine HX.out.mono ?_;rintro e w4 (⟨hok3,rfl,S3,h3,m3⟩ | ⟨hok3,rfl,S3,Y,hD,p1,p2,m3⟩)
 rotate_left
 ·go_wp2;go_ret;rw [HFe.out];exact aU.seq m1 (aU.seq m2 (aU.pre (Mv.grow hG S2) (.inr ⟨hok3,rfl,S3,Y,hD,p1,p2,m3⟩)))
 obtain ⟨S1',hF3,hsub3,kF3⟩:=h3.fst (CK.thing d.thing C 0 ty q _);obtain ⟨vz,cz,ow,ne,kz⟩:=hF3.sized (W,H);have hFb3:Fb < w4.heap.size:=ZD w4 _ cz;have fz3:=hF3.read.choose_spec.choose_spec.choose_spec.choose_spec.2.2.2;have f2:=fz3 2;obtain ⟨az,kzc,hform⟩:∃ ad cap,vz=.slice ad sizes.length cap:=by
  rcases ow.2 with ⟨hu,hz⟩ | ⟨gg,cap,cur,hu,_⟩
  ·exact ⟨none,0,by rw [hu,hz]⟩
  ·exact ⟨_,_,hu⟩
 subst hform;have hB4:B<=w4.heap.size:=ZU hB2 (ZU hG.size m3.size);have HK:=ai (fun w1 hg1 v' w' hg ho hat=>(kz w1 hg1 v' w' hg ho hat));have HKF:=ai kF3;clear kz kF3 hF3 h3;obtain ⟨Lz,hLz⟩:∃ Lz,sizes.length=Lz:=⟨_,rfl⟩;rw [hLz] at cz ow ne HK hz;clear hLz HX;go_wp2_with (at_builtin;refine bQ rfl (.tmp 37) (.tmp 41) 164 rfl 224 (.agg #[oz,oz]) 2 16 Tryz.infoSz rfl (by omega) underlying164 B _ Lz (rN sizes) rfl (ow.alloc _) (by simp;omega) ⟨w4,0,none⟩ 1 rfl [.int .i64 W,.int .i64 H] rfl (AI _ _ _ _) (by intro u hu;simp at hu;rcases hu with rfl | rfl <;> rfl) (by omega) (by omega) ?_)
 intro v7 w7 hO7 hg7 hat7;have HX:=ai (HK.out _ ((ZT _ w4).alloc (ZW _) _) v7 w7 hg7 hO7 (by simpa using hat7));have hform7:∃ ad L cap,v7=.slice ad L cap:=by
  rcases hO7.2 with ⟨hu,_⟩ | ⟨gg,cap,cur,hu,_⟩
  ·exact ⟨_,_,_,hu⟩
  ·exact ⟨_,_,_,hu⟩
 obtain ⟨ad7,L7,cap7,hv7⟩:=hform7;rw [hv7] at HX ⊢;clear hv7 HK;have kb:=(hg7.block Fb (by simp;omega) (fun e=>ne e.symm)).trans (Zf w4 _ Fb hFb3);have k2:=(ZQ (a:=zq Fb 2) kb).trans cz;have kf2:=(ZH (a:=zq Fb 2) kb).trans f2;clear kb cz f2 ow hO7 hg7 hat7;go_wp2;go_ret;obtain ⟨S5,hF5,m5⟩:=HX.out;obtain ⟨S6,h6,m6⟩:=HKF.out _ _ _ hF5 m5;rw [HFe.out];refine aU.seq m1 (aU.seq m2 (aU.pre (Mv.grow hG S2) (.inl ⟨hok3,rfl,S6,?_,m3.trans m6⟩)));rw [<-ZS X, <-ZS (X++b0), <-ZY];exact h6
end
section
variable {K D:World->Bl->List UInt8->Prop} {ok:List UInt8->Prop} {B M:Nat} {ty:TypeId} {q q':Value} {f:FuncId} {et:TypeId} {ev:Value}
def Dd (X:List UInt8) (n:Nat) (Z:List UInt8):List UInt8:=eW X++(aL (n+1)++cX (n+2))++(Z++(fC++aK (n+2) (Lib.itoa (Z.length:Int))))
theorem yG (d:ko B K D ok M ty q q' f et ev) (hM:M<=2000000000) (w:World) (S:Bl) (Fb C:Nat) (begins:List Nat) (sizes:List (Int×Int)) (X:List UInt8) (W H:Int) (Z:ByteArray) (h:aX K B Fb C ty q begins sizes X w S) (hB:B<=w.heap.size) (ht:bU B w) (hl:begins.length<=100000) (hz:sizes.length<=100000) (hX:X.length+Z.size+3000<=M) (hok0:ok (X++Dd X begins.length Z.data.toList)):
  CP 145 #[zp Fb,W,H,Z] w fun e w'=>e=.returned .nilIface/\∃ S',aX K B Fb C ty q (begins++[X.length+(eW X).length]++[(X++(eW X++(aL (begins.length+1)++cX (begins.length+2)))++Z.data.toList).length+18]) (sizes++[(W,H)]) (X++Dd X begins.length Z.data.toList) w' S'/\Mv S w S' w':=by
 unfold Dd at hok0 ⊢;have hbl:(eW X).length<=9:=by unfold eW;split <;> simp [bi]
 have hobl:(aL (begins.length+1)).length<=28:=by
  have:=ar ((begins.length+1:Nat):Int) (by omega) (by omega);unfold aL;rw [ZY];simp only [ZX,ZR];omega
 have hfl:(cX (begins.length+2)).length<=80:=by
  have hnl:=gJ ((begins.length+2:Nat):Int) (by omega) (by omega);unfold cX;rw [ZY,ZY];simp only [ZX,ZR];omega
 have hz0:Z.data.toList.length=Z.size:=aP Z;obtain ⟨b0,hb0⟩:∃ b,eW X++(aL (begins.length+1)++cX (begins.length+2))=b:=⟨_,rfl⟩;have hb0l:b0.length<=200:=by rw [<-hb0];simp only [ZY];omega
 have ok1:ok (X++b0):=d.okp _ (Z.data.toList++(fC++aK (begins.length+2) (Lib.itoa (Z.data.toList.length:Int)))) (by rw [hb0] at hok0;simpa [ZS] using hok0);have ok2:ok (X++b0++Z.data.toList):=d.okp _ (fC++aK (begins.length+2) (Lib.itoa (Z.data.toList.length:Int))) (by rw [hb0] at hok0;simpa [ZS] using hok0);have ok3:ok (X++b0++Z.data.toList++(fC++aK (begins.length+2) (Lib.itoa (Z.size:Int)))):=by rw [hb0,hz0] at hok0;simpa [ZS] using hok0
 have HB:=ai (tR d hM w S Fb C begins sizes X W H h hB ht hl hz (by omega) (by rw [hb0];exact ok1));rw [hb0] at HB ⊢;obtain ⟨bg,hbg⟩:∃ bg,begins++[X.length+(eW X).length]=bg:=⟨_,rfl⟩;have hbgl:bg.length=begins.length+1:=by rw [<-hbg];simp
 rw [hbg] at HB ⊢;have hbel:=fun {S' w'} (m:Mv S w S' w')=>aX.belM d h hB m
 clear hok0 hbg hb0 h;go_enter func145,ntmps145
 go_wp2_with fail
 refine HB.out.mono ?_;rintro e w1 (⟨_,rfl,S1,h1,m1⟩ | ⟨hno,_⟩)
 rotate_left
 ·exact absurd ok1 hno
 have hB1:B<=w1.heap.size:=ZU hB m1.size;have HW:=ai (aX.writeM d hM h1 Z (by rw [ZY];omega) ok2);obtain ⟨a1,k1,a2,k2,c0,c1,c2,fz,hc,hFb,hCb⟩:=h1.facts;clear HB h1 c1 c2 fz hc;go_wp2_with fail
 refine HW.out.mono ?_;rintro e w2 (⟨_,rfl,S2,h2,m2⟩ | ⟨hno,_⟩)
 rotate_left
 ·exact absurd ok2 hno
 have hE:=xy d hM w2 S2 Fb C bg (sizes++[(W,H)]) (X++b0++Z.data.toList) Z.size h2 (ZU hB1 m2.size) (ht.on (hbel (m1.trans m2))) (by omega) (by simp only [ZY,hz0];omega) (by omega) (by rw [hbgl];exact ok3);rw [hbgl] at hE;have HE:=ai hE;clear hE HW h2 c0;go_wp2_with fail
 refine HE.out.mono ?_;rintro e w3 (⟨_,rfl,S3,h3,m3⟩ | ⟨hno,_⟩)
 rotate_left
 ·exact absurd ok3 hno
 have HS:=ai h3;clear h3 HE;go_wp2;go_ret;refine ⟨rfl,S3,?_,(m1.trans m2).trans m3⟩;have:=HS.out;rw [hz0];simpa [ZS] using this
end
section
variable {K D:World->Bl->List UInt8->Prop} {ok:List UInt8->Prop} {B:Nat} {ty:TypeId} {q q':Value} {f:FuncId} {et:TypeId} {ev:Value}
theorem Gs (d:ko B K D ok 2000000000 ty q q' f et ev) (Fb C:Nat) (w:World) (S:Bl) (xs:List iB) (X:List UInt8) (ti:ByteArray) (ms:List (ByteArray×Nat)) (adm:Option Addr) (capm:Nat) (hx:∀ x∈xs,kx x) (hX:(X=[]/\xs=[])\/X=aC (aA xs)) (hxl:xs.length<=80) (hti:ti.size<=100) (hm:ms.length<=20) (hms:∀ m∈ms,m.1.size<=100/\m.2<=80) (hB:B<=w.heap.size) (ht:bU B w) (hok0:ok (fO (aA xs) (aQ xs) (ax ms) ti.data.toList))
  (hLm:fB (.slice adm ms.length capm) ms.length (iz ms) w) (hoff:0 < ms.length->∀ b,adm=some ⟨b,0,none⟩->¬ S b) (h:aX K B Fb C ty q (be 9 0 (aA xs)) (aQ xs) X w S):
  CP 95 #[zp Fb,ti,.slice adm ms.length capm] w fun e w'=>e=.returned .nilIface/\∃ bg S',aX K B Fb C ty q bg (aQ xs) (fO (aA xs) (aQ xs) (ax ms) ti.data.toList) w' S'/\Mv S w S' w':=by
 have hzl:(aA xs).length=xs.length:=by simp [aA]
 have hsl:(aQ xs).length=xs.length:=by simp [aQ]
 have hup:=cN hx hxl;have hbeg:=fX hX;have hXl:X.length<=100000000:=by
  have h2:(X++eW X).length<=100000000:=by rw [hbeg];exact hup
  simp at h2;omega
 have hzs:∀ z∈aQ xs,bG z.1 1 14400000/\bG z.2 1 14400000:=by
  intro z hz;simp only [aQ,YA,Yk] at hz;obtain ⟨x,hxm,rfl⟩:=hz;exact ⟨(hx x hxm).2.2.2.2.1,(hx x hxm).2.2.2.2.2⟩
 have hfont:cK (aA xs)=2*xs.length+1:=by rw [cK,hzl]
 have hms2:∀ m∈ax ms,m.1.length<=100/\m.2<=80:=by
  intro m hmm;simp only [ax,YA] at hmm;obtain ⟨y,hy,rfl⟩:=hmm;have:=hms y hy;exact ⟨by show y.1.data.toList.length<=100;rw [aP];omega,this.2⟩
 obtain ⟨hbl,hbl1,hbs,hcat,hinfo⟩:=fW (cK (aA xs)) (aQ xs) (ax ms) ti.data.toList (by omega) (by omega) hzs (by rw [aP];omega) (by simp [ax];omega) hms2;have hcbl:(be 9 0 (aA xs)).length=2*xs.length:=by rw [dy,hzl]
 have hfile:fO (aA xs) (aQ xs) (ax ms) ti.data.toList=aC (aA xs)++xS (aA xs) (aQ xs) (ax ms) ti.data.toList:=rfl;have hend:xS (aA xs) (aQ xs) (ax ms) ti.data.toList=dv (aA xs) (aQ xs) (ax ms) ti.data.toList++iE (eH (aA xs) (aQ xs) (ax ms) ti.data.toList) (l7 (cK (aA xs)) (aQ xs) (ax ms) ti.data.toList) (fo (cK (aA xs)) (aQ xs) (ax ms) ti.data.toList) ((aC (aA xs)).length+(dv (aA xs) (aQ xs) (ax ms) ti.data.toList).length):=rfl;have hobj:dv (aA xs) (aQ xs) (ax ms) ti.data.toList=aF (cK (aA xs)) (cI (cK (aA xs)) (aQ xs) (ax ms) ti.data.toList):=rfl;have hbgs:eH (aA xs) (aQ xs) (ax ms) ti.data.toList=be 9 0 (aA xs)++aO (aC (aA xs)).length (cK (aA xs)) (cI (cK (aA xs)) (aQ xs) (ax ms) ti.data.toList):=rfl;obtain ⟨fi,hfi⟩:∃ fi,cK (aA xs)=fi:=⟨_,rfl⟩;rw [hfi] at hbl hbl1 hbs hcat hinfo hend hobj hbgs hfont;have HEN:∀ wx,B<=wx.heap.size->bU B wx->∀ adz capz,fB (.slice adz (aQ xs).length capz) (aQ xs).length (rN (aQ xs)) wx->fB (.slice adm ms.length capm) ms.length (iz ms) wx->_:=fun wx h1 h2 adz capz h3 h4=>pX wx B fi (aQ xs) ti ms adz adm capz capm h1 h2 (by omega) (by omega) hzs hti hm hms h3 h4
 obtain ⟨bod,hbod⟩:∃ b,cI fi (aQ xs) (ax ms) ti.data.toList=b:=⟨_,rfl⟩;obtain ⟨cat,hcat2⟩:∃ b,l7 fi (aQ xs) (ax ms) ti.data.toList=b:=⟨_,rfl⟩;obtain ⟨inf,hinf2⟩:∃ b,fo fi (aQ xs) (ax ms) ti.data.toList=b:=⟨_,rfl⟩;simp only [hbod,hcat2,hinf2] at hbl hbl1 hbs hcat hinfo hend hobj hbgs HEN;obtain ⟨U,hU⟩:∃ U,aC (aA xs)=U:=⟨_,rfl⟩;rw [hU] at hup hbeg hfile hend hbgs;obtain ⟨cb9,hcb9⟩:∃ c,be 9 0 (aA xs)=c:=⟨_,rfl⟩;have hcble:∀ x∈cb9,x<=U.length:=by
  intro x hxm;rw [<-hcb9] at hxm;have:=jk _ _ _ x hxm;rw [<-hU,aC,bi,ZY];simpa using this
 rw [hcb9] at hcbl hbgs h;have hobs:=fK bod fi (by omega) hbs;rw [hfile,hend,hobj,hbgs] at hok0 ⊢;have hokU:ok U:=d.okp _ _ hok0;have hokO:ok (U++aF fi bod):=d.okp _ _ (by rw [ZS];exact hok0);clear hfile hend hobj hbgs hbod hcat2 hinf2 hcb9 hfi hX hx hms2;have hT:∀ bg Y,aJ B (aX K B Fb C ty q bg (aQ xs) Y):=fun bg Y=>aX.thing d.thing _ _ _ _ _ _ _
 have tb:∀ {S1 w1},Mv S w S1 w1->Below B w w1:=fun m=>m.below (fun _ e=>(hT _ _).ge h e) hB
 have hol:∀ i,(aF fi (bod.take i)).length<=2040*310:=fun i=>by
  have:=fK (bod.take i) fi (by rw [Ze];omega) (fun b hb=>hbs b (List.mem_of_mem_take hb));rw [Ze] at this;omega
 have hxl2:(U++aF fi bod).length<=101000000:=by
  rw [ZY];omega
 have hbgl:(cb9++aO U.length fi bod).length=2*xs.length+bod.length:=by rw [ZY,gD,hcbl]
 have hrows:(bR (cb9++aO U.length fi bod)).length<=20*(cb9++aO U.length fi bod).length:=by
  have gen:∀ l:List Nat,(∀ x∈l,x<=4000000000)->(bR l).length<=20*l.length:=by
   intro l;induction l with
   | nil=>intro _;simp [bR]
   | cons a r ih=>
    intro h;have h1:=ih (fun x hx=>h x (by simp [hx]));have h2:=jr a (by have:=h a (by simp);omega);simp only [bR,ux,ZY,ZX,ZR];omega
  refine gen _ fun x hx=>?_
  rcases Zu.1 hx with hx | hx
  ·have:=hcble x hx;omega
  ·have:=iT _ _ _ x hx;omega
 have l5:(fu (cb9++aO U.length fi bod)).length<=30000:=by
  have h9:=ar ((2*xs.length+bod.length+1:Nat):Int) (by omega) (by omega);rw [hbgl] at hrows;unfold fu;rw [hbgl];simp only [ZY,ZX,ZR];omega
 refine wW w Fb (2*xs.length) (2*xs.length+bod.length) (aQ xs).length ms.length capm bod.length C (U++aF fi bod).length adm ti (fun i=>bod.getD i []) (fu (cb9++aO U.length fi bod)) (iL (2*xs.length+bod.length+1) cat inf) (Lib.itoa ((U++aF fi bod).length:Int))
  (fun w1=>∃ S1,aX K B Fb C ty q cb9 (aQ xs) U w1 S1/\Mv S w S1 w1)
  (fun Eb eb cb i w1=>∃ S1,ah (zG B Eb (.slice (zp eb) bod.length cb) (fi:Int) (inf:Int) (cat:Int) bod) (aX K B Fb C ty q (cb9++aO U.length fi (bod.take i)) (aQ xs) (U++aF fi (bod.take i))) w1 S1/\Mv S w S1 w1)
  _ (by omega) (by omega) (by omega) (by omega) ?_ ?_ ?_ ?_ ?_ ?_ ?_ ?_ ?_ ?_ ?_ ?_ ?_ ?_
 ·exact l5
 ·have l1:=ar ((2*xs.length+bod.length+1:Nat):Int) (by omega) (by omega);have l2:=bm [47,82,111,111,116] (cat:Int) 5 (by simp) (by omega) (by omega);have l3:=bm [47,73,110,102,111] (inf:Int) 5 (by simp) (by omega) (by omega);simp only [iL,ZY,ZX,ZR];omega
 ·have:=ar ((U++aF fi bod).length:Int) (by omega) (by omega);omega
 ·refine (DQ d (ZW _) w S Fb C _ _ X h (by omega) (by rw [hbeg];exact hokU)).mono ?_;rintro e w' (⟨_,rfl,S',hf',m⟩ | ⟨hno,_⟩)
  ·rw [hbeg] at hf';exact ⟨rfl,S',hf',m⟩
  ·exact absurd (by rw [hbeg];exact hokU) hno
 ·rintro w1 ⟨S1,h1,m1⟩;obtain ⟨a1,k1,a2,k2,c0,c1,c2,_,_,hFb,_⟩:=aX.facts h1;rw [hcbl] at c1;exact ⟨hFb,a2,k2,c2,a1,k1,c1⟩
 ·rintro w1 ⟨S1,h1,m1⟩ adz cz hcz wx hbx;obtain ⟨vb,vz,_,c2,_,hLz⟩:=aX.rows h1;rw [hcz] at c2;have ev:=YI c2;rw [<-ev] at hLz;have hbw:=tb m1;have hz1:=hbw.size;have hz2:=hbx.size;rw [show 2*xs.length+1=fi from hfont.symm];refine (HEN wx (by omega) (ht.on (hbw.trans (hbx.mono (by omega)))) adz cz (hLz.on hbx) ((hLm.turned m1 hoff).on hbx)).mono ?_;rintro e w2 ⟨rfl,hb2,S2,h2⟩;obtain ⟨g,cap,hc1,hc2,h3⟩:=h2.named (B:=B) (by omega) (by omega);have hge:∀ k,S2 k->wx.heap.size<=k:=fun k hk=>(ED.thing wx.heap.size wx.heap.size _ _ _ _).ge h2 hk
  obtain ⟨h4,m4⟩:=ah.new (hT _ _) ((hT _ _).grow h1 hbx) h3 hb2 hge;refine ⟨_,g,cap,rfl,hc1,hc2,_,?_,(m1.trans (Mv.grow hbx _)).trans m4⟩;simpa [aO,aF] using h4
 ·rintro Eb eb cb w1 ⟨S1,⟨R1,R2,h1,_⟩,_⟩;exact h1.read.2.1
 ·rintro Eb eb cb i w1 hi ⟨S1,⟨R1,R2,h1,_⟩,_⟩;refine h1.read.2.2.2.2 i _ ?_;rw [ZJ,ZM hi];rfl
 ·rintro Eb eb cb i w1 hi ⟨S1,h1,m1⟩;have hbw:=tb m1;have hz1:=hbw.size;obtain ⟨R1,hF,_,back⟩:=ah.snd (zG.thing _ _ _ _ _ _ _) h1;have ei:bod.getD i []=bod[i]:=by simp [hi]
  have hbi:=hbs _ (Yp hi);have hlt:(bod.take i).length=i:=by rw [Ze];omega
  have hln:(cb9++aO U.length fi (bod.take i)).length+1=fi+i:=by rw [ZY,gD,hcbl,hlt];omega
  have hoki:ok (U++aF fi (bod.take i)++aK (fi+i) bod[i]):=by
   refine d.okp _ (aF (fi+(i+1)) (bod.drop (i+1))) ?_;have e:aF fi bod=aF fi (bod.take i)++(aK (fi+i) bod[i]++aF (fi+(i+1)) (bod.drop (i+1))):=by
    conv=>lhs;rw [<-Yq i bod,Zn hi]
    rw [dX,hlt];rfl
   rw [e] at hokO;simpa [ZS] using hokO
  have hO:=Ck d (ZW _) w1 R1 Fb C _ _ _ ⟨(bod[i]).toArray⟩ hF (by omega) (ht.on hbw) (by omega) (by
   have:=hol i;rw [ZY,ae];omega) (by rw [hln];exact hoki)
  rw [hln] at hO;show CP _ #[_,.string ⟨(bod.getD i []).toArray⟩] w1 _
  rw [ei];refine hO.mono ?_;rintro e w' (⟨_,rfl,S',hf',m⟩ | ⟨hno,_⟩)
  ·obtain ⟨S2,h2,m2⟩:=back _ _ _ hf' m;refine ⟨rfl,S2,?_,m1.trans m2⟩;rw [Zv hi,fj,il,hlt];have e1:(U++aF fi (bod.take i)).length=U.length+(aF fi (bod.take i)).length:=ZY;rw [e1] at h2;simpa [ZS] using h2
  ·exact absurd hoki hno
 ·rintro Eb eb cb w1 ⟨S1,h1,m1⟩;rw [Zy (ZW _)] at h1;obtain ⟨R1,R2,_,h2,_⟩:=h1;obtain ⟨a1,k1,a2,k2,c0,c1,c2,_,cc,hFb,_⟩:=aX.facts h2;rw [hbgl] at c1;exact ⟨hFb,c0,cc,a1,k1,c1⟩
 ·rintro Eb eb cb w1 ⟨S1,h1,m1⟩ wx hbx;have hbw:=tb m1;exact bp B wx _ (by omega) (by omega) (ht.on (hbw.trans (hbx.mono (by have:=hbw.size;omega))))
 ·rintro Eb eb cb w1 ⟨S1,h1,m1⟩ wx hbx;have hbw:=tb m1;have hz1:=hbw.size;have hz2:=hbx.size;rw [Zy (ZW _)] at h1;obtain ⟨R1,R2,_,h2,_⟩:=h1;obtain ⟨_,_,_,_,_,_,_,_,_,hFb,_⟩:=aX.facts h2;obtain ⟨vb,vz,c1,_,hLb,_⟩:=aX.rows h2;obtain ⟨ad,cap,rfl,hc1,hc2,hcell⟩:=hLb;obtain ⟨b,rfl,hb,hcell⟩:=hcell (by rw [hbgl];omega);refine tL wx B Fb b _ cap _ rfl (by omega) (by omega) hc1 hc2 ?_ (by omega) (by omega) (by omega) (ht.on (hbw.trans (hbx.mono (by omega)))) ((hbx.cell (p:=zq Fb 1) hFb).trans c1) (fun i x hx=>(hbx.cell (p:=zq b i) hb).trans (hcell _ _ (Ae _ i x hx)));intro x hx;rcases Zu.1 hx with hx | hx
  ·have:=hcble x hx;omega
  ·have:=iT _ _ _ x hx;omega
 ·rintro Eb eb cb w1 ⟨S1,⟨R1,R2,h1,_⟩,m1⟩ wx hbx;have hbw:=tb m1;have hz1:=hbw.size;have hz2:=hbx.size;obtain ⟨hE,_,c2,c3,_⟩:=h1.read;have htx:∀ wy,af wx wy->bU B wy:=fun wy hg=>ht.on ((hbw.trans (hbx.mono (by omega))).trans (YY hg (by omega)))
  have l1:=ar ((2*xs.length+bod.length+1:Nat):Int) (by omega) (by omega);have l2:=bm [47,82,111,111,116] (cat:Int) 5 (by simp) (by omega) (by omega);have l3:=bm [47,73,110,102,111] (inf:Int) 5 (by simp) (by omega) (by omega);exact pY wx Eb _ (inf:Int) (cat:Int) _ _ _ (by omega) (by omega) (by omega) (by omega) ((hbx.cell (p:=zq Eb 2) hE).trans c2) ((hbx.cell (p:=zq Eb 3) hE).trans c3) (fun wy hg=>bp B wy _ (by omega) (by omega) (htx wy hg)) (fun wy hg=>dF B wy [47,82,111,111,116] _ (by simp) (by omega) (by omega) (htx wy hg)) (fun wy hg=>dF B wy [47,73,110,102,111] _ (by simp) (by omega) (by omega) (htx wy hg))
 ·rintro Eb eb cb w1 ⟨S1,h1,m1⟩ wx hbx;rw [Zy (ZW _)] at h1;have h2:=(ah.thing (zG.thing _ _ _ _ _ _ _) (hT _ _)).grow h1 hbx;obtain ⟨R1,hF,_,back⟩:=ah.snd (zG.thing _ _ _ _ _ _ _) h2;have l1:=ar ((2*xs.length+bod.length+1:Nat):Int) (by omega) (by omega);have l2:=bm [47,82,111,111,116] (cat:Int) 5 (by simp) (by omega) (by omega);have l3:=bm [47,73,110,102,111] (inf:Int) 5 (by simp) (by omega) (by omega);have l4:=ar ((U.length+(aF fi bod).length:Nat):Int) (by omega) (by omega);have l6:(iL (2*xs.length+bod.length+1) cat inf).length<=1000:=by
   simp only [iL,ZY,ZX,ZR];omega
  have e9:U++(aF fi bod++iE (cb9++aO U.length fi bod) cat inf (U.length+(aF fi bod).length))=U++aF fi bod++(fu (cb9++aO U.length fi bod)++iL (2*xs.length+bod.length+1) cat inf++[115,116,97,114,116,120,114,101,102,10]++Lib.itoa ((U++aF fi bod).length:Int)++[10,37,37,69,79,70,10]):=by
   rw [iE,hbgl,ZY,ZS U]
  have hokE:=hok0;rw [e9] at hokE;refine (aX.writeM d (ZW _) hF _ (by rw [ae];simp only [ZY,ZX,ZR] at hxl2 ⊢;omega) (by simpa using hokE)).mono ?_;rintro e w' (⟨_,rfl,S',hf',m⟩ | ⟨hno,_⟩)
  ·obtain ⟨S2,h3,m3⟩:=back _ _ _ hf' m;obtain ⟨R3,R4,_,h4,_,hS2⟩:=h3;refine ⟨rfl,rfl,cb9++aO U.length fi bod,R4,?_,((m1.trans (Mv.grow hbx _)).trans m3).trans ⟨Fr.refl _ _,fun k hk=>.inl (by rw [hS2];exact .inr hk)⟩⟩;rw [e9];simpa using h4
  ·exact absurd (by simpa using hokE) hno
end
end Go.Proofs.YtbklfkpjoinofaaGreatDoor
