import Derived.Test.YtbklfkpjoinofaaGreatDoorA39
set_option linter.all false
set_option maxRecDepth 100000
set_option maxHeartbeats 8000000
namespace Go.Proofs.YtbklfkpjoinofaaGreatDoor
open Go.RowKit Go.Proofs.Tryz
theorem bm (key:List UInt8) (n:Int) (k:Nat) (hk:key.length<=k) (h0:-1000000000<=n) (h1:n<=1000000000):(bt key n).length<=k+27:=by
 have:=gJ n (by omega) (by omega);unfold bt;split
 ·simp
 ·simp only [ZZ,ZY,ZW];omega
theorem ED.start {B:Nat} {w:World} (first:Int) (hB:B<=w.heap.size):∃ S,ED B w.heap.size first 0 0 [] (w.alloc (.cells #[first,.slice none 0 0,oz,oz] 185)) S:=by
 have h1:aS B w.heap.size [.int .i64 first,.slice none 0 0,.int .i64 0,.int .i64 0] (w.alloc (.cells #[first,.slice none 0 0,oz,oz] 185)) (cC w.heap.size):=aS.alloc hB;exact ⟨_,.slice none 0 0,cC w.heap.size,ob (.slice none 0 0),h1,aW.nil _ _ _ _,fun k _ h=>by simp [ob,Value.ownBlock] at h,rfl⟩
theorem ED.setInfo {B E:Nat} {first info cat:Int} {bodies:List (List UInt8)} {w:World} {S:Bl} (h:ED B E first info cat bodies w S) (k:Int):w.cell? (zq E 2)=info/\w.frozen? (zq E 2)=false/\∃ S',ED B E first k cat bodies (w.setCell (zq E 2) k) S'/\Mv S w S' (w.setCell (zq E 2) k):=by
 obtain ⟨vb,h⟩:=h;obtain ⟨S1,hc,_,back⟩:=ah.fst (aW.thing _ _ _ _ _ _) h;obtain ⟨h2,m2⟩:=hc.set 2 (.int .i64 k) (by simp);obtain ⟨S',h',m'⟩:=back _ _ _ h2 m2;exact ⟨hc.at 2 _ rfl,hc.fz 2,S',⟨vb,h'⟩,m'⟩
theorem ED.setCat {B E:Nat} {first info cat:Int} {bodies:List (List UInt8)} {w:World} {S:Bl} (h:ED B E first info cat bodies w S) (k:Int):w.cell? (zq E 3)=cat/\w.frozen? (zq E 3)=false/\∃ S',ED B E first info k bodies (w.setCell (zq E 3) k) S'/\Mv S w S' (w.setCell (zq E 3) k):=by
 obtain ⟨vb,h⟩:=h;obtain ⟨S1,hc,_,back⟩:=ah.fst (aW.thing _ _ _ _ _ _) h;obtain ⟨h2,m2⟩:=hc.set 3 (.int .i64 k) (by simp);obtain ⟨S',h',m'⟩:=back _ _ _ h2 m2;exact ⟨hc.at 3 _ rfl,hc.fz 3,S',⟨vb,h'⟩,m'⟩
theorem ij (n:Int) (h0:-100000000<=n) (h1:n<=100000000):(bJ n).length<=30:=ZN (eu n h0 h1) (by omega)
theorem qU {B B':Nat} {w:World} (h:bU B w) (hb:B<=B'):bU B' w:=fun w' h'=>h w' (h'.mono hb)
theorem pX (w:World) (B0 fi:Nat) (zs:List (Int×Int)) (ti:ByteArray) (ms:List (ByteArray×Nat)) (adz adm:Option Addr) (capz capm:Nat) (hB0:B0<=w.heap.size) (ht0:bU B0 w) (hfi:fi<=500) (hz:zs.length<=80) (hzs:∀ z∈zs,bG z.1 1 14400000/\bG z.2 1 14400000) (hti:ti.size<=100) (hm:ms.length<=20) (hms:∀ m∈ms,m.1.size<=100/\m.2<=80)
  (hLz:fB (.slice adz zs.length capz) zs.length (rN zs) w) (hLm:fB (.slice adm ms.length capm) ms.length (iz ms) w):
  CP 137 #[(fi:Int),.slice adz zs.length capz,ti,.slice adm ms.length capm] w fun e w'=>e=.returned (zp w.heap.size)/\Below w w w'/\∃ S',ED w.heap.size w.heap.size (fi:Int) (fo fi zs (ax ms) ti.data.toList:Nat) (l7 fi zs (ax ms) ti.data.toList:Nat) (cI fi zs (ax ms) ti.data.toList) w' S':=by
 obtain ⟨E,hE⟩:∃ E,E=w.heap.size:=⟨_,rfl⟩;have ht:bU E w:=qU ht0 (by omega);rw [<-hE];have hLz2:=hLz;have hLm2:=hLm;obtain ⟨_,_,hv,hcap,hcap2,hcellz⟩:=hLz2;simp at hv;obtain ⟨rfl,rfl⟩:=hv;have P0:∀ {d info cat w1 S1},ED E E (fi:Int) info cat d w1 S1->∀ {w2 S2},Below E w w1->Mv S1 w1 S2 w2->Below E w w2:=fun {d info cat w1 S1} h1 {w2 S2} hb m=>hb.trans (m.below (fun _ e=>(ED.thing _ _ _ _ _ _).ge h1 e) (by have:=hb.size;omega))
 have adds:∀ (info cat:Int) (d:List (List UInt8)) (s:List UInt8) w1 S1,d.length<=2000->ED E E (fi:Int) info cat d w1 S1->Below E w w1->∀ w2,Below w1 w1 w2->CP 171 #[zp E,.string ⟨s.toArray⟩] w2 fun e w'=>e=.returned ((fi+d.length:Nat):Int)/\∃ S',ED E E (fi:Int) info cat (d++[s]) w' S'/\Below E w w'/\Mv S1 w1 S' w':=by
  intro info cat d s w1 S1 hd h1 hb1 w2 hb2;have hz:=hb1.size;refine (jb w2 E E (fi:Int) info cat d S1 s ((ED.thing _ _ _ _ _ _).grow h1 hb2) (by have:=hb2.size;omega) (by omega) (by omega) (by omega)).mono ?_;rintro e w3 ⟨rfl,S3,h3,m3⟩;have m9:=(Mv.grow hb2 S1).trans m3;exact ⟨by congr 2,S3,h3,P0 h1 hb1 m9,m9⟩
 have tabs:∀ {w1},Below E w w1->∀ {w2},Below w1 w1 w2->bU E w2:=fun {w1} hb1 {w2} hb2=>ht.on (hb1.trans (hb2.mono (by have:=hb1.size;omega)))
 have hs:=iO (fi+1) zs.length (by omega) hz;have hrl:1<=(cR (fi+1) zs.length).length:=by simp [cR]
 have hne:cR (fi+1) zs.length≠[]:=by simp [cR]
 have hr0:rowAt (cR (fi+1) zs.length) 0=(fi+1,zs.length,1):=rfl;have hup:∀ i,rR ((cR (fi+1) zs.length).drop 1) i=fi+1+zs.length+i / 8:=fun i=>lv _ _ _ i
 obtain ⟨rows,hrows⟩:∃ rows,cR (fi+1) zs.length=rows:=⟨_,rfl⟩;rw [hrows] at hs hrl hne hr0 hup;have hat:∀ i,i < zs.length->∃ z,zs[i]? =some z/\zs.getD i (0,0)=z/\bG z.1 1 14400000/\bG z.2 1 14400000:=fun i hi=>⟨zs[i],ZK hi,by simp [hi],hzs _ (YK hi)⟩
 have hnl:=ib zs.length (fi+1) zs.length 1;have hb1l:(b_ fi zs).length=1+zs.length+(bS zs.length (fi+1) zs.length 1).length:=by
  simp only [b_,ZY,ZZ,dZ];omega
 have hmkl:(dd (fi+(b_ fi zs).length) (fi+1) (ax ms)).length<=21:=by
  unfold dd;split
  ·simp
  ·simp only [ZY,dN,ax,YG];omega
 have hb2l:(eG fi zs (ax ms)).length<=300:=by
  simp only [eG,ZZ];omega
 have hb3l:(dG fi zs (ax ms) ti.data.toList).length<=301:=by
  simp only [dG,ZZ];split <;> simp <;> omega
 have hqt:=gX ti.data.toList;rw [aP] at hqt;have hrootl:fJ fi zs<=100000:=by unfold fJ;omega
 have houtl:kL fi zs (ax ms)<=100000:=by unfold kL;split <;> omega
 refine oG w E fi fi (fi+1) ((adz.getD ⟨0,0,none⟩).block) zs.length capz ms.length capm (fJ fi zs) (kL fi zs (ax ms)) (fo fi zs (ax ms) ti.data.toList) (l7 fi zs (ax ms) ti.data.toList) adm adz ti (fun i=>zs.getD i (0,0)) (fun i=>((fi+1+zs.length+i / 8:Nat):Int)) (fun i=>vO fi zs.length i (zs.getD i (0,0))) (bc ti.data.toList) (aD (fJ fi zs:Int)) (bt [47,79,117,116,108,105,110,101,115] (kL fi zs (ax ms):Int)) (vu (fJ fi zs) (kL fi zs (ax ms)))
  (fun w1=>∃ S1,ED E E (fi:Int) 0 0 [ej] w1 S1/\Below E w w1)
  (fun w1=>∃ S1,ED E E (fi:Int) 0 0 [ej] w1 S1/\Below E w w1)
  (fun rb rn rcap i w1=>∃ S1,ah (ED E E (fi:Int) 0 0 (ej::cA fi zs.length 0 (zs.take i))) (aW E 229 3 (.slice (zp rb) rn rcap) rows.length (eF rows)) w1 S1/\Below E w w1)
  (fun rb rn rcap w1=>∃ S1,ah (ED E E (fi:Int) 0 0 (b_ fi zs)) (aW E 229 3 (.slice (zp rb) rn rcap) rows.length (eF rows)) w1 S1/\Below E w w1)
  (fun w1=>∃ S1,ED E E (fi:Int) 0 0 (eG fi zs (ax ms)) w1 S1/\Below E w w1)
  (fun w1=>∃ S1,ED E E (fi:Int) 0 0 (dG fi zs (ax ms) ti.data.toList) w1 S1/\Below E w w1)
  (fun w1=>∃ S1,ED E E (fi:Int) (fo fi zs (ax ms) ti.data.toList:Nat) 0 (dG fi zs (ax ms) ti.data.toList) w1 S1/\Below E w w1)
  (fun w1=>∃ S1,ED E E (fi:Int) (fo fi zs (ax ms) ti.data.toList:Nat) 0 (cI fi zs (ax ms) ti.data.toList) w1 S1/\Below E w w1)
  _ hE (by omega) hcap hcap2 ?_ (by omega) ?_ ?_ ?_ ?_ ?_ ?_ ?_ ?_ ?_ ?_ ?_ ?_ ?_ ?_ ?_ ?_ ?_ ?_ ?_ ?_
 ·intro h0;obtain ⟨b,rfl,_⟩:=hcellz h0;rfl
 ·have:=gJ (fJ fi zs:Int) (by omega) (by omega);omega
 ·have:=bm [47,79,117,116,108,105,110,101,115] (kL fi zs (ax ms):Int) 9 (by simp) (by omega) (by omega);omega
 ·obtain ⟨S1,h1⟩:=ED.start (B:=E) (w:=w) (fi:Int) (by omega);rw [<-hE] at h1;have hb1:Below E w (w.alloc (.cells #[(fi:Int),.slice none 0 0,oz,oz] 185)):=(ZV _ w).alloc (by omega) _;refine (adds 0 0 [] ej _ S1 (by simp) h1 hb1 _ (ZV _ _)).mono ?_;rintro e w' ⟨rfl,S2,h2,hb2,_⟩;exact ⟨rfl,S2,h2,hb2⟩
 ·rintro w1 ⟨S1,h1,hb1⟩;obtain ⟨ad2,cap2,c0,c1⟩:=h1.cells;refine (kh w1 E (fi:Int) ad2 _ cap2 c0 c1 (by omega) (by omega) (by simp)).mono ?_;rintro e w2 ⟨rfl,q,rfl⟩;exact ⟨rfl,S1,(ED.thing _ _ _ _ _ _).drewN h1 q,cU hb1⟩
 ·rintro w1 ⟨S1,h1,hb1⟩;refine (tz w1 (fi+1) zs.length (by omega) hz).mono ?_;rintro e w2 ⟨v,rfl,ow,hb2⟩;rw [hrows] at ow;obtain ⟨g,cap,hv,_,_,_⟩:=iF ow (by omega);have hz1:=hb1.size;have hlt:=ow.lt;have h2:aW E 229 3 v rows.length (eF rows) w2 (ob v):=⟨rfl,World.ownsRow.mono ow (by omega)⟩;obtain ⟨h3,m3⟩:=ah.new (ED.thing _ _ _ _ _ _) h1 h2 hb2 (fun k hk=>by have:=(hlt k hk).1;omega);rw [hv] at h3;have h4:=ah.swap h3;refine ⟨g,rows.length,cap,by rw [hv],_,h4,hb1.trans (hb2.mono (by omega))⟩
 ·rintro rb rn rcap i w1 hi ⟨S1,h1,hb1⟩;obtain ⟨b,had,hb,hc⟩:=hcellz (by omega);subst had;obtain ⟨z,hzi,e,_⟩:=hat i hi;obtain ⟨a1,a2⟩:=zm zs i z hzi;have hbE:b < E:=by omega
  show w1.rangeAt b (i*2) [.int .i64 (zs.getD i (0,0)).1,.int .i64 (zs.getD i (0,0)).2]
  rw [e];exact pL ((hb1.cell (p:=⟨b,_,none⟩) hbE).trans (hc _ _ a1)) ((hb1.cell (p:=⟨b,_,none⟩) hbE).trans (hc _ _ a2))
 ·rintro rb rn rcap i w1 hi ⟨S1,⟨R1,R2,h1,h2,_⟩,hb1⟩ w2 hb2;have htr:=(lW h2.2 hne).on hb2;have:=kZ w2 rows _ hs htr 0 i (by omega) (by omega);rw [hup] at this;exact this
 ·rintro rb rn rcap i w1 hi ⟨S1,⟨R1,R2,h1,h2,_⟩,hb1⟩ w2 hb2;obtain ⟨z,hzi,e,hz1,hz2⟩:=hat i hi;have htw:=tabs hb1 hb2;have hzw:=hb1.size;have hzw2:=hb2.size;unfold bG at hz1 hz2;show CP _ #[.agg #[.int .i64 (zs.getD i (0,0)).1,.int .i64 (zs.getD i (0,0)).2],_,_,_] w2 fun e w'=>e=.returned (.string ⟨(vO fi zs.length i (zs.getD i (0,0))).toArray⟩)/\_
  rw [e];refine og w2 z.1 z.2 _ _ _ (bJ z.1) (bJ z.2) _ _ _ (ij _ (by omega) (by omega)) (ij _ (by omega) (by omega)) ?_ ?_ ?_ ?_ ?_ ?_ ?_ ?_
  ·have:=bm [47,80,97,114,101,110,116] ((fi+1+zs.length+i / 8:Nat):Int) 7 (by simp) (by omega) (by omega);omega
  ·have:=bm [47,67,111,110,116,101,110,116,115] ((2*i+1:Nat):Int) 9 (by simp) (by omega) (by omega);omega
  ·have:=bm [47,70,49] (fi:Int) 3 (by simp) (by omega) (by omega);omega
  ·intro wx hg;exact jz E wx z.1 (by omega) (by omega) (by have:=Below.size hg;omega) (htw.on (YY hg (by omega)))
  ·intro wx hg;exact jz E wx z.2 (by omega) (by omega) (by have:=Below.size hg;omega) (htw.on (YY hg (by omega)))
  ·intro wx hg;exact dF E wx [47,80,97,114,101,110,116] _ (by simp) (by omega) (by omega) (htw.on (YY hg (by omega)))
  ·intro wx hg;exact dF E wx [47,67,111,110,116,101,110,116,115] _ (by simp) (by omega) (by omega) (htw.on (YY hg (by omega)))
  ·intro wx hg;exact dF E wx [47,70,49] _ (by simp) (by omega) (by omega) (htw.on (YY hg (by omega)))
 ·rintro rb rn rcap i w1 hi ⟨S1,h1,hb1⟩ w2 hb2;obtain ⟨z,hzi,e,_⟩:=hat i hi;have h2:=(ah.thing (ED.thing E E (fi:Int) 0 0 (ej::cA fi zs.length 0 (zs.take i))) (aW.thing E 229 3 (.slice rb rn rcap) rows.length (eF rows))).grow h1 hb2;have hbw2:Below E w w2:=hb1.trans (hb2.mono (by have:=hb1.size;omega));obtain ⟨S2,hE2,_,back⟩:=ah.fst (aW.thing _ _ _ _ _ _) h2;refine ⟨((fi+(ej::cA fi zs.length 0 (zs.take i)).length:Nat):Int),(adds 0 0 _ (vO fi zs.length i (zs.getD i (0,0))) w2 S2 (by simp only [ZY,dZ,Zx];omega) hE2 hbw2 w2 (ZV _ _)).mono ?_⟩;rintro e9 w3 ⟨rfl,S3,h3,hb3,m3⟩;obtain ⟨S4,h4,m4⟩:=back _ _ _ h3 m3;refine ⟨rfl,S4,?_,hb3⟩;have hil:i < zs.length:=hi;rw [ZH hil,pV,Zx,Zr (by omega),Zc];have ez:zs[i]=zs.getD i (0,0):=by simp [hil]
  rw [ez];simpa using h4
 ·rintro rb rn rcap w1 ⟨S1,h1,hb1⟩;rw [ZF (ZX _)] at h1;have hz1:=hb1.size;rw [<-hrows] at h1;refine (qh w1 E E fi 0 0 _ S1 _ (fi+1) zs.length (by omega) (ht.on hb1) (by omega) hz (by omega) (by simp only [ZY,dZ];omega) h1).mono ?_;rintro e w2 ⟨rfl,S2,h2,m2⟩;refine ⟨?_,S2,?_,?_⟩
  ·simp only [ZY,dZ];unfold fJ;rw [hb1l];congr 2;omega
  ·rw [<-hrows];simpa [b_] using h2
  ·exact hb1.trans (m2.below (fun _ e=>(ah.thing (ED.thing _ _ _ _ _ _) (aW.thing _ _ _ _ _ _)).ge h1 e) (by omega))
 ·rintro rb rn rcap w1 ⟨S1,⟨R1,R2,h1,h2,_⟩,hb1⟩;obtain ⟨b,cap,hv,hc,hcm,_,hcell⟩:=lW h2.2 hne;rw [YG] at hv hc;simp at hv;obtain ⟨rfl,rfl,rfl⟩:=hv;refine ⟨by omega,hc,hcm,?_⟩;have:=(hcell 0 (nS (rowAt rows 0)) (by rw [YT,dR (by omega)];rfl)).1;rw [hr0] at this;simpa [nS] using this
 ·rintro rb rn rcap w1 ⟨S1,⟨R1,R2,h1,h2,_⟩,hb1⟩ q;have hb1':Below E w (w1.drewN q):=cU hb1;have hz1:=hb1'.size;refine (pH (w1.drewN q) E E fi (fi+1) 0 0 (b_ fi zs) R1 adm capm ms (by omega) (ht.on hb1') (by omega) (by omega) (by omega) hm hms (hLm.on (hb1'.mono (by omega))) ?_ ((ED.thing _ _ _ _ _ _).drewN h1 q)).mono ?_
  ·intro hm0 b hb;obtain ⟨_,_,hv,_,_,hc⟩:=hLm;simp at hv;obtain ⟨rfl,rfl⟩:=hv;obtain ⟨b',hb',hlt,_⟩:=hc hm0;rw [hb] at hb';simp at hb';subst hb';omega
  ·rintro e w2 ⟨rfl,S2,h3,m3⟩;exact ⟨rfl,S2,h3,hb1'.trans (m3.below (fun _ e=>(ED.thing _ _ _ _ _ _).ge h1 e) (by omega))⟩
 ·rintro h0 w1 ⟨S1,h1,hb1⟩;have h0':ti.data.toList=[]:=by rw [<-Yy];exact h0
  refine ⟨S1,?_,hb1⟩;rw [fo,dG,ZO h0',ZO h0',Zm];exact h1
 ·rintro h0 w1 ⟨S1,h1,hb1⟩;exact jK w1 ti (by omega)
 ·rintro h0 w1 ⟨S1,h1,hb1⟩ w2 hb2;have h0':¬ ti.data.toList=[]:=by rw [<-Yy];exact h0
  refine (adds 0 0 _ (gx ti.data.toList) w1 S1 (by omega) h1 hb1 w2 hb2).mono ?_;rintro e w3 ⟨rfl,S3,h3,hb3,_⟩;refine ⟨?_,S3,?_,hb3⟩
  ·rw [fo,ZU h0']
  ·rw [dG,ZU h0'];exact h3
 ·rintro w1 ⟨S1,h1,hb1⟩;obtain ⟨c2,f2,S2,h2,m2⟩:=h1.setInfo (fo fi zs (ax ms) ti.data.toList:Nat);exact ⟨⟨_,c2⟩,f2,S2,h2,P0 h1 hb1 m2⟩
 ·rintro w1 ⟨S1,h1,hb1⟩ w2 hb2;exact i' E w2 _ (by omega) (by omega) (tabs hb1 hb2)
 ·rintro w1 ⟨S1,h1,hb1⟩ w2 hb2;exact dF E w2 [47,79,117,116,108,105,110,101,115] _ (by simp) (by omega) (by omega) (tabs hb1 hb2)
 ·rintro w1 ⟨S1,h1,hb1⟩ w2 hb2;refine (adds _ 0 _ (vu (fJ fi zs) (kL fi zs (ax ms))) w1 S1 (by omega) h1 hb1 w2 hb2).mono ?_;rintro e w3 ⟨rfl,S3,h3,hb3,_⟩;exact ⟨rfl,S3,h3,hb3⟩
 ·rintro w1 ⟨S1,h1,hb1⟩;obtain ⟨c2,f2,S2,h2,m2⟩:=h1.setCat (l7 fi zs (ax ms) ti.data.toList:Nat);exact ⟨⟨_,c2⟩,f2,rfl,P0 h1 hb1 m2,S2,h2⟩
theorem oH (p:Nat) (hp:p<=80):∀ (ups:List (Nat×Nat×Nat)) (b0:Nat×Nat×Nat),(∀ r∈b0::ups,r.1<=2000/\r.2.1<=80/\r.2.2<=512)->∀ b∈dJ p b0 ups,b.length<=2000:=by
 intro ups;induction ups with
 | nil=>intro b0 _ b hb;simp [dJ] at hb
 | cons r rest ih=>
  intro b0 h b hb;rw [dJ,YB] at hb;rcases hb with hb | hb
  ·obtain ⟨i,hi,rfl⟩:=YN.1 hb;rw [Yo] at hi;have h0:=h b0 (by simp);have h1:=h r (by simp);have hu:rR rest i<=3000:=by
    cases rest with
    | nil=>simp [rR]
    | cons q l=>have:=(h q (by simp)).1;simp only [rR];omega
   have l1:=bm [47,80,97,114,101,110,116] ((rR rest i:Nat):Int) 7 (by simp) (by omega) (by omega);have l2:=oR b0.1 b0.2.1 i (by omega) (by omega);have h3:=jR p r.2.2 i hp h1.2.2 (by omega);have l3:=av (bV p r.2.2 i) (by omega) (by omega);simp only [jN,ZZ,ZY,ZW];omega
  ·exact ih r (fun q hq=>h q (by rcases YJ.1 hq with rfl | hq <;> simp [*])) b hb
theorem pP (p f:Nat) (hf:f<=1000) (hp:p<=80):∀ b∈bS p f p 1,b.length<=2000:=by
 rw [<-mj];exact oH p hp _ _ (iO f p hf hp).mem
theorem jv (font p:Nat) (hf:font<=1000) (hp:p<=80):∀ (zs:List (Int×Int)) (i:Nat),i+zs.length<=80->(∀ z∈zs,bG z.1 1 14400000/\bG z.2 1 14400000)->∀ b∈cA font p i zs,b.length<=2000
 | [],_,_,_,b,hb=>by simp [cA] at hb
 | z::l,i,hi,hz,b,hb=>by
  simp only [ZY] at hi;rcases YJ.1 hb with rfl | hb
  ·obtain ⟨h1,h2⟩:=hz z (by simp);unfold bG at h1 h2;have l1:=ij z.1 (by omega) (by omega);have l2:=ij z.2 (by omega) (by omega);have l3:=bm [47,80,97,114,101,110,116] ((font+1+p+i / 8:Nat):Int) 7 (by simp) (by omega) (by omega);have l4:=bm [47,67,111,110,116,101,110,116,115] ((2*i+1:Nat):Int) 9 (by simp) (by omega) (by omega);have l5:=bm [47,70,49] (font:Int) 3 (by simp) (by omega) (by omega);simp only [vO,pn,ZZ,ZY,ZW];omega
  ·exact jv font p hf hp l (i+1) (by omega) (fun y hy=>hz y (by simp [hy])) b hb
theorem iv (all m fp:Nat) (ha:all<=10000) (hf:fp<=10000):∀ (l:List (List UInt8×Nat)) (i:Nat),i+l.length<=100->(∀ x∈l,x.1.length<=100/\x.2<=80)->∀ b∈bK all m fp i l,b.length<=2000
 | [],_,_,_,b,hb=>by simp [bK] at hb
 | x::l,i,hi,hz,b,hb=>by
  simp only [ZY] at hi;rcases YJ.1 hb with rfl | hb
  ·obtain ⟨h1,h2⟩:=hz x (by simp);have l1:=gX x.1;have l2:=bm [47,80,97,114,101,110,116] (all:Int) 7 (by simp) (by omega) (by omega);have l3:=bm [47,80,114,101,118] (if i=0 then 0 else ((all+i:Nat):Int)) 5 (by simp) (by split <;> omega) (by split <;> omega);have l4:=bm [47,78,101,120,116] (if i+1=m then 0 else ((all+i+2:Nat):Int)) 5 (by simp) (by split <;> omega) (by split <;> omega);have l5:=dU (fp+x.2) (by omega);simp only [iK,ZZ,ZY,ZW];omega
  ·exact iv all m fp ha hf l (i+1) (by omega) (fun y hy=>hz y (by simp [hy])) b hb
theorem qV (all m:Nat) (ha:all<=10000) (hm:m<=100):(f_ all m).length<=2000:=by
 have l2:=bm [47,70,105,114,115,116] ((all+1:Nat):Int) 6 (by simp) (by omega) (by omega);have l3:=bm [47,76,97,115,116] ((all+m:Nat):Int) 5 (by simp) (by omega) (by omega);have l4:=av (m:Int) (by omega) (by omega);simp only [f_,ZZ,ZY,ZW];omega
theorem fW (fi:Nat) (zs:List (Int×Int)) (ms:List (List UInt8×Nat)) (t:List UInt8) (hfi:fi<=500) (hz:zs.length<=80) (hzs:∀ z∈zs,bG z.1 1 14400000/\bG z.2 1 14400000) (ht:t.length<=100) (hm:ms.length<=20) (hms:∀ m∈ms,m.1.length<=100/\m.2<=80):(cI fi zs ms t).length<=310/\1<=(cI fi zs ms t).length/\(∀ b∈cI fi zs ms t,b.length<=2000)/\l7 fi zs ms t<=1000/\fo fi zs ms t<=1000:=by
 have hnl:=ib zs.length (fi+1) zs.length 1;have hb1l:(b_ fi zs).length=1+zs.length+(bS zs.length (fi+1) zs.length 1).length:=by
  simp only [b_,ZY,ZZ,dZ];omega
 have hmkl:(dd (fi+(b_ fi zs).length) (fi+1) ms).length<=21:=by
  unfold dd;split
  ·simp
  ·simp only [ZY,dN];omega
 have hb2l:(eG fi zs ms).length<=300:=by
  simp only [eG,ZZ];omega
 have hb3l:(dG fi zs ms t).length<=301:=by
  simp only [dG,ZZ];split <;> simp <;> omega
 have hrootl:fJ fi zs<=1000:=by unfold fJ;omega
 have houtl:kL fi zs ms<=1000:=by unfold kL;split <;> omega
 refine ⟨by simp only [cI,ZZ,ZY,ZW];omega,by simp only [cI,ZZ,ZY,ZW];omega,?_,by unfold l7;omega,by unfold fo;split <;> omega⟩;intro b hb;simp only [cI,dG,eG,b_,YB,YJ,XV,or_false] at hb;rcases hb with (((rfl | hb | hb) | hb) | hb) | rfl
 ·simp [ej]
 ·exact jv fi zs.length (by omega) hz zs 0 (by omega) hzs b hb
 ·exact pP zs.length (fi+1) (by omega) hz b hb
 ·unfold dd at hb;split at hb
  ·simp at hb
  ·rcases YJ.1 hb with rfl | hb
   ·exact qV _ _ (by have:=hb1l;unfold b_ at this;omega) (by omega)
   ·refine iv _ ms.length (fi+1) (by have:=hb1l;unfold b_ at this;omega) (by omega) ms 0 (by omega) hms b hb
 ·split at hb
  ·simp at hb
  ·simp at hb;subst hb;have:=gX t;simp only [gx,ZZ,ZY,ZW];omega
 ·have l1:=dU (fJ fi zs) (by omega);have l2:=bm [47,79,117,116,108,105,110,101,115] (kL fi zs ms:Int) 9 (by simp) (by omega) (by omega);simp only [vu,ZZ,ZY,ZW];omega
theorem fK:∀ (l:List (List UInt8)) (n:Nat),n+l.length<=100000->(∀ b∈l,b.length<=2000)->(aF n l).length<=2040*l.length
 | [],_,_,_=>by simp [aF]
 | b::l,n,hn,h=>by
  simp only [ZY] at hn;have h1:=eK n (by omega);have h2:=h b (by simp);have h3:=fK l (n+1) (by omega) (fun y hy=>h y (by simp [hy]));simp only [aF,aK,eh,ZZ,ZY,ZW];omega
theorem iT:∀ (l:List (List UInt8)) (a n:Nat),∀ x∈aO a n l,x<=a+(aF n l).length
 | [],_,_,x,h=>by simp [aO] at h
 | b::l,a,n,x,h=>by
  rcases YJ.1 h with rfl | h
  ·omega
  ·have:=iT l _ _ x h;simp only [aF,ZZ];omega
theorem jk:∀ (l:List (List UInt8)) (a i:Nat),∀ x∈be a i l,x<=a+(bW i l).length
 | [],_,_,x,h=>by simp [be] at h
 | Z::l,a,i,x,h=>by
  rw [be,YB] at h;rcases h with h | h
  ·simp only [kc,YJ,XV,or_false] at h;rcases h with rfl | rfl
   ·omega
   ·simp only [bW,d_,ZZ];omega
  ·have:=jk l _ _ x h;simp only [bW,ZZ];omega
def zG (B E:Nat) (vb:Value) (first info cat:Int) (bodies:List (List UInt8)):As:=ah (aS B E [.int .i64 first,vb,.int .i64 info,.int .i64 cat]) (aW B 9 1 vb bodies.length (eY bodies))
theorem zG.thing (B E:Nat) (vb:Value) (first info cat:Int) (bodies:List (List UInt8)):aJ B (zG B E vb first info cat bodies):=ah.thing (aS.thing _ _ _) (aW.thing _ _ _ _ _ _)
theorem ED.named {B B' E:Nat} {first info cat:Int} {bodies:List (List UInt8)} {w:World} {S:Bl} (h:ED B' E first info cat bodies w S) (hB:B<=B') (hb:0 < bodies.length):∃ g cap,bodies.length<=cap/\cap<=9223372036854775807/\zG B E (.slice (zp g) bodies.length cap) first info cat bodies w S:=by
 obtain ⟨vb,S1,S2,h1,h2,ho,hS⟩:=h;obtain ⟨g,cap,rfl,hc,hc2,_⟩:=iF h2.2 hb;exact ⟨g,cap,hc,hc2,S1,S2,⟨h1.1,by have:=h1.2.1;omega,h1.2.2⟩,⟨h2.1,World.ownsRow.mono h2.2 hB⟩,ho,hS⟩
theorem zG.read {B E g cap:Nat} {first info cat:Int} {bodies:List (List UInt8)} {w:World} {S:Bl} (h:zG B E (.slice g bodies.length cap) first info cat bodies w S):E < w.heap.size/\w.cell? (zq E 1)=some (.slice g bodies.length cap)/\w.cell? (zq E 2)=info/\w.cell? (zq E 3)=cat/\∀ i b,bodies[i]? =some b->w.cell? (zq g i)=some (.string ⟨b.toArray⟩):=by
 obtain ⟨S1,S2,h1,h2,_⟩:=h;refine ⟨h1.2.2.1,h1.at 1 _ rfl,h1.at 2 _ rfl,h1.at 3 _ rfl,fun i b hb=>?_⟩;have:=h2.2.cells (g:=g) rfl i (.string ⟨b.toArray⟩) (by simp [eY,hb]);have hadd:(⟨g,0,none⟩:Addr).add i=⟨g,i,none⟩:=by unfold Addr.add;split <;> simp_all
 rwa [hadd] at this
theorem fB.turned {ad:Option Addr} {n cap:Nat} {xs:List Value} {w w':World} {S S':Bl} (h:fB (.slice ad n cap) n xs w) (m:Mv S w S' w') (ho:0 < n->∀ b,ad=some ⟨b,0,none⟩->¬ S b):fB (.slice ad n cap) n xs w':=by
 obtain ⟨ad',cap',hv,h1,h2,h3⟩:=h;simp at hv;obtain ⟨rfl,rfl⟩:=hv;refine ⟨ad,cap,rfl,h1,h2,fun hn=>?_⟩;obtain ⟨b,rfl,hb,hc⟩:=h3 hn;exact ⟨b,rfl,ZR hb m.size,fun i x hx=>(ZS (a:=zq b i) (m.keep hb (ho hn b rfl))).trans (hc i x hx)⟩
theorem aX.rows {K:World->Bl->List UInt8->Prop} {B Fb C:Nat} {ty:TypeId} {q:Value} {begins:List Nat} {sizes:List (Int×Int)} {X:List UInt8} {w:World} {S:Bl} (h:aX K B Fb C ty q begins sizes X w S):∃ vb vz,w.cell? (zq Fb 1)=some vb/\w.cell? (zq Fb 2)=some vz/\fB vb begins.length (eg begins) w/\fB vz sizes.length (rN sizes) w:=by
 obtain ⟨_,_,⟨vb,vz,S1,S2,h1,⟨S3,S4,h3,h4,_⟩,_⟩,_⟩:=h;exact ⟨vb,vz,h1.at 1 _ rfl,h1.at 2 _ rfl,h3.lies,h4.lies⟩
theorem Ae (l:List Nat) (i x:Nat) (h:l[i]? =some x):(eg l)[i]? =some (.int .i64 (x:Int)):=by simp [eg,h]
theorem zt (n:Wn) (hlim:n.lim < 0) (w:World) (S:Bl) (xs:List iB) (X:List UInt8) (ti:ByteArray) (ms:List (ByteArray×Nat)) (adm:Option Addr) (capm:Nat) (hx:∀ x∈xs,kx x) (hX:(X=[]/\xs=[])\/X=aC (aA xs)) (hxl:xs.length<=80) (hti:ti.size<=100) (hm:ms.length<=20) (hms:∀ m∈ms,m.1.size<=100/\m.2<=80) (hB:n.B<=w.heap.size) (ht:bU n.B w)
  (hLm:fB (.slice adm ms.length capm) ms.length (iz ms) w) (hoff:0 < ms.length->∀ b,adm=some ⟨b,0,none⟩->¬ S b) (h:aX n.K n.B n.Fb n.C 89 n.sk (be 9 0 (aA xs)) (aQ xs) X w S):
  CP 95 #[zp n.Fb,ti,.slice adm ms.length capm] w fun e w'=>e=.returned .nilIface/\∃ bg S',aX n.K n.B n.Fb n.C 89 n.sk bg (aQ xs) (fO (aA xs) (aQ xs) (ax ms) ti.data.toList) w' S'/\Mv S w S' w':=by
 have hd:=n.down hlim;have hzl:(aA xs).length=xs.length:=by simp [aA]
 have hsl:(aQ xs).length=xs.length:=by simp [aQ]
 have hup:=cN hx hxl;have hbeg:=fX hX;have hXl:X.length<=100000000:=by
  have h2:(X++eW X).length<=100000000:=by rw [hbeg];exact hup
  simp at h2;omega
 have hzs:∀ z∈aQ xs,bG z.1 1 14400000/\bG z.2 1 14400000:=by
  intro z hz;simp only [aQ,YN,Yv] at hz;obtain ⟨x,hxm,rfl⟩:=hz;exact ⟨(hx x hxm).2.2.2.2.1,(hx x hxm).2.2.2.2.2⟩
 have hfont:cK (aA xs)=2*xs.length+1:=by rw [cK,hzl]
 have hms2:∀ m∈ax ms,m.1.length<=100/\m.2<=80:=by
  intro m hmm;simp only [ax,YN] at hmm;obtain ⟨y,hy,rfl⟩:=hmm;have:=hms y hy;exact ⟨by show y.1.data.toList.length<=100;rw [aP];omega,this.2⟩
 obtain ⟨hbl,hbl1,hbs,hcat,hinfo⟩:=fW (cK (aA xs)) (aQ xs) (ax ms) ti.data.toList (by omega) (by omega) hzs (by rw [aP];omega) (by simp [ax];omega) hms2;have hcbl:(be 9 0 (aA xs)).length=2*xs.length:=by rw [dy,hzl]
 have hfile:fO (aA xs) (aQ xs) (ax ms) ti.data.toList=aC (aA xs)++xS (aA xs) (aQ xs) (ax ms) ti.data.toList:=rfl;have hend:xS (aA xs) (aQ xs) (ax ms) ti.data.toList=dv (aA xs) (aQ xs) (ax ms) ti.data.toList++iE (eH (aA xs) (aQ xs) (ax ms) ti.data.toList) (l7 (cK (aA xs)) (aQ xs) (ax ms) ti.data.toList) (fo (cK (aA xs)) (aQ xs) (ax ms) ti.data.toList) ((aC (aA xs)).length+(dv (aA xs) (aQ xs) (ax ms) ti.data.toList).length):=rfl;have hobj:dv (aA xs) (aQ xs) (ax ms) ti.data.toList=aF (cK (aA xs)) (cI (cK (aA xs)) (aQ xs) (ax ms) ti.data.toList):=rfl;have hbgs:eH (aA xs) (aQ xs) (ax ms) ti.data.toList=be 9 0 (aA xs)++aO (aC (aA xs)).length (cK (aA xs)) (cI (cK (aA xs)) (aQ xs) (ax ms) ti.data.toList):=rfl;obtain ⟨fi,hfi⟩:∃ fi,cK (aA xs)=fi:=⟨_,rfl⟩;rw [hfi] at hbl hbl1 hbs hcat hinfo hend hobj hbgs hfont;have HEN:∀ wx,n.B<=wx.heap.size->bU n.B wx->∀ adz capz,fB (.slice adz (aQ xs).length capz) (aQ xs).length (rN (aQ xs)) wx->fB (.slice adm ms.length capm) ms.length (iz ms) wx->_:=fun wx h1 h2 adz capz h3 h4=>pX wx n.B fi (aQ xs) ti ms adz adm capz capm h1 h2 (by omega) (by omega) hzs hti hm hms h3 h4
 obtain ⟨bod,hbod⟩:∃ b,cI fi (aQ xs) (ax ms) ti.data.toList=b:=⟨_,rfl⟩;obtain ⟨cat,hcat2⟩:∃ b,l7 fi (aQ xs) (ax ms) ti.data.toList=b:=⟨_,rfl⟩;obtain ⟨inf,hinf2⟩:∃ b,fo fi (aQ xs) (ax ms) ti.data.toList=b:=⟨_,rfl⟩;simp only [hbod,hcat2,hinf2] at hbl hbl1 hbs hcat hinfo hend hobj hbgs HEN;obtain ⟨U,hU⟩:∃ U,aC (aA xs)=U:=⟨_,rfl⟩;rw [hU] at hup hbeg hfile hend hbgs;obtain ⟨cb9,hcb9⟩:∃ c,be 9 0 (aA xs)=c:=⟨_,rfl⟩;have hcble:∀ x∈cb9,x<=U.length:=by
  intro x hxm;rw [<-hcb9] at hxm;have:=jk _ _ _ x hxm;rw [<-hU,aC,cm,ZZ];simpa using this
 rw [hcb9] at hcbl hbgs h;have hobs:=fK bod fi (by omega) hbs;rw [hfile,hend,hobj,hbgs];clear hfile hend hobj hbgs hbod hcat2 hinf2 hcb9 hfi hX hx hms2;have hT:∀ bg Y,aJ n.B (aX n.K n.B n.Fb n.C 89 n.sk bg (aQ xs) Y):=fun bg Y=>aX.thing (jp.thing _ _ _) _ _ _ _ _ _ _
 have tb:∀ {S1 w1},Mv S w S1 w1->Below n.B w w1:=fun m=>m.below (fun _ e=>(hT _ _).ge h e) hB
 have hol:∀ i,(aF fi (bod.take i)).length<=2040*310:=fun i=>by
  have:=fK (bod.take i) fi (by rw [Zx];omega) (fun b hb=>hbs b (List.mem_of_mem_take hb));rw [Zx] at this;omega
 have hxl2:(U++aF fi bod).length<=101000000:=by
  rw [ZZ];omega
 have hbgl:(cb9++aO U.length fi bod).length=2*xs.length+bod.length:=by rw [ZZ,ck,hcbl]
 have hrows:(bR (cb9++aO U.length fi bod)).length<=20*(cb9++aO U.length fi bod).length:=by
  have gen:∀ l:List Nat,(∀ x∈l,x<=4000000000)->(bR l).length<=20*l.length:=by
   intro l;induction l with
   | nil=>intro _;simp [bR]
   | cons a r ih=>
    intro h;have h1:=ih (fun x hx=>h x (by simp [hx]));have h2:=kP a (by have:=h a (by simp);omega);simp only [bR,ux,ZZ,ZY,ZW];omega
  refine gen _ fun x hx=>?_
  rcases YB.1 hx with hx | hx
  ·have:=hcble x hx;omega
  ·have:=iT _ _ _ x hx;omega
 have l5:(fu (cb9++aO U.length fi bod)).length<=30000:=by
  have h9:=av ((2*xs.length+bod.length+1:Nat):Int) (by omega) (by omega);rw [hbgl] at hrows;unfold fu;rw [hbgl];simp only [ZZ,ZY,ZW];omega
 refine wW w n.Fb (2*xs.length) (2*xs.length+bod.length) (aQ xs).length ms.length capm bod.length n.C (U++aF fi bod).length adm ti (fun i=>bod.getD i []) (fu (cb9++aO U.length fi bod)) (iL (2*xs.length+bod.length+1) cat inf) (Lib.itoa ((U++aF fi bod).length:Int))
  (fun w1=>∃ S1,aX n.K n.B n.Fb n.C 89 n.sk cb9 (aQ xs) U w1 S1/\Mv S w S1 w1)
  (fun Eb eb cb i w1=>∃ S1,ah (zG n.B Eb (.slice (zp eb) bod.length cb) (fi:Int) (inf:Int) (cat:Int) bod) (aX n.K n.B n.Fb n.C 89 n.sk (cb9++aO U.length fi (bod.take i)) (aQ xs) (U++aF fi (bod.take i))) w1 S1/\Mv S w S1 w1)
  _ (by omega) (by omega) (by omega) (by omega) ?_ ?_ ?_ ?_ ?_ ?_ ?_ ?_ ?_ ?_ ?_ ?_ ?_ ?_
 ·exact l5
 ·have l1:=av ((2*xs.length+bod.length+1:Nat):Int) (by omega) (by omega);have l2:=bm [47,82,111,111,116] (cat:Int) 5 (by simp) (by omega) (by omega);have l3:=bm [47,73,110,102,111] (inf:Int) 5 (by simp) (by omega) (by omega);simp only [iL,ZZ,ZY,ZW];omega
 ·have:=av ((U++aF fi bod).length:Int) (by omega) (by omega);omega
 ·refine (jj hd (ZX _) w S n.Fb n.C _ _ X h (by omega)).mono ?_;rintro e w' (⟨_,rfl,S',hf',m⟩ | ⟨hno,_⟩)
  ·rw [hbeg] at hf';exact ⟨rfl,S',hf',m⟩
  ·exact absurd trivial hno
 ·rintro w1 ⟨S1,h1,m1⟩;obtain ⟨a1,k1,a2,k2,c0,c1,c2,_,_,hFb,_⟩:=aX.facts h1;rw [hcbl] at c1;exact ⟨hFb,a2,k2,c2,a1,k1,c1⟩
 ·rintro w1 ⟨S1,h1,m1⟩ adz cz hcz wx hbx;obtain ⟨vb,vz,_,c2,_,hLz⟩:=aX.rows h1;rw [hcz] at c2;have ev:=Zd c2;rw [<-ev] at hLz;have hbw:=tb m1;have hz1:=hbw.size;have hz2:=hbx.size;rw [show 2*xs.length+1=fi from hfont.symm];refine (HEN wx (by omega) (ht.on (hbw.trans (hbx.mono (by omega)))) adz cz (hLz.on hbx) ((hLm.turned m1 hoff).on hbx)).mono ?_;rintro e w2 ⟨rfl,hb2,S2,h2⟩;obtain ⟨g,cap,hc1,hc2,h3⟩:=h2.named (B:=n.B) (by omega) (by omega);have hge:∀ k,S2 k->wx.heap.size<=k:=fun k hk=>(ED.thing wx.heap.size wx.heap.size _ _ _ _).ge h2 hk
  obtain ⟨h4,m4⟩:=ah.new (hT _ _) ((hT _ _).grow h1 hbx) h3 hb2 hge;refine ⟨_,g,cap,rfl,hc1,hc2,_,?_,(m1.trans (Mv.grow hbx _)).trans m4⟩;simpa [aO,aF] using h4
 ·rintro Eb eb cb w1 ⟨S1,⟨R1,R2,h1,_⟩,_⟩;exact h1.read.2.1
 ·rintro Eb eb cb i w1 hi ⟨S1,⟨R1,R2,h1,_⟩,_⟩;refine h1.read.2.2.2.2 i _ ?_;rw [ZB,ZK hi];rfl
 ·rintro Eb eb cb i w1 hi ⟨S1,h1,m1⟩;have hbw:=tb m1;have hz1:=hbw.size;obtain ⟨R1,hF,_,back⟩:=ah.snd (zG.thing _ _ _ _ _ _ _) h1;have ei:bod.getD i []=bod[i]:=by simp [hi]
  have hbi:=hbs _ (YK hi);have hlt:(bod.take i).length=i:=by rw [Zx];omega
  have hln:(cb9++aO U.length fi (bod.take i)).length+1=fi+i:=by rw [ZZ,ck,hcbl,hlt];omega
  have hO:=mD hd (ZX _) w1 R1 n.Fb n.C _ _ _ ⟨(bod[i]).toArray⟩ hF (by omega) (ht.on hbw) (by omega) (by
   have:=hol i;rw [ZZ,ae];omega)
  rw [hln] at hO;show CP _ #[_,.string ⟨(bod.getD i []).toArray⟩] w1 _
  rw [ei];refine hO.mono ?_;rintro e w' (⟨_,rfl,S',hf',m⟩ | ⟨hno,_⟩)
  ·obtain ⟨S2,h2,m2⟩:=back _ _ _ hf' m;refine ⟨rfl,S2,?_,m1.trans m2⟩;rw [ZH hi,fj,il,hlt];have e1:(U++aF fi (bod.take i)).length=U.length+(aF fi (bod.take i)).length:=ZZ;rw [e1] at h2;simpa [ZQ] using h2
  ·exact absurd trivial hno
 ·rintro Eb eb cb w1 ⟨S1,h1,m1⟩;rw [ZF (ZX _)] at h1;obtain ⟨R1,R2,_,h2,_⟩:=h1;obtain ⟨a1,k1,a2,k2,c0,c1,c2,_,cc,hFb,_⟩:=aX.facts h2;rw [hbgl] at c1;exact ⟨hFb,c0,cc,a1,k1,c1⟩
 ·rintro Eb eb cb w1 ⟨S1,h1,m1⟩ wx hbx;have hbw:=tb m1;exact bp n.B wx _ (by omega) (by omega) (ht.on (hbw.trans (hbx.mono (by have:=hbw.size;omega))))
 ·rintro Eb eb cb w1 ⟨S1,h1,m1⟩ wx hbx;have hbw:=tb m1;have hz1:=hbw.size;have hz2:=hbx.size;rw [ZF (ZX _)] at h1;obtain ⟨R1,R2,_,h2,_⟩:=h1;obtain ⟨_,_,_,_,_,_,_,_,_,hFb,_⟩:=aX.facts h2;obtain ⟨vb,vz,c1,_,hLb,_⟩:=aX.rows h2;obtain ⟨ad,cap,rfl,hc1,hc2,hcell⟩:=hLb;obtain ⟨b,rfl,hb,hcell⟩:=hcell (by rw [hbgl];omega);refine tL wx n.B n.Fb b _ cap _ rfl (by omega) (by omega) hc1 hc2 ?_ (by omega) (by omega) (by omega) (ht.on (hbw.trans (hbx.mono (by omega)))) ((hbx.cell (p:=zq n.Fb 1) hFb).trans c1) (fun i x hx=>(hbx.cell (p:=zq b i) hb).trans (hcell _ _ (Ae _ i x hx)));intro x hx;rcases YB.1 hx with hx | hx
  ·have:=hcble x hx;omega
  ·have:=iT _ _ _ x hx;omega
 ·rintro Eb eb cb w1 ⟨S1,⟨R1,R2,h1,_⟩,m1⟩ wx hbx;have hbw:=tb m1;have hz1:=hbw.size;have hz2:=hbx.size;obtain ⟨hE,_,c2,c3,_⟩:=h1.read;have htx:∀ wy,af wx wy->bU n.B wy:=fun wy hg=>ht.on ((hbw.trans (hbx.mono (by omega))).trans (YY hg (by omega)))
  have l1:=av ((2*xs.length+bod.length+1:Nat):Int) (by omega) (by omega);have l2:=bm [47,82,111,111,116] (cat:Int) 5 (by simp) (by omega) (by omega);have l3:=bm [47,73,110,102,111] (inf:Int) 5 (by simp) (by omega) (by omega);exact pY wx Eb _ (inf:Int) (cat:Int) _ _ _ (by omega) (by omega) (by omega) (by omega) ((hbx.cell (p:=zq Eb 2) hE).trans c2) ((hbx.cell (p:=zq Eb 3) hE).trans c3) (fun wy hg=>bp n.B wy _ (by omega) (by omega) (htx wy hg)) (fun wy hg=>dF n.B wy [47,82,111,111,116] _ (by simp) (by omega) (by omega) (htx wy hg)) (fun wy hg=>dF n.B wy [47,73,110,102,111] _ (by simp) (by omega) (by omega) (htx wy hg))
 ·rintro Eb eb cb w1 ⟨S1,h1,m1⟩ wx hbx;rw [ZF (ZX _)] at h1;have h2:=(ah.thing (zG.thing _ _ _ _ _ _ _) (hT _ _)).grow h1 hbx;obtain ⟨R1,hF,_,back⟩:=ah.snd (zG.thing _ _ _ _ _ _ _) h2;have l1:=av ((2*xs.length+bod.length+1:Nat):Int) (by omega) (by omega);have l2:=bm [47,82,111,111,116] (cat:Int) 5 (by simp) (by omega) (by omega);have l3:=bm [47,73,110,102,111] (inf:Int) 5 (by simp) (by omega) (by omega);have l4:=av ((U.length+(aF fi bod).length:Nat):Int) (by omega) (by omega);have l6:(iL (2*xs.length+bod.length+1) cat inf).length<=1000:=by
   simp only [iL,ZZ,ZY,ZW];omega
  refine (aX.write hd (ZX _) hF _ (by rw [ae];simp only [ZZ,ZY,ZW] at hxl2 ⊢;omega)).mono ?_;rintro e w' (⟨_,rfl,S',hf',m⟩ | ⟨hno,_⟩)
  ·obtain ⟨S2,h3,m3⟩:=back _ _ _ hf' m;obtain ⟨R3,R4,_,h4,_,hS2⟩:=h3;refine ⟨rfl,rfl,cb9++aO U.length fi bod,R4,?_,((m1.trans (Mv.grow hbx _)).trans m3).trans ⟨Fr.refl _ _,fun k hk=>.inl (by rw [hS2];exact .inr hk)⟩⟩;have e9:U++(aF fi bod++iE (cb9++aO U.length fi bod) cat inf (U.length+(aF fi bod).length))=U++aF fi bod++(fu (cb9++aO U.length fi bod)++iL (2*xs.length+bod.length+1) cat inf++[115,116,97,114,116,120,114,101,102,10]++Lib.itoa ((U++aF fi bod).length:Int)++[10,37,37,69,79,70,10]):=by
    rw [iE,hbgl,ZZ,ZQ U]
   rw [e9];simpa using h4
  ·exact absurd trivial hno
end Go.Proofs.YtbklfkpjoinofaaGreatDoor
