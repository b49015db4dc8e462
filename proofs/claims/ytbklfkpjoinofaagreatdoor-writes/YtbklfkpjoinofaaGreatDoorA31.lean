import Derived.Test.YtbklfkpjoinofaaGreatDoorA30
set_option linter.all false
set_option maxRecDepth 100000
set_option maxHeartbeats 8000000
namespace Go.Proofs.YtbklfkpjoinofaaGreatDoor
open Go.RowKit Go.Proofs.Tryz
theorem t_ (w:World) (r c i N font g cap:Nat) (Wd Hd:Int) (ab nm1 nm2 sA sB:List UInt8) (G1 G2 G3 G4 G5 G6 G7:World->Prop) (Z:Ending->World->Prop) (hi:i < N) (hN:N<=1000) (hcap:N<=cap) (hcap2:cap<=9223372036854775807) (hf:font<=1000000) (hab:ab.length<=100) (hn1:nm1.length<=30) (hn2:nm2.length<=30) (hW:decide (bG Wd 1 14400000)=true) (hH:decide (bG Hd 1 14400000)=true)
  (HSA:Hid ([60,60,32,47,84,121,112,101,32,47,80,97,103,101,32]++ab++[47,77,101,100,105,97,66,111,120,32,91,48,32,48,32]=sA)) (HSB:Hid ([93,32,47,67,111,110,116,101,110,116,115,32]++nm1++[32,47,82,101,115,111,117,114,99,101,115,32,60,60,32,47,70,111,110,116,32,60,60,32,47,70,49,32]++nm2++[32,62,62,32,62,62,32,62,62,10,101,110,100,111,98,106,10]=sB))
  (c2:w.cell? (zq r 2)=some (.slice g N cap))
  (H1:Hid (∃ n,CP 117 #[zp r] w fun e w'=>e=.returned (.int .i64 n)/\G1 w'))
  (F1:Hid (∀ w1,G1 w1->w1.cell? r=some (.pointer (some ⟨c,0,none⟩))/\r < w1.heap.size))
  (HR1:Hid (∀ w1,G1 w1->∀ w2,Below w1 w1 w2->QB 118 #[(i:Int),(N:Int),((font:Int)+1:Int),true] w2 (.string ⟨ab.toArray⟩)))
  (H2:Hid (∀ w1,G1 w1->∀ w2,Below w1 w1 w2->CP 114 #[zp c,.string ⟨sA.toArray⟩] w2 fun e w'=>e=.returned (.tuple #[])/\G2 w'))
  (F2:Hid (∀ w1,G2 w1->w1.cell? r=some (.pointer (some ⟨c,0,none⟩))))
  (H3:Hid (∀ w1,G2 w1->CP 119 #[zp c] w1 fun e w'=>e=.returned Wd/\G3 w'))
  (F3:Hid (∀ w1,G3 w1->w1.cell? r=some (.pointer (some ⟨c,0,none⟩))))
  (H4:Hid (∀ w1,G3 w1->CP 114 #[zp c,.string ⟨#[32]⟩] w1 fun e w'=>e=.returned (.tuple #[])/\G4 w'))
  (F4:Hid (∀ w1,G4 w1->w1.cell? r=some (.pointer (some ⟨c,0,none⟩))))
  (H5:Hid (∀ w1,G4 w1->CP 119 #[zp c] w1 fun e w'=>e=.returned Hd/\G5 w'))
  (F5:Hid (∀ w1,G5 w1->w1.cell? r=some (.pointer (some ⟨c,0,none⟩))/\r < w1.heap.size))
  (HR5:Hid (∀ w1,G5 w1->∀ w2,Below w1 w1 w2->QB 74 #[(2*(i:Int)+1:Int)] w2 (.string ⟨nm1.toArray⟩)))
  (HR6:Hid (∀ w1,G5 w1->∀ w2,Below w1 w1 w2->QB 74 #[(font:Int)] w2 (.string ⟨nm2.toArray⟩)))
  (H6:Hid (∀ w1,G5 w1->∀ w2,Below w1 w1 w2->CP 114 #[zp c,.string ⟨sB.toArray⟩] w2 fun e w'=>e=.returned (.tuple #[])/\G6 w'))
  (F6:Hid (∀ w1,G6 w1->w1.cell? (zq r 2)=some (.slice g N cap)/\(∃ o,w1.cell? (zq g (i*3))=some o)/\w1.frozen? (zq g (i*3))=false/\G7 (w1.setCell (zq g (i*3)) Wd)))
  (F7:Hid (∀ w1,G7 w1->w1.cell? (zq r 2)=some (.slice g N cap)/\(∃ o,w1.cell? (zq g (i*3+1))=some o)/\w1.frozen? (zq g (i*3+1))=false/\Z (.returned (.tuple #[])) (w1.setCell (zq g (i*3+1)) Hd))):
  CP 70 #[zp r,(i:Int),(font:Int)] w Z:=by
 obtain ⟨sA1,hsA1⟩:∃ x,([60,60,32,47,84,121,112,101,32,47,80,97,103,101,32]:List UInt8)++ab=x:=⟨_,rfl⟩;have HA1:=aa (show (⟨#[60,60,32,47,84,121,112,101,32,47,80,97,103,101,32]⟩:ByteArray)++⟨ab.toArray⟩=⟨sA1.toArray⟩ by rw [<-hsA1];exact an _ _);have HA2:=aa (show (⟨sA1.toArray⟩:ByteArray)++⟨#[47,77,101,100,105,97,66,111,120,32,91,48,32,48,32]⟩=⟨sA.toArray⟩ by rw [<-HSA.out, <-hsA1];exact an _ _);have lA1:sA1.length<=200:=by rw [<-hsA1,ZZ];simp only [ZY,ZW];omega
 obtain ⟨sB1,hsB1⟩:∃ x,([93,32,47,67,111,110,116,101,110,116,115,32]:List UInt8)++nm1=x:=⟨_,rfl⟩;obtain ⟨sB2,hsB2⟩:∃ x,sB1++[32,47,82,101,115,111,117,114,99,101,115,32,60,60,32,47,70,111,110,116,32,60,60,32,47,70,49,32]=x:=⟨_,rfl⟩;obtain ⟨sB3,hsB3⟩:∃ x,sB2++nm2=x:=⟨_,rfl⟩;have HB1:=aa (show (⟨#[93,32,47,67,111,110,116,101,110,116,115,32]⟩:ByteArray)++⟨nm1.toArray⟩=⟨sB1.toArray⟩ by rw [<-hsB1];exact an _ _);have HB2:=aa (show (⟨sB1.toArray⟩:ByteArray)++⟨#[32,47,82,101,115,111,117,114,99,101,115,32,60,60,32,47,70,111,110,116,32,60,60,32,47,70,49,32]⟩=⟨sB2.toArray⟩ by rw [<-hsB2];exact an _ _);have HB3:=aa (show (⟨sB2.toArray⟩:ByteArray)++⟨nm2.toArray⟩=⟨sB3.toArray⟩ by rw [<-hsB3];exact an _ _);have HB4:=aa (show (⟨sB3.toArray⟩:ByteArray)++⟨#[32,62,62,32,62,62,32,62,62,10,101,110,100,111,98,106,10]⟩=⟨sB.toArray⟩ by rw [<-HSB.out, <-hsB3, <-hsB2, <-hsB1];exact an _ _);have lB1:sB1.length<=100:=by rw [<-hsB1,ZZ];simp only [ZY,ZW];omega
 have lB2:sB2.length<=200:=by rw [<-hsB2,ZZ];simp only [ZY,ZW];omega
 have lB3:sB3.length<=300:=by rw [<-hsB3,ZZ];omega
 have z1:=ae ab;have z2:=ae sA1;have z3:=ae nm1;have z4:=ae sB1;have z5:=ae sB2;have z6:=ae nm2;have z7:=ae sB3;clear hsA1 hsB1 hsB2 hsB3 HSA HSB;obtain ⟨n,HX1⟩:=H1.out;have HX1:=aa HX1;go_enter func70,ntmps70
 go_wp2_with fail
 refine HX1.out.mono ?_;rintro e wA ⟨rfl,gA⟩;obtain ⟨a0,hr1⟩:=F1.out wA gA;have HAB:=aa (HR1.out wA gA);have HEA:=aa (H2.out wA gA);clear gA H1 HX1 F1 HR1 H2 c2;go_wp2_with fail
 refine ap 11 95 (ag [zp r,zp r,zp r,zp c,(i:Int),(N:Int),(font:Int),((font:Int)+1:Int),.string ⟨ab.toArray⟩,.string ⟨sA1.toArray⟩,.string ⟨sA.toArray⟩]) (by kernel_rfl) rfl (by kernel_rfl) aq ?_;simp only [TD]
 iterate 11
  refine ⟨fun w1 hG hd=>?_,fun v=>?_⟩
  ·have c1:=(Zw hG (p:=r) hr1).trans a0
   try (have d:=hd _ ⟨ZM _⟩ rfl;simp only [ag,GD] at d;subst d)
   try (have d:=hd _ ⟨.tail _ (.head _)⟩ rfl;simp only [ag,GD] at d;subst d)
   try (have d:=hd _ ⟨.tail _ (.tail _ (.head _))⟩ rfl;simp only [ag,GD] at d;subst d)
   clear hd;go_wp2_with fail
   first
    | exact RG
    | exact CS (by assumption)
    | (refine (HAB.out w1 hG).mono ?_;rintro e w2 ⟨rfl,hB2⟩;go_wp2;exact ⟨rfl,hB2⟩)
  simp only [TN]
 intro wB hG hd;have d3:=hd 3 (by omega);have d10:=hd 10 (by omega);simp only [ag,GD] at d3 d10;subst d3 d10;have HX:=aa (HEA.out wB hG);clear hd HAB HEA HA1 HA2 z1 z2 lA1 a0 hr1 hG;go_wp2_with fail
 refine HX.out.mono ?_;rintro e wC ⟨rfl,gC⟩;clear HX;have b0:=F2.out wC gC;go_wp2_with fail
 refine (H3.out wC gC).mono ?_;rintro e wD ⟨rfl,gD⟩;clear b0;have b0:=F3.out wD gD;go_wp2_with fail
 refine (H4.out wD gD).mono ?_;rintro e wE ⟨rfl,gE⟩;clear b0;have b0:=F4.out wE gE;go_wp2_with fail
 refine (H5.out wE gE).mono ?_;rintro e wF ⟨rfl,gF⟩;clear b0;obtain ⟨e0,hr5⟩:=F5.out wF gF;have HN1:=aa (HR5.out wF gF);have HN2:=aa (HR6.out wF gF);have HE6:=aa (H6.out wF gF);clear gC gD gE gF F2 F3 F4 F5 H3 H4 H5 HR5 HR6 H6;go_wp2_with fail
 refine ap 14 95 (ag [zp r,zp r,zp r,zp c,(i:Int),(2*(i:Int):Int),(2*(i:Int)+1:Int),.string ⟨nm1.toArray⟩,.string ⟨sB1.toArray⟩,.string ⟨sB2.toArray⟩,(font:Int),.string ⟨nm2.toArray⟩,.string ⟨sB3.toArray⟩,.string ⟨sB.toArray⟩]) (by kernel_rfl) rfl (by kernel_rfl) aq ?_;simp only [TD]
 iterate 14
  refine ⟨fun w1 hG hd=>?_,fun v=>?_⟩
  ·have c1:=(Zw hG (p:=r) hr5).trans e0
   try (have d:=hd _ ⟨ZM _⟩ rfl;simp only [ag,GD] at d;subst d)
   try (have d:=hd _ ⟨.tail _ (.head _)⟩ rfl;simp only [ag,GD] at d;subst d)
   clear hd;go_wp2_with fail
   first
    | exact RG
    | exact CS (by assumption)
    | ((first | (have h:=HN1.out w1 hG;with_reducible refine h.mono ?_) | (have h:=HN2.out w1 hG;with_reducible refine h.mono ?_));rintro e w2 ⟨rfl,hB2⟩;go_wp2;exact ⟨rfl,hB2⟩)
  simp only [TN]
 intro wG hG hd;have d3:=hd 3 (by omega);have d13:=hd 13 (by omega);simp only [ag,GD] at d3 d13;subst d3 d13;have HX:=aa (HE6.out wG hG);clear hd HN1 HN2 HE6 HB1 HB2 HB3 HB4 z3 z4 z5 z6 z7 lB1 lB2 lB3 e0 hr5 hG;go_wp2_with fail
 refine HX.out.mono ?_;rintro e wH ⟨rfl,gH⟩;clear HX;obtain ⟨q2,⟨o,qo⟩,qf,g7⟩:=F6.out wH gH;obtain ⟨s2,⟨o',so⟩,sf,hZ⟩:=F7.out _ g7;go_wp2_with fail
 refine (cv _ Wd 1 14400000).mono ?_;rintro e wz ⟨rfl,rfl⟩;rw [hW];go_wp2_with fail
 refine (cv _ Hd 1 14400000).mono ?_;rintro e wz ⟨rfl,rfl⟩;rw [hH];go_wp2_with fail
 go_end0;exact hZ
theorem Am {w:World} {base:Nat} {e:TypeId} {z n g cap:Nat} {xs:List Value} (h:w.ownsRow base e z (.slice g n cap) n xs) (j:Nat) (v:Value):(w.setCell (zq g j) v).ownsRow base e z (.slice g n cap) n (xs.set j v):=by
 obtain ⟨hl,h⟩:=h;refine ⟨by rw [List.length_set];exact hl,?_⟩;rcases h with ⟨h,_⟩ | ⟨g',cap',cur,hv,hb,hg,h1,h2,h3,h4⟩
 ·cases h
 ·cases hv
  refine .inr ⟨g,cap,cur.setIfInBounds j v,rfl,hb,ZD w g j cur e v hg,h1,h2,by simpa using h3,?_⟩;rw [Array.toList_setIfInBounds,List.take_set,h4]
theorem aW.put {B:Nat} {e:TypeId} {z n g cap:Nat} {xs:List Value} {w:World} {S:Bl} (h:aW B e z (.slice g n cap) n xs w S) (j:Nat) (v:Value):aW B e z (.slice g n cap) n (xs.set j v) (w.setCell (zq g j) v) S/\Mv S w S (w.setCell (zq g j) v):=by
 obtain ⟨rfl,ow⟩:=h;refine ⟨⟨rfl,Am ow j v⟩,⟨⟨rfl,rfl,rfl,by simp [World.setCell],fun k _ hk=>YP _ _ _ _ (fun e=>hk ?_)⟩,fun k e=>.inl e⟩⟩;subst e;rfl
theorem aW.cellAt {B:Nat} {e:TypeId} {z n g cap:Nat} {xs:List Value} {w:World} {S:Bl} (h:aW B e z (.slice g n cap) n xs w S) (j:Nat) (hj:j < xs.length):(∃ o,w.cell? (zq g j)=some o)/\w.frozen? (zq g j)=false:=by
 obtain ⟨rfl,hl,h⟩:=h;rcases h with ⟨h,_⟩ | ⟨g',cap',cur,hv,hb,hg,h1,h2,h3,h4⟩
 ·cases h
 ·cases hv
  obtain ⟨x,hx⟩:∃ x,xs[j]? =some x:=⟨xs[j],ZK hj⟩;refine ⟨⟨x,?_⟩,cD hg⟩;rw [aj hg, <-Array.getElem?_toList];rw [<-h4,List.getElem?_take] at hx;split at hx
  ·exact hx
  ·cases hx
theorem fZ.puts {B r c p:Nat} {s ti:ByteArray} {vm:Value} {starts:List Nat} {N g cap:Nat} {pc:List Value} {w:World} {S:Bl} (h:fZ B r c s p ti (.slice g N cap) vm starts N pc w S) (j:Nat) (v:Value):∃ S',fZ B r c s p ti (.slice g N cap) vm starts N (pc.set j v) (w.setCell (zq g j) v) S'/\Mv S w S' (w.setCell (zq g j) v):=by
 obtain ⟨Sb,hb1,_,k1⟩:=ah.snd (dq.thing B r c s p ti _ vm starts) h;obtain ⟨h2,m2⟩:=hb1.put j v;exact k1 _ _ _ h2 m2
theorem vZ (w:World) (B r c p i font:Nat) (s ti:ByteArray) (vm:Value) (starts:List Nat) (N g cap:Nat) (pc:List Value) (S:Bl) (Wd Hd:Int) (h:fZ B r c s p ti (.slice g N cap) vm starts N pc w S) (hB:B<=w.heap.size) (ht:bU B w) (hs:s.size<=2000000000) (hN:N<=1000) (hi:i < N) (hcap:N<=cap) (hcap2:cap<=9223372036854775807) (hf:font<=100000) (hf0:0 < font) (hl:starts.length<=1000000) (hpc:pc.length=N*3) (hW:bG Wd 1 14400000) (hH:bG Hd 1 14400000)
  (hg:au s p (aK (starts.length+1) (vO font N i (Wd,Hd)))):
  CP 70 #[zp r,(i:Int),(font:Int)] w fun e w'=>e=.returned (.tuple #[])/\∃ S',fZ B r c s (p+(aK (starts.length+1) (vO font N i (Wd,Hd))).length) ti (.slice g N cap) vm (starts++[p]) N ((pc.set (i*3) (.int .i64 Wd)).set (i*3+1) (.int .i64 Hd)) w' S'/\Mv S w S' w':=by
 have hle:=hg.le;have hT:=fZ.thing B r c s p ti (.slice g N cap) vm starts N pc;have hbel:∀ {S' w'},Mv S w S' w'->Below B w w':=fun m=>m.below (fun k e=>hT.ge h e) hB
 obtain ⟨ab,hab⟩:∃ ab,bt [47,80,97,114,101,110,116] ((font+1+N+i / 8:Nat):Int)=ab:=⟨_,rfl⟩;obtain ⟨nm1,hnm1⟩:∃ nm,aD ((2*i+1:Nat):Int)=nm:=⟨_,rfl⟩;obtain ⟨nm2,hnm2⟩:∃ nm,aD (font:Int)=nm:=⟨_,rfl⟩;have nl:∀ n:Nat,n<=1000000->(aD (n:Int)).length<=30:=by
  intro n hn;have:=av (n:Int) (by omega) (by omega);rw [aD,ZZ];simp only [ZY,ZW];omega
 have hal:ab.length<=100:=by
  rw [<-hab,bt,ZU (by omega)];have:=nl (font+1+N+i / 8) (by omega);simp only [ZZ,ZY,ZW];omega
 obtain ⟨sA,hsA⟩:∃ x,[60,60,32,47,84,121,112,101,32,47,80,97,103,101,32]++ab++[47,77,101,100,105,97,66,111,120,32,91,48,32,48,32]=x:=⟨_,rfl⟩;obtain ⟨sB,hsB⟩:∃ x,[93,32,47,67,111,110,116,101,110,116,115,32]++nm1++[32,47,82,101,115,111,117,114,99,101,115,32,60,60,32,47,70,111,110,116,32,60,60,32,47,70,49,32]++nm2++[32,62,62,32,62,62,32,62,62,10,101,110,100,111,98,106,10]=x:=⟨_,rfl⟩;have hbody:aK (starts.length+1) (vO font N i (Wd,Hd))=aL (starts.length+1)++(sA++(bJ Wd++([32]++(bJ Hd++sB)))):=by
  rw [aK,vO,pn,hab, <-hsA, <-hsB, <-hnm1, <-hnm2];simp only [bt,eh];rw [ZU (by omega),ZU (by omega)];simp
 rw [hbody] at hg hle ⊢;have g1:=hg.right;have g2:=g1.right;have g3:=g2.right;have g4:=g3.right;have g5:=g4.right;have gW:au s (p+(aL (starts.length+1)).length+sA.length) (bJ Wd++[32]):=by
  have:=g2;rw [<-ZQ] at this;exact this.left
 have gH:au s (p+(aL (starts.length+1)).length+sA.length+(bJ Wd).length+1) (bJ Hd++[93]):=by
  have h9:au s (p+(aL (starts.length+1)).length+sA.length+(bJ Wd).length+1) (bJ Hd++sB):=g4;rw [<-hsB] at h9;have h8:au s (p+(aL (starts.length+1)).length+sA.length+(bJ Wd).length+1) ((bJ Hd++[93])++([32,47,67,111,110,116,101,110,116,115,32]++nm1++[32,47,82,101,115,111,117,114,99,101,115,32,60,60,32,47,70,111,110,116,32,60,60,32,47,70,49,32]++nm2++[32,62,62,32,62,62,32,62,62,10,101,110,100,111,98,106,10])):=by simpa using h9
  exact h8.left
 have hfin:p+(aL (starts.length+1)++(sA++(bJ Wd++([32]++(bJ Hd++sB))))).length=p+(aL (starts.length+1)).length+sA.length+(bJ Wd).length+1+(bJ Hd).length+sB.length:=by
  simp only [ZZ,ZY,ZW];omega
 have e2:(2*(i:Int)+1)=((2*i+1:Nat):Int):=by omega
 have e3:((font:Int)+1)=((font+1:Nat):Int):=by omega
 have hc2:w.cell? (zq r 2)=some (.slice g N cap):=by
  obtain ⟨S1,hR,_,_⟩:=ah.fst (aW.thing B _ _ _ _ _) h;obtain ⟨ad,cp,_,_,c2,_⟩:=hR.read;exact c2
 let Gp:Nat->List Value->World->Prop:=fun q ps w'=>∃ S',fZ B r c s q ti (.slice g N cap) vm (starts++[p]) N ps w' S'/\Mv S w S' w'
 have rd:∀ {q ps w1},Gp q ps w1->w1.cell? r=zp c/\w1.cell? (zq r 2)=some (.slice g N cap)/\r < w1.heap.size:=by
  rintro q ps w1 ⟨S1,h1,m1⟩;obtain ⟨S2,hR,_,_⟩:=ah.fst (aW.thing B _ _ _ _ _) h1;obtain ⟨ad,cp,c0,_,c2,_,_,_,hr⟩:=hR.read;exact ⟨c0,c2,hr⟩
 have tb:∀ {q ps w1},Gp q ps w1->∀ w2,Below w1 w1 w2->bU B w2:=by
  rintro q ps w1 ⟨S1,h1,m1⟩ w2 hg2;exact (ht.on (hbel m1)).on (hg2.mono (ZN hB m1.size))
 have etg:∀ {q ps w1} (t:List UInt8),Gp q ps w1->∀ w2,Below w1 w1 w2->au s q t->CP 114 #[zp c,.string ⟨t.toArray⟩] w2 fun e w'=>e=.returned (.tuple #[])/\Gp (q+t.length) ps w':=by
  rintro q ps w1 t ⟨S1,h1,m1⟩ w2 hg2 gt;have h2:=(fZ.thing B r c s q ti (.slice g N cap) vm (starts++[p]) N ps).grow h1 hg2;obtain ⟨S2,hR,_,k⟩:=ah.fst (aW.thing B _ _ _ _ _) h2;refine (hR.eat hs t gt).mono ?_;rintro e w3 ⟨rfl,S',h',m'⟩;obtain ⟨S'',h'',m''⟩:=k _ _ _ h' m';exact ⟨rfl,S'',h'',(m1.trans (Mv.grow hg2 _)).trans m''⟩
 have ltg:∀ {q ps w1} (n:Int) (x:UInt8),-100000000<=n->n<=100000000->Gp q ps w1->au s q (bJ n++[x])->(x.toNat < 48\/57 < x.toNat)->x≠46->CP 119 #[zp c] w1 fun e w'=>e=.returned n/\Gp (q+(bJ n).length) ps w':=by
  rintro q ps w1 n x b0 b1 ⟨S1,h1,m1⟩ gt hx hx2;obtain ⟨S2,hR,_,k⟩:=ah.fst (aW.thing B _ _ _ _ _) h1;refine (hR.length (ZN hB m1.size) (ht.on (hbel m1)) hs n x b0 b1 gt hx hx2).mono ?_;rintro e w3 ⟨rfl,S',h',m'⟩;obtain ⟨S'',h'',m''⟩:=k _ _ _ h' m';exact ⟨rfl,S'',h'',m1.trans m''⟩
 refine t_ w r c i N font g cap Wd Hd ab nm1 nm2 sA sB (Gp (p+(aL (starts.length+1)).length) pc) (Gp (p+(aL (starts.length+1)).length+sA.length) pc) (Gp (p+(aL (starts.length+1)).length+sA.length+(bJ Wd).length) pc) (Gp (p+(aL (starts.length+1)).length+sA.length+(bJ Wd).length+1) pc) (Gp (p+(aL (starts.length+1)).length+sA.length+(bJ Wd).length+1+(bJ Hd).length) pc) (Gp (p+(aL (starts.length+1)).length+sA.length+(bJ Wd).length+1+(bJ Hd).length+sB.length) pc) (Gp (p+(aL (starts.length+1)).length+sA.length+(bJ Wd).length+1+(bJ Hd).length+sB.length) (pc.set (i*3) (.int .i64 Wd))) _ hi hN hcap hcap2 (by omega) hal (by rw [<-hnm1];exact nl _ (by omega)) (by rw [<-hnm2];exact nl _ (by omega)) (by simpa using hW) (by simpa using hH) hsA hsB hc2 ?_ ?_ ?_ ?_ ?_ ?_ ?_ ?_ ?_ ?_ ?_ ?_ ?_ ?_ ?_ ?_
 ·refine ⟨((starts.length+1:Nat):Int),?_⟩;obtain ⟨S1,hR,_,k⟩:=ah.fst (aW.thing B _ _ _ _ _) h;refine (gp w B r c p s ti _ vm starts S1 hR hB ht hs hl hg.left).mono ?_;rintro e w1 ⟨rfl,S',h',m'⟩;obtain ⟨S'',h'',m''⟩:=k _ _ _ h' m';exact ⟨rfl,S'',h'',m''⟩
 ·exact fun w1 g1=>⟨(rd g1).1,(rd g1).2.2⟩
 ·intro w1 gg w2 hg2;rw [e3];have:=kV B w2 i N (font+1) true (tb gg w2 hg2) (by omega) hN (by omega) (by omega);rw [ZO (.inl rfl),hab] at this;exact this
 ·exact fun w1 gg w2 hg2=>etg sA gg w2 hg2 g1.left
 ·exact fun w1 gg=>(rd gg).1
 ·exact fun w1 gg=>ltg Wd 32 (by have:=hW.1;omega) (by have:=hW.2;omega) gg gW (by decide) (by decide)
 ·exact fun w1 gg=>(rd gg).1
 ·exact fun w1 gg=>etg [32] gg w1 (ZV _ _) g3.left
 ·exact fun w1 gg=>(rd gg).1
 ·exact fun w1 gg=>ltg Hd 93 (by have:=hH.1;omega) (by have:=hH.2;omega) gg gH (by decide) (by decide)
 ·exact fun w1 gg=>⟨(rd gg).1,(rd gg).2.2⟩
 ·intro w1 gg w2 hg2;rw [e2, <-hnm1];exact cE B w2 _ (by omega) (by omega) (tb gg w2 hg2)
 ·intro w1 gg w2 hg2;rw [<-hnm2];exact cE B w2 _ (by omega) (by omega) (tb gg w2 hg2)
 ·exact fun w1 gg w2 hg2=>etg sB gg w2 hg2 g5
 ·rintro w1 gg;have hr2:=(rd gg).2.1;obtain ⟨S1,h1,m1⟩:=gg;obtain ⟨S2,hP,_,_⟩:=ah.snd (dq.thing B r c s _ ti _ vm (starts++[p])) h1;obtain ⟨q1,q2⟩:=hP.cellAt (i*3) (by rw [hpc];omega);obtain ⟨S3,h3,m3⟩:=h1.puts (i*3) Wd;exact ⟨hr2,q1,q2,S3,h3,m1.trans m3⟩
 ·rintro w1 gg;have hr2:=(rd gg).2.1;obtain ⟨S1,h1,m1⟩:=gg;obtain ⟨S2,hP,_,_⟩:=ah.snd (dq.thing B r c s _ ti _ vm (starts++[p])) h1;obtain ⟨q1,q2⟩:=hP.cellAt (i*3+1) (by rw [List.length_set,hpc];omega);obtain ⟨S3,h3,m3⟩:=h1.puts (i*3+1) Hd;refine ⟨hr2,q1,q2,rfl,S3,?_,m1.trans m3⟩;rw [hfin];exact h3
theorem uY (l:List (List UInt8)) (x:List UInt8) (h:l≠[]):Lib.join (l++[x]) [32]=Lib.join l [32]++([32]++x):=by
 induction l with
 | nil=>exact absurd rfl h
 | cons a r ih=>
  cases r with
  | nil=>simp [Lib.join,List.intercalate,List.intersperse]
  | cons b q=>
   have:=ih (by simp);simp only [Lib.join,List.intercalate,Zy,List.intersperse,List.flatten_cons] at this ⊢;rw [this];simp
def gz (a j:Nat):List UInt8:=Lib.join (cf a j) [32]
theorem nt (a:Nat):gz a 0=[]:=rfl
theorem o0 (a:Nat):gz a 1=aD (a:Int):=by simp [gz,cf,Lib.join,List.intercalate,List.intersperse]
theorem nh (a j:Nat) (hj:0 < j):gz a (j+1)=gz a j++([32]++aD ((a+j:Nat):Int)):=by
 unfold gz;rw [cf,uY];intro e;have:=congrArg List.length e;rw [jH] at this;simp at this;omega
theorem vA (a j:Nat) (ha:a+j<=1000000):(gz a j).length<=31*j:=by
 induction j with
 | zero=>simp [nt]
 | succ j ih=>
  have hn:(aD ((a+j:Nat):Int)).length<=30:=by
   have:=av ((a+j:Nat):Int) (by omega) (by omega);rw [aD,ZZ];simp only [ZY,ZW];omega
  have:=ih (by omega);by_cases h:0 < j
  ·rw [nh a j h];simp only [ZZ,ZY,ZW];omega
  ·obtain rfl:j=0:=by omega
   rw [o0];simp at hn;omega
theorem ua (w:World) (r c first many each pages grp cap:Nat) (ad:Option Addr) (I:Nat->World->Prop) (Z:Ending->World->Prop) (NN:Nat->Int) (ab it bd:Nat->List UInt8) (hm:many<=1000) (hf:first<=100000) (he:each<=1000) (hp:pages<=1000) (hz:¬ many=0) (hg1:1<=grp) (hg2:grp<=130) (HGR:Hid (grp=max 1 ((many+7) / 8)))
  (hab:∀ g,(ab g).length<=100) (hit:∀ g,(it g).length<=30)
  (c2:w.cell? (zq r 2)=some (.slice ad pages cap)) (H0:Hid (I 0 w))
  (HBD:Hid (∀ g,bd g=[60,60,32,47,84,121,112,101,32,47,80,97,103,101,115,32]++ab g++[47,75,105,100,115,32,91]++gz (first+8*g) (min 8 (many - 8*g))++[93,32,47,67,111,117,110,116,32]++it g++[32,62,62]))
  (F:Hid (∀ g w1,I g w1->w1.cell? r=some (.pointer (some ⟨c,0,none⟩))/\w1.cell? (zq c 2)=some (.bool false)))
  (HRf:Hid (∀ g w1,I g w1->∀ w2,Below w1 w1 w2->∀ k:Nat,k<=2000->QB 74 #[((first:Int)+(k:Int):Int)] w2 (.string ⟨(aD ((first+k:Nat):Int)).toArray⟩)))
  (HAb:Hid (∀ g w1,I g w1->∀ w2,Below w1 w1 w2->QB 118 #[(g:Int),(grp:Int),((first:Int)+(many:Int):Int),false] w2 (.string ⟨(ab g).toArray⟩)))
  (HIt:Hid (∀ g w1,I g w1->∀ w2,Below w1 w1 w2->QB 120 #[(bV pages (each*8) g:Int)] w2 (.string ⟨(it g).toArray⟩)))
  (HW:Hid (∀ g w1,g < grp->I g w1->∀ w2,Below w1 w1 w2->CP 69 #[zp r,.string ⟨(bd g).toArray⟩] w2 fun e w'=>e=.returned (NN g:Int)/\I (g+1) w'))
  (HZ1:Hid (grp=1->∀ w1,I grp w1->Z (.returned (NN (grp - 1):Int)) w1))
  (HZ2:Hid (1 < grp->∀ w1,I grp w1->CP 71 #[zp r,((first:Int)+(many:Int):Int),(grp:Int),(8*(each:Int):Int)] w1 fun e w'=>(∃ v,e=.returned v)/\Z e w')):
  CP 71 #[zp r,(first:Int),(many:Int),(each:Int)] w Z:=by
 have hdiv:((many:Int)+7) / 8=(((many+7) / 8:Nat):Int):=by omega
 go_enter func71,ntmps71
 have hgrp:(((many+7) / 8:Nat):Int)=(grp:Int):=by rw [HGR.out];omega
 have hq:((many:Int)+7) / 8=(grp:Int):=by rw [hdiv,hgrp]
 have hgz:((grp:Int)==0)=false:=by simp;omega
 have hgz2:¬ (grp:Int)=0:=by omega
 clear hdiv hgrp;go_wp2_with fail
 rw [hq];clear hq hgz hgz2 c2;go_loopg [12,13,14,15,16] (grp+1) (fun g x gi _ _ _ wr=>∃ g0:Nat,g0<=grp/\grp - g0 < g/\gi=.int .i64 (g0:Int)/\(g0=0\/x=.int .i64 (NN (g0 - 1)))/\I g0 wr)
 case atStart=>exact ⟨0,by omega,by omega,rfl,.inl rfl,H0.out⟩
 case round=>
  obtain ⟨g0,hg0,hgk,rfl,hx,hI⟩:=hrel;obtain ⟨GK,hGK⟩:∃ GK,GK=gk:=⟨_,rfl⟩;have HII:=aa hI;obtain ⟨f0,f1⟩:=F.out g0 wr hI;by_cases hlt:g0 < grp
  ·have d1:decide ((g0:Int) < (grp:Int))=true:=by simp;omega
   clear hI;have hmg:8*g0 < many:=by have:=HGR.out;omega
   obtain ⟨kn,hkn⟩:∃ kn,kn=min 8 (many - 8*g0):=⟨_,rfl⟩;have hk8:kn<=8:=by omega
   have hkm:8*g0+kn<=many:=by omega
   have hke:kn=8\/8*g0+kn=many:=by omega
   have HKN:=aa hkn;clear hkn;go_wp2_with fail
   go_loopg [14,15] 10 (fun g x k w8=>∃ j:Nat,∃ acc:List UInt8,j<=kn/\kn - j < g/\k=.int .i64 ((8*g0+j:Nat):Int)/\x=.string ⟨acc.toArray⟩/\Hid (acc=gz (first+8*g0) j)/\acc.length<=31*j/\Below wr wr w8)
   case atStart=>exact ⟨0,[],by omega,by omega,by congr 1,rfl,rfl,by simp,ZV _ _⟩
   case round=>
    obtain ⟨j,acc,hj,hgj,rfl,rfl,HAC,hal,hb8⟩:=hrel;have hz:=ae acc;by_cases hjl:j < kn
    ·have q1:8*g0+j < 8*g0+8:=by omega
     have q2:8*g0+j < many:=by omega
     have HR:=aa (HRf.out g0 _ HII.out _ hb8 (8*g0+j) (by omega));have e1:(first:Int)+((8*g0+j:Nat):Int)=(first:Int)+((8*g0+j:Nat):Int):=rfl;obtain ⟨K,hK⟩:∃ K:Nat,K=8*g0+j:=⟨_,rfl⟩;have hK1:K+1=8*g0+(j+1):=by omega
     rw [<-hK] at HR q1 q2;rw [<-hK];obtain ⟨nm,hnm⟩:∃ nm,aD ((first+K:Nat):Int)=nm:=⟨_,rfl⟩;have hnl:nm.length<=30:=by
      rw [<-hnm];have:=av ((first+K:Nat):Int) (by omega) (by omega);rw [aD,ZZ];simp only [ZY,ZW];omega
     rw [hnm] at HR;have hz2:=ae nm;have d2:decide ((K:Int) < 8*(g0:Int)+8)=true:=by simp;omega
     have d3:decide ((K:Int) < (many:Int))=true:=by simp;omega
     by_cases hj0:j=0
     ·have HN:Hid (nm=gz (first+8*g0) (j+1)):=by
       show _=_
       rw [hj0,o0, <-hnm,hK,hj0];rfl
      have hae:acc=[]:=by rw [HAC.out,hj0,nt]
      subst hae;have d4:decide (8*(g0:Int) < (K:Int))=false:=by simp;omega
      have d4':¬ 8*g0 < K:=by omega
      have HB8:=aa hb8;clear hK hnm HAC;go_wp2_with fail
      refine HR.out.mono ?_;rintro e w9 ⟨rfl,hb9⟩;go_wp2_with fail
      go_roundg (gk - 1)
      case measure=>omega
      case rel=>
       refine ⟨j+1,nm,hjl,by omega,by rw [<-hK1];congr 1,?_,HN,by omega,HB8.out.trans (hb9.mono HB8.out.size)⟩;refine aT ?_;simp
     ·have HN:Hid (acc++([32]++nm)=gz (first+8*g0) (j+1)):=by
       show _=_
       rw [nh _ j (by omega),HAC.out, <-hnm,hK,Zn]
      have d4:decide (8*(g0:Int) < (K:Int))=true:=by simp;omega
      have d4':8*g0 < K:=by omega
      have HB8:=aa hb8;clear hK hnm HAC;go_wp2_with fail
      refine HR.out.mono ?_;rintro e w9 ⟨rfl,hb9⟩;go_wp2_with fail
      go_roundg (gk - 1)
      case measure=>omega
      case rel=>
       refine ⟨j+1,acc++([32]++nm),hjl,by omega,by rw [<-hK1];congr 1,?_,HN,by simp;omega,HB8.out.trans (hb9.mono HB8.out.size)⟩;refine aT ?_;simp
    ·obtain rfl:j=kn:=by omega
     have q1:¬ 8*g0+j < 8*g0+8\/(8*g0+j < 8*g0+8/\8*g0+j=many):=by omega
     obtain ⟨K,hK⟩:∃ K:Nat,K=8*g0+j:=⟨_,rfl⟩;rw [<-hK] at q1;rw [<-hK];obtain ⟨P,hP⟩:∃ P:Nat,P=8*each*g0:=⟨_,rfl⟩;have hmul:8*(each:Int)*(g0:Int)=(P:Int):=by rw [hP];simp
     have hPb:P<=2000000:=by
      rw [hP];exact ZN (XJ (Xx 8 he) (ZN hg0 hg2)) (by decide)
     have hbn:bV pages (each*8) g0=min (8*(each:Int)) ((pages:Int) - (P:Int)):=by
      rw [<-hmul,bV];have a1:((each*8:Nat):Int)=8*(each:Int):=by omega
      rw [a1,Int.mul_comm (g0:Int)]
     have HBN:=aa hbn;clear hbn hP;obtain ⟨A,hA⟩:∃ A,ab g0=A:=⟨_,rfl⟩;obtain ⟨T,hT⟩:∃ T,it g0=T:=⟨_,rfl⟩;have hAl:=hab g0;have hTl:=hit g0;have HBV:Hid ((⟨#[60,60,32,47,84,121,112,101,32,47,80,97,103,101,115,32]⟩:ByteArray)++⟨A.toArray⟩++⟨#[47,75,105,100,115,32,91]⟩++⟨acc.toArray⟩++⟨#[93,32,47,67,111,117,110,116,32]⟩++⟨T.toArray⟩++⟨#[32,62,62]⟩=⟨(bd g0).toArray⟩):=by
      show _=_
      rw [HBD.out g0,hA,hT, <-HKN.out, <-HAC.out];exact Zj (YF (by simp))
     have HAB:=aa (HAb.out g0 _ HII.out);have HIT:=aa (HIt.out g0 _ HII.out);have HWH:=aa (HW.out g0 _ hlt HII.out);rw [hA] at HAB hAl;rw [hT] at HIT hTl;rw [HBN.out] at HIT;rw [<-HBV.out] at HWH;have zA:=ae A;have zT:=ae T;have hmn:((pages:Int) - (P:Int) < 8*(each:Int)/\min (8*(each:Int)) ((pages:Int) - (P:Int))=(pages:Int) - (P:Int))\/(¬ (pages:Int) - (P:Int) < 8*(each:Int)/\min (8*(each:Int)) ((pages:Int) - (P:Int))=8*(each:Int)):=by omega
     have HB8:=aa hb8;clear hA hT HAb HIt HW HBD HBN HRf HKN HAC hK hke;rcases q1 with q1 | ⟨q1,q2⟩ <;> rcases hmn with ⟨m1,m2⟩ | ⟨m1,m2⟩
     all_goals
      rw [m2] at HIT;clear m2;go_wp2_with fail
      refine (HAB.out _ HB8.out).mono ?_;rintro e wA ⟨rfl,hbA⟩;have HBA:=aa (HB8.out.trans (hbA.mono HB8.out.size));go_wp2_with fail
      refine (HIT.out _ HBA.out).mono ?_;rintro e wB ⟨rfl,hbB⟩;have HBB:=aa (HBA.out.trans (hbB.mono HBA.out.size));go_wp2_with fail
      refine (HWH.out _ HBB.out).mono ?_;rintro e wC ⟨rfl,hIC⟩;go_wp2_with fail
      go_roundg (GK - 1)
      case measure=>omega
      case rel=>exact ⟨g0+1,by omega,by omega,by congr 1,.inr rfl,hIC⟩
  ·have hge:g0=grp:=by omega
   have d1:decide ((g0:Int) < (grp:Int))=false:=by simp;omega
   clear HAb HIt HW HBD HRf;rcases hx with hx | hx
   ·omega
   ·subst hx;by_cases h1:1 < grp
    ·have d2:decide (1 < (grp:Int))=true:=by simp;omega
     have HX:=aa (HZ2.out h1 _ (hge ▸ hI));clear HZ1 HZ2;go_wp2_with fail
     refine HX.out.mono ?_;rintro e w9 ⟨⟨v,rfl⟩,hZ⟩;go_wp2_with fail
     first
      | exact hZ
      | (go_ret;exact hZ)
    ·have d2:decide (1 < (grp:Int))=false:=by simp;omega
     have hZ:=HZ1.out (by omega) _ (hge ▸ hI);rw [<-hge] at hZ;clear HZ1 HZ2;go_wp2_with fail
     first
      | exact hZ
      | (go_ret;exact hZ)
theorem qN (w:World) (r c first each pages cap:Nat) (ad:Option Addr) (I:Nat->World->Prop) (Z:Ending->World->Prop) (N0:Int) (A T bd:List UInt8) (hf:first<=100000) (he:each<=1000) (hp:pages<=1000) (hAl:A.length<=100) (hTl:T.length<=30) (cnt:Int) (hcnt:((pages:Int) < 8*(each:Int)/\cnt=(pages:Int))\/(¬ (pages:Int) < 8*(each:Int)/\cnt=8*(each:Int)))
  (c2:w.cell? (zq r 2)=some (.slice ad pages cap)) (H0:Hid (I 0 w))
  (HBV:Hid ((⟨#[60,60,32,47,84,121,112,101,32,47,80,97,103,101,115,32]⟩:ByteArray)++⟨A.toArray⟩++⟨#[47,75,105,100,115,32,91]⟩++⟨#[]⟩++⟨#[93,32,47,67,111,117,110,116,32]⟩++⟨T.toArray⟩++⟨#[32,62,62]⟩=⟨bd.toArray⟩))
  (F:Hid (∀ g w1,I g w1->w1.cell? r=some (.pointer (some ⟨c,0,none⟩))/\w1.cell? (zq c 2)=some (.bool false)))
  (HAb:Hid (∀ w1,I 0 w1->∀ w2,Below w1 w1 w2->QB 118 #[oz,(1:Int),(first:Int),false] w2 (.string ⟨A.toArray⟩)))
  (HIt:Hid (∀ w1,I 0 w1->∀ w2,Below w1 w1 w2->QB 120 #[cnt] w2 (.string ⟨T.toArray⟩)))
  (HW:Hid (∀ w1,I 0 w1->∀ w2,Below w1 w1 w2->CP 69 #[zp r,.string ⟨bd.toArray⟩] w2 fun e w'=>e=.returned N0/\I 1 w'))
  (HZ1:Hid (∀ w1,I 1 w1->Z (.returned N0) w1)):
  CP 71 #[zp r,(first:Int),oz,(each:Int)] w Z:=by
 have zA:=ae A;have zT:=ae T;go_enter func71,ntmps71
 go_wp2_with fail
 clear c2;go_loopg [12,13,14,15,16] 3 (fun g x gi _ _ _ wr=>(2<=g/\gi=.int .i64 0/\I 0 wr)\/(1<=g/\gi=.int .i64 1/\x=.int .i64 N0/\I 1 wr))
 case atStart=>exact .inl ⟨by omega,rfl,H0.out⟩
 case round=>
  rcases hrel with ⟨hg,rfl,hI⟩ | ⟨hg,rfl,rfl,hI⟩
  ·obtain ⟨GK,hGK⟩:∃ GK,GK=gk:=⟨_,rfl⟩;have HII:=aa hI;obtain ⟨f0,f1⟩:=F.out 0 wr hI;clear hI;go_wp2_with fail
   go_loopg [14,15] 1 (fun _ x k w8=>k=.int .i64 0/\x=.string ⟨#[]⟩/\w8=wr)
   case atStart=>exact ⟨rfl,rfl,rfl⟩
   case round=>
    obtain ⟨rfl,rfl,rfl⟩:=hrel;have HAB:=aa (HAb.out _ HII.out _ (ZV _ _));have HIT:=aa (HIt.out _ HII.out);have HWH:=aa (HW.out _ HII.out);rw [<-HBV.out] at HWH;clear HAb HIt HW;rcases hcnt with ⟨m1,rfl⟩ | ⟨m1,rfl⟩
    all_goals
     go_wp2_with fail
     refine HAB.out.mono ?_;rintro e wA ⟨rfl,hbA⟩;have HBA:=aa hbA;go_wp2_with fail
     refine (HIT.out _ HBA.out).mono ?_;rintro e wB ⟨rfl,hbB⟩;have HBB:=aa (HBA.out.trans (hbB.mono HBA.out.size));go_wp2_with fail
     refine (HWH.out _ HBB.out).mono ?_;rintro e wC ⟨rfl,hIC⟩;go_wp2_with fail
     go_roundg (GK - 1)
     case measure=>omega
     case rel=>exact .inr ⟨by omega,rfl,rfl,hIC⟩
  ·have hZ:=HZ1.out _ hI;obtain ⟨f0,f1⟩:=F.out 1 wr hI;clear HAb HIt HW;go_wp2_with fail
   first
    | exact hZ
    | (go_ret;exact hZ)
def uP (N first many each grp g:Nat):List UInt8:=jN (if 1 < grp then ((first+many+grp+g / 8:Nat):Int) else 0) (gv first many g) (bV N (each*8) g)
theorem wL (N first many each grp:Nat) (hg:grp=max 1 ((many+7) / 8)):bS N first many each=(List.range grp).map (uP N first many each grp)++(if many<=8 then [] else bS N (first+many) grp (each*8)):=by
 rw [bS];by_cases h:many<=8
 ·rw [ZO h,ZO h];have:grp=1:=by omega
  subst this;simp [uP]
 ·rw [ZU h,ZU h];have e:(many+7) / 8=grp:=by omega
  rw [e];congr 1;refine Yi fun g _=>?_
  simp only [uP];rw [ZO (by omega)]
theorem sF (f:Nat->List UInt8) (n g:Nat) (h:g < n):((List.range n).map f).take (g+1)=((List.range n).map f).take g++[f g]:=by
 rw [ZH (by simpa using h)];simp
theorem gu (a n:Nat) (l m:List (List UInt8)):aO a n (l++m)=aO a n l++aO (a+(aF n l).length) (n+l.length) m:=by
 induction l generalizing a n with
 | nil=>simp [aO,aF]
 | cons c r ih=>
  simp only [Zy,aO,ih,aF,ZZ,ZY];rw [Zn,show n+1+r.length=n+(r.length+1) by omega]
theorem sR:∀ (many:Nat),∀ (w:World) (B r c p:Nat) (s ti:ByteArray) (vp vm:Value) (starts:List Nat) (N:Nat) (pc:List Value) (S:Bl) (first each:Nat),fZ B r c s p ti vp vm starts N pc w S->B<=w.heap.size->bU B w->s.size<=2000000000->N<=1000->starts.length+1=first+many->0 < first->first+2*many<=1000->
  ((many<=80/\each<=1)\/(many<=10/\each<=8)\/(many<=8/\each<=1000))->au s p (aF (first+many) (bS N first many each))->
  CP 71 #[zp r,(first:Int),(many:Int),(each:Int)] w fun e w'=>e=.returned ((starts.length+(bS N first many each).length:Nat):Int)/\∃ S',fZ B r c s (p+(aF (first+many) (bS N first many each)).length) ti vp vm (starts++aO p (first+many) (bS N first many each)) N pc w' S'/\Mv S w S' w':=by
 intro many;induction many using Nat.strongRecOn with
 | _ many ih=>
  intro w B r c p s ti vp vm starts N pc S first each h hB ht hs hN hst hf0 hfm hme hg;obtain ⟨grp,hgrp⟩:∃ grp,grp=max 1 ((many+7) / 8):=⟨_,rfl⟩;have hT:=fZ.thing B r c s p ti vp vm starts N pc;have hbel:∀ {S' w'},Mv S w S' w'->Below B w w':=fun m=>m.below (fun k e=>hT.ge h e) hB
  have hnb:=wL N first many each grp hgrp;obtain ⟨bs,hbs⟩:∃ bs,bs=(List.range grp).map (uP N first many each grp):=⟨_,rfl⟩;rw [<-hbs] at hnb;have hbl:bs.length=grp:=by rw [hbs];simp
  have hrw:=hg;rw [hnb,dX] at hrw;have hgb:=hrw.left
  let I:Nat->World->Prop:=fun g w'=>g<=grp/\∃ S',fZ B r c s (p+(aF (first+many) (bs.take g)).length) ti vp vm (starts++aO p (first+many) (bs.take g)) N pc w' S'/\Mv S w S' w'
  have hI0:I 0 w:=⟨XM _,S,by simpa [aF,aO] using h,Mv.refl _ _⟩;have hF:∀ g w1,I g w1->w1.cell? r=some (.pointer (some ⟨c,0,none⟩))/\w1.cell? (zq c 2)=some (.bool false):=by
   rintro g w1 ⟨_,S1,h1,m1⟩;obtain ⟨S2,hR,_,_⟩:=ah.fst (aW.thing B _ _ _ _ _) h1;obtain ⟨ad,cp,c0,_⟩:=hR.read;obtain ⟨S3,hC⟩:=hR.cur;exact ⟨c0,hC.at 2 _ rfl⟩
  have tb:∀ {g w1},I g w1->∀ w2,Below w1 w1 w2->bU B w2:=by
   rintro g w1 ⟨_,S1,h1,m1⟩ w2 hg2;exact (ht.on (hbel m1)).on (hg2.mono (ZN hB m1.size))
  have hc2:∃ ad cap,w.cell? (zq r 2)=some (.slice ad N cap):=by
   obtain ⟨Sa,Sb,hR,hW,off,rfl⟩:=h;obtain ⟨ad,cp,_,_,c2,_⟩:=hR.read;obtain ⟨ad',cap',rfl⟩:=hW.form;exact ⟨ad',cap',c2⟩
  obtain ⟨ad,cap,c2⟩:=hc2;have hbd:∀ g,g < grp->bs.take (g+1)=bs.take g++[uP N first many each grp g]:=fun g hg'=>by rw [hbs];exact sF _ grp g hg'
  have hgl:grp<=11:=by omega
  have hbn:∀ g,g<=grp->-100000000<=bV N (each*8) g/\bV N (each*8) g<=100000000:=by
   intro g hg';have h1:g*(each*8)<=11*8000:=XJ (by omega) (by omega);have h2:(g:Int)*((each*8:Nat):Int)=((g*(each*8):Nat):Int):=by simp
   unfold bV;rw [h2];omega
  have nl:∀ n:Nat,n<=1000000->(aD (n:Int)).length<=30:=by
   intro n hn;have:=av (n:Int) (by omega) (by omega);rw [aD,ZZ];simp only [ZY,ZW];omega
  have hel:∀ g,g<=grp->(bt [47,80,97,114,101,110,116] (if 1 < grp then ((first+many+grp+g / 8:Nat):Int) else 0)).length<=100:=by
   intro g hg';have:=nl (first+many+grp+g / 8) (by omega);by_cases h1:1 < grp
   ·rw [ZO h1,bt,ZU (by omega)];simp only [ZZ,ZY,ZW];omega
   ·rw [ZU h1,bt,ZO rfl];simp
  have hil:∀ g,g<=grp->(Lib.itoa (bV N (each*8) g)).length<=30:=by
   intro g hg';obtain ⟨b1,b2⟩:=hbn g hg';have:=av (bV N (each*8) g) (by omega) (by omega);omega
  have hbfl:∀ g,g<=grp->(uP N first many each grp g).length<=1000000:=by
   intro g hg';have h1:=hel g hg';have h2:=hil g hg';have h3:=vA (first+8*g) (min 8 (many - 8*g)) (by omega);have h4:(gv first many g).length<=248:=by
    have:gv first many g=gz (first+8*g) (min 8 (many - 8*g)):=rfl;rw [this];omega
   unfold uP jN;simp only [ZZ,ZY,ZW];omega
  have hW:∀ g w1,g < grp->I g w1->∀ w2,Below w1 w1 w2->(uP N first many each grp g).length<=1000000->CP 69 #[zp r,.string ⟨(uP N first many each grp g).toArray⟩] w2 fun e w'=>e=.returned ((starts.length+g+1:Nat):Int)/\I (g+1) w':=by
   rintro g w1 hlt ⟨_,S1,h1,m1⟩ w2 hg2 hbl2;have h2:=(fZ.thing B r c s _ ti vp vm (starts++aO p (first+many) (bs.take g)) N pc).grow h1 hg2;obtain ⟨S2,hR,_,k⟩:=ah.fst (aW.thing B _ _ _ _ _) h2;have hsl:(starts++aO p (first+many) (bs.take g)).length=starts.length+g:=by rw [ZZ,ck,Zx,hbl];omega
   have hgg:au s (p+(aF (first+many) (bs.take g)).length) (aK (first+many+g) (uP N first many each grp g)):=by
    have e:bs=bs.take (g+1)++bs.drop (g+1):=(YI _ _).symm;have h5:=hgb;rw [e,dX,hbd g hlt,fj,Zx,hbl,Zr (Yu hlt),ZQ] at h5;exact h5.right.left
   refine (g_ w2 B r c _ s ti vp vm _ S2 (uP N first many each grp g) hbl2 hR (ZN hB (ZN m1.size hg2.size)) ((ht.on (hbel m1)).on (hg2.mono (ZN hB m1.size))) hs (by rw [hsl];omega) (by rw [hsl,show starts.length+g+1=first+many+g by omega];exact hgg)).mono ?_;rintro e w3 ⟨rfl,S',h',m'⟩;obtain ⟨S'',h'',m''⟩:=k _ _ _ h' m';refine ⟨by rw [hsl],hlt,S'',?_,(m1.trans (Mv.grow hg2 _)).trans m''⟩;rw [hbd g hlt,fj,il,ZZ,Zx,hbl,Zr (Yu hlt), <-ZQ, <-Zn];rw [hsl,show starts.length+g+1=first+many+g by omega] at h'';exact h''
  have hfin:∀ w1,many<=8->I grp w1->∃ S',fZ B r c s (p+(aF (first+many) (bS N first many each)).length) ti vp vm (starts++aO p (first+many) (bS N first many each)) N pc w1 S'/\Mv S w S' w1:=by
   rintro w1 h8 ⟨_,S1,h1,m1⟩;rw [hnb,ZO h8,Zm];rw [ZF (by omega)] at h1;exact ⟨S1,h1,m1⟩
  by_cases hz:many=0
  ·have hg1:grp=1:=by omega
   have hzI:((many:Nat):Int)=0:=by omega
   rw [hzI];have e0:uP N first many each grp 0=jN 0 [] (bV N (each*8) 0):=by
    rw [uP,ZU (by omega),hz];rfl
   refine qN w r c first each N cap ad I _ ((starts.length+0+1:Nat):Int) [] (Lib.itoa (bV N (each*8) 0)) (uP N first many each grp 0) (by omega) (by omega) hN (by simp) (hil 0 (by omega)) (bV N (each*8) 0) ?_ c2 hI0 ?_ hF ?_ ?_ (fun w1 gg w2 hg2=>by have:=hW 0 w1 (by omega) gg w2 hg2 (hbfl 0 (by omega));exact this) ?_
   ·have:bV N (each*8) 0=min ((each*8:Nat):Int) (N:Int):=by unfold bV;simp
    rw [this];omega
   ·rw [e0];refine Zj (YF ?_);simp [jN,bt]
   ·intro w1 gg w2 hg2;have:=kV B w2 0 1 first false (tb gg w2 hg2) (by omega) (by omega) (by omega) hf0;rw [ZU (by simp),bt,ZO rfl] at this;exact this
   ·intro w1 gg w2 hg2;obtain ⟨b1,b2⟩:=hbn 0 (by omega);exact bp B w2 _ (by omega) (by omega) (tb gg w2 hg2)
   ·intro w1 gg;refine ⟨?_,hfin w1 (by omega) (by rw [hg1];exact gg)⟩;rw [hnb,ZO (by omega),Zm,hbl,hg1]
  ·refine ua w r c first many each N grp cap ad I _ (fun g=>((starts.length+g+1:Nat):Int)) (fun g=>if g<=grp then bt [47,80,97,114,101,110,116] (if 1 < grp then ((first+many+grp+g / 8:Nat):Int) else 0) else []) (fun g=>if g<=grp then Lib.itoa (bV N (each*8) g) else []) (fun g=>[60,60,32,47,84,121,112,101,32,47,80,97,103,101,115,32]++(if g<=grp then bt [47,80,97,114,101,110,116] (if 1 < grp then ((first+many+grp+g / 8:Nat):Int) else 0) else [])++[47,75,105,100,115,32,91]++gz (first+8*g) (min 8 (many - 8*g))++[93,32,47,67,111,117,110,116,32]++(if g<=grp then Lib.itoa (bV N (each*8) g) else [])++[32,62,62]) (by omega) (by omega) (by omega) hN hz (by omega) (by omega) hgrp ?_ ?_ c2 hI0 (fun _=>rfl) hF ?_ ?_ ?_ ?_ ?_ ?_
   ·intro g;split
    ·exact hel g (by assumption)
    ·simp
   ·intro g;split
    ·exact hil g (by assumption)
    ·simp
   ·intro g w1 gg w2 hg2 k hk;rw [show (first:Int)+(k:Int)=((first+k:Nat):Int) by omega];exact cE B w2 _ (by omega) (by omega) (tb gg w2 hg2)
   ·intro g w1 gg w2 hg2;have:=kV B w2 g grp (first+many) false (tb gg w2 hg2) (by have:=gg.1;omega) (by omega) (by omega) (by omega);rw [ZO gg.1];simp only [Bool.false_eq_true,false_or] at this;rw [show (first:Int)+(many:Int)=((first+many:Nat):Int) by omega];exact this
   ·intro g w1 gg w2 hg2;obtain ⟨b1,b2⟩:=hbn g gg.1;rw [ZO gg.1];exact bp B w2 _ (by omega) (by omega) (tb gg w2 hg2)
   ·intro g w1 hlt gg w2 hg2;have:=hW g w1 hlt gg w2 hg2 (hbfl g (by omega));rw [ZO (Yu hlt),ZO (Yu hlt)];exact this
   ·intro hg1 w1 gg;have h8:many<=8:=by omega
    refine ⟨?_,hfin w1 h8 gg⟩;rw [hnb,ZO h8,Zm,hbl,hg1]
   ·intro hg1 w1 gg;obtain ⟨_,S1,h1,m1⟩:=gg;have h8:¬ many<=8:=by omega
    rw [ZF (by omega)] at h1;rw [show (first:Int)+(many:Int)=((first+many:Nat):Int) by omega,show 8*(each:Int)=((each*8:Nat):Int) by omega];have hsl:(starts++aO p (first+many) bs).length=starts.length+grp:=by rw [ZZ,ck,hbl]
    have hg2:au s (p+(aF (first+many) bs).length) (aF (first+many+grp) (bS N (first+many) grp (each*8))):=by
     have:=hrw.right;rw [ZU h8,hbl] at this;exact this
    refine (ih grp (by omega) w1 B r c _ s ti vp vm _ N pc S1 (first+many) (each*8) h1 (ZN hB m1.size) (ht.on (hbel m1)) hs hN (by rw [hsl];omega) (by omega) (by omega) (by omega) hg2).mono ?_;rintro e w2 ⟨rfl,S2,h2,m2⟩;refine ⟨⟨_,rfl⟩,?_,S2,?_,m1.trans m2⟩
    ·rw [hnb,ZU h8,hsl,ZZ,hbl,Zn]
    ·rw [hnb,ZU h8,dX,gu,hbl,ZZ, <-ZQ, <-Zn];exact h2
def lM:Nat->Nat->List UInt8
 | 0,_=>[]
 | k+1,n=>UInt8.ofNat (48+n / 10 ^ k % 10)::lM k n
theorem zB (w:World) (n:Nat) (hn:n < 10000000000):QE 123 #[(n:Int)] w (.string ⟨(lM 10 n).toArray⟩):=by
 have HG:Hid (∀ (wx:World) (d:Nat),d < 10->QE 120 #[.int .i64 d] wx (.string ⟨#[UInt8.ofNat (48+d)]⟩)):=fun wx d hd=>aU wx d hd
 go_enter func123,ntmps123
 go_wp2_with fail
 go_loopg [0,3,4] 11 (fun g m x i wr=>∃ k q:Nat,∃ acc:List UInt8,k<=10/\10 - k < g/\i=.int .i64 (k:Int)/\m=.int .i64 (q:Int)/\q < 10000000000/\Hid (q=n / 10 ^ k)/\x=.string ⟨acc.toArray⟩/\Hid (acc=lM k n)/\acc.length<=k/\wr=w)
 case atStart=>exact ⟨0,n,[],by omega,by omega,rfl,rfl,hn,by show _=_;simp,rfl,rfl,by simp,rfl⟩
 case round=>
  obtain ⟨k,q,acc,hk,hgk,rfl,rfl,hq,HQ,rfl,HAC,hal,rfl⟩:=hrel;have hz:=ae acc;by_cases hlt:k < 10
  ·have hd:q % 10 < 10:=Yl _ (by decide);obtain ⟨d,hdd⟩:∃ d,d=q % 10:=⟨_,rfl⟩;obtain ⟨q2,hq2⟩:∃ q2,q2=q / 10:=⟨_,rfl⟩;have e1:(q:Int) % 10=(d:Int):=by omega
   have e2:(q:Int) / 10=(q2:Int):=by omega
   have hd2:d < 10:=by omega
   have hq3:q2 < 10000000000:=by omega
   have HQ2:Hid (q2=n / 10 ^ (k+1)):=by
    show _=_
    rw [hq2,HQ.out,Ye, <-Nat.pow_succ]
   have HN:Hid (UInt8.ofNat (48+d)::acc=lM (k+1) n):=by
    show _=_
    rw [lM, <-HQ.out, <-hdd,HAC.out]
   clear hdd hq2 hd;go_wp2_with fail
   refine (HG.out _ d hd2).mono ?_;rintro e w1 ⟨rfl,rfl⟩;go_wp2_with fail
   go_roundg (gk - 1)
   case measure=>omega
   case rel=>
    refine ⟨k+1,q2,UInt8.ofNat (48+d)::acc,by omega,by omega,by go_num,rfl,hq3,HQ2,?_,HN,by simp;omega,rfl⟩;refine aT ?_;simp
  ·obtain rfl:k=10:=by omega
   have HF:=aa HAC.out;go_wp2_with fail
   go_ret;rw [HF.out];exact ⟨rfl,rfl⟩
theorem yO (m n:Nat):lM m n=(List.range m).map fun t=>Lib.dg n (m - 1 - t):=by
 induction m with
 | zero=>rfl
 | succ m ih=>
  rw [List.range_succ_eq_map,YC,Ym,lM,ih];refine congr (congrArg _ ?_) (Yi fun t _=>?_)
  ·simp [Lib.dg]
  ·simp only [Function.comp];congr 1;omega
theorem q9 (k n:Nat) (h:n < 10 ^ (k+1)):lM (k+1) n=Lib.repeatL [48] (k+1 - (Lib.decDigits n).length)++Lib.decDigits n:=by
 induction k with
 | zero=>
  rw [Lib.decDigits_one (by simpa using h)];simp [lM,Lib.repeatL];have:n % 10=n:=XF (by simpa using h);rw [this]
 | succ k ih=>
  by_cases hk:n < 10 ^ (k+1)
  ·have hl:=uB n k hk;rw [lM,ih hk,XC hk,show k+1+1 - (Lib.decDigits n).length=(k+1 - (Lib.decDigits n).length)+1 by omega,Lib.repeatL];rfl
  ·have hd:=Lib.nDigits_unique (k+1) n (by omega) h;rw [Lib.decDigits_length,hd,Nat.sub_self,Lib.repeatL,Yx,Lib.decDigits_eq,hd,yO]
theorem zY (w:World) (n:Nat) (hn:n < 10000000000):QE 123 #[(n:Int)] w (.string ⟨(gr n).toArray⟩):=by
 have h:=zB w n hn;have e:lM 10 n=gr n:=by
  rw [q9 9 n (by simpa using hn),gr,Lib.itoa_nonneg]
 rw [e] at h;exact h
theorem tO (w:World) (B r c p L g cap root info:Nat) (st:Nat->Nat) (s:ByteArray) (G:Nat->World->Prop) (Z:Ending->World->Prop) (si nr ni ip:List UInt8) (hsi:si.length<=30) (hnr:nr.length<=30) (hni:ni.length<=30) (hip:ip.length<=30) (hL:L<=1000) (hcap:L<=cap) (hcap2:cap<=9223372036854775807) (hst:∀ i,i < L->st i < 4000000000) (hp:p<=2000000000)
  (H0:Hid (G p w))
  (F:Hid (∀ q w1,G q w1->w1.cell? r=some (.pointer (some ⟨c,0,none⟩))/\r < w1.heap.size/\w1.cell? (zq c 1)=some (.int .i64 (q:Int))/\w1.cell? (zq r 4)=some (.slice g L cap)/\g < w1.heap.size/\∀ i,i < L->w1.cell? (zq g i)=some (.int .i64 (st i:Int))))
  (E:Hid (∀ q w1 t,G q w1->∀ w2,Below w1 w1 w2->au s q t->CP 114 #[zp c,.string ⟨t.toArray⟩] w2 fun e w'=>e=.returned (.tuple #[])/\G (q+t.length) w'))
  (HI:Hid (∀ q w1,G q w1->∀ w2,Below w1 w1 w2->QB 120 #[((L:Int)+1:Int)] w2 (.string ⟨si.toArray⟩)))
  (HP:Hid (∀ q w1,G q w1->∀ w2,Below w1 w1 w2->QB 120 #[(p:Int)] w2 (.string ⟨ip.toArray⟩)))
  (HRr:Hid (∀ q w1,G q w1->∀ w2,Below w1 w1 w2->QB 74 #[(root:Int)] w2 (.string ⟨nr.toArray⟩)))
  (HRi:Hid (∀ q w1,G q w1->∀ w2,Below w1 w1 w2->QB 74 #[(info:Int)] w2 (.string ⟨ni.toArray⟩)))
  (qA qB qC:Nat) (GA:Hid (au s p ([120,114,101,102,10,48,32]++si++[10,48,48,48,48,48,48,48,48,48,48,32,54,53,53,51,53,32,102,32,10])/\p+([120,114,101,102,10,48,32]++si++[10,48,48,48,48,48,48,48,48,48,48,32,54,53,53,51,53,32,102,32,10]).length=qA))
  (qi:Nat->Nat) (hq0:qi 0=qA) (hqL:qi L=qB) (GR:Hid (∀ i,i < L->au s (qi i) (gr (st i)++[32,48,48,48,48,48,32,110,32,10])/\qi i+(gr (st i)++[32,48,48,48,48,48,32,110,32,10]).length=qi (i+1)/\(gr (st i)).length<=30))
  (GB:Hid (au s qB ([116,114,97,105,108,101,114,10,60,60,32,47,83,105,122,101,32]++si++[32,47,82,111,111,116,32]++nr++[32])/\qB+([116,114,97,105,108,101,114,10,60,60,32,47,83,105,122,101,32]++si++[32,47,82,111,111,116,32]++nr++[32]).length=qC))
  (qD:Nat) (GC:Hid ((info=0/\qC=qD)\/(0 < info/\au s qC ([47,73,110,102,111,32]++ni++[32])/\qC+([47,73,110,102,111,32]++ni++[32]).length=qD)))
  (qE:Nat) (GD:Hid (au s qD ([62,62,10,115,116,97,114,116,120,114,101,102,10]++ip++[10,37,37,69,79,70,10])/\qD+([62,62,10,115,116,97,114,116,120,114,101,102,10]++ip++[10,37,37,69,79,70,10]).length=qE))
  (HZ:Hid (∀ w1,G qE w1->Z (.returned (.tuple #[])) w1)):
  CP 75 #[zp r,(root:Int),(info:Int)] w Z:=by
 obtain ⟨sA1,hsA1⟩:∃ x,([120,114,101,102,10,48,32]:List UInt8)++si=x:=⟨_,rfl⟩;have HA1:=aa (show (⟨#[120,114,101,102,10,48,32]⟩:ByteArray)++⟨si.toArray⟩=⟨sA1.toArray⟩ by rw [<-hsA1];exact an _ _);have lsA1:sA1.length<=60:=by rw [<-hsA1,ZZ];(try simp only [ZY,ZW]);omega
 have zsA1:=ae sA1;obtain ⟨sA,hsA⟩:∃ x,(sA1:List UInt8)++[10,48,48,48,48,48,48,48,48,48,48,32,54,53,53,51,53,32,102,32,10]=x:=⟨_,rfl⟩;have HA2:=aa (show (⟨sA1.toArray⟩:ByteArray)++⟨#[10,48,48,48,48,48,48,48,48,48,48,32,54,53,53,51,53,32,102,32,10]⟩=⟨sA.toArray⟩ by rw [<-hsA];exact an _ _);have lsA:sA.length<=200:=by rw [<-hsA,ZZ];(try simp only [ZY,ZW]);omega
 have zsA:=ae sA;have zsi:=ae si;obtain ⟨a0,hr,a1,a4,hg,ai⟩:=F.out p w H0.out;have HIT:=aa (HI.out p w H0.out);have HEA:=aa (fun w2 hb=>E.out p w sA H0.out w2 hb (by rw [<-hsA, <-hsA1];exact GA.out.1));have hqA:p+sA.length=qA:=by rw [<-hsA, <-hsA1];exact GA.out.2
 rw [hqA] at HEA;clear hqA hsA hsA1;go_enter func75,ntmps75
 go_wp2_with fail
 refine ap 8 87 (ag [zp r,zp r,zp r,zp c,((L:Int)+1:Int),.string ⟨si.toArray⟩,.string ⟨sA1.toArray⟩,.string ⟨sA.toArray⟩]) (by kernel_rfl) rfl (by kernel_rfl) aq ?_;simp only [TD]
 iterate 8
  refine ⟨fun w1 hG hd=>?_,fun v=>?_⟩
  ·have c1:=(Zw hG (p:=r) hr).trans a0
   try (have d:=hd _ ⟨ZM _⟩ rfl;simp only [ag,GD] at d;subst d)
   clear hd;go_wp2_with fail
   first
    | exact RG
    | exact CS (by assumption)
    | (refine (HIT.out w1 hG).mono ?_;rintro e w2 ⟨rfl,hB2⟩;go_wp2;exact ⟨rfl,hB2⟩)
  simp only [TN]
 intro wB hG hd;have d3:=hd 3 (by omega);have d7:=hd 7 (by omega);simp only [ag,GD] at d3 d7;subst d3 d7;have HX:=aa (HEA.out wB hG);clear hd HIT HEA HA1 HA2 zsA1 zsA lsA1 lsA a0 hr a1 a4 hg ai hG;go_wp2_with fail
 refine HX.out.mono ?_;rintro e wC ⟨rfl,gC⟩;clear HX;go_wp2_with fail
 clear H0;go_loopg [8] (L+1) (fun gg x wr=>∃ k:Nat,k<=L/\L - k < gg/\x=.int .i64 (k:Int)/\G (qi k) wr)
 case atStart=>exact ⟨0,by omega,by omega,rfl,by rw [hq0];exact gC⟩
 case round=>
  obtain ⟨k,hk,hgk,rfl,hG0⟩:=hrel;clear gC;obtain ⟨a0,hr,a1,a4,hg,ai⟩:=F.out _ wr hG0;by_cases hlt:k < L
  ·have d1:decide ((k:Int) < (L:Int))=true:=by simp;omega
   have ak:=ai k hlt;obtain ⟨gr1,gr2,gr3⟩:=GR.out k hlt;have hsk:=hst k hlt;obtain ⟨x,hx⟩:∃ x,st k=x:=⟨_,rfl⟩;rw [hx] at ak gr1 gr2 gr3 hsk;have HTN:=aa (fun wx=>zY wx x (by omega));obtain ⟨td,htd⟩:∃ td,gr x=td:=⟨_,rfl⟩;rw [htd] at HTN gr1 gr2 gr3;obtain ⟨rw1,hrw1⟩:∃ y,td++[32,48,48,48,48,48,32,110,32,10]=y:=⟨_,rfl⟩;have HA1:=aa (show (⟨td.toArray⟩:ByteArray)++⟨#[32,48,48,48,48,48,32,110,32,10]⟩=⟨rw1.toArray⟩ by rw [<-hrw1];exact an _ _);rw [hrw1] at gr1 gr2;have ztd:=ae td;have HEA:=aa (fun w2 hb=>E.out _ wr rw1 hG0 w2 hb gr1);rw [gr2] at HEA;clear hrw1 htd hx gr1 gr2 ai hG0;go_wp2_with fail
   refine ap 13 87 (ag [zp r,zp r,zp r,zp c,zp r,zp r,zq r 4,.slice g L cap,(k:Int),zq g k,(x:Int),.string ⟨td.toArray⟩,.string ⟨rw1.toArray⟩]) (by kernel_rfl) rfl (by kernel_rfl) aq ?_;simp only [TD]
   iterate 11
    refine ⟨fun w1 hG hd=>?_,fun v=>?_⟩
    ·have c1:=(Zw hG (p:=r) hr).trans a0;have c2:=(Zw hG (p:=zq r 4) hr).trans a4;have c3:=(Zw hG (p:=zq g k) hg).trans ak
     try (have d:=hd _ ⟨ZM _⟩ rfl;simp only [ag,GD] at d;subst d)
     try (have d:=hd _ ⟨.tail _ (.head _)⟩ rfl;simp only [ag,GD] at d;subst d)
     clear hd;go_wp2;exact RG
    simp only [TN]
   refine ⟨fun w1 hG hd=>?_,fun v11=>?_⟩
   ·have d10:=hd ⟨10,.data⟩ (by simp) rfl;simp only [ag,GD] at d10;clear hd;subst d10;have HX:=aa (HTN.out w1);go_wp2_with fail
    refine HX.out.mono ?_;rintro e w2 ⟨rfl,rfl⟩;go_wp2;exact RG
   simp only [TN];refine ⟨fun w1 hG hd=>?_,fun v12=>?_⟩
   ·have d11:=hd ⟨11,.data⟩ (by simp) rfl;simp only [ag,GD] at d11;clear hd;subst d11;go_wp2;exact ⟨congrArg Value.string HA1.out,af.refl _⟩
   simp only [TN];intro wB hG hd;have d3:=hd 3 (by omega);have d12:=hd 12 (by omega);simp only [ag,GD] at d3 d12;subst d3 d12;have HX:=aa (HEA.out wB hG);clear hd HEA HA1 HTN ztd a0 hr a1 a4 hg ak hG;go_wp2_with fail
   refine HX.out.mono ?_;rintro e wD ⟨rfl,gD⟩;clear HX;go_wp2_with fail
   go_roundg (gk - 1)
   case measure=>omega
   case rel=>exact ⟨k+1,by omega,by omega,by congr 1,gD⟩
  ·obtain rfl:L=k:=by omega
   have d1:decide ((L:Int) < (L:Int))=false:=by simp
   rw [hqL] at hG0;clear ai;obtain ⟨sB1,hsB1⟩:∃ x,([116,114,97,105,108,101,114,10,60,60,32,47,83,105,122,101,32]:List UInt8)++si=x:=⟨_,rfl⟩;have HB1:=aa (show (⟨#[116,114,97,105,108,101,114,10,60,60,32,47,83,105,122,101,32]⟩:ByteArray)++⟨si.toArray⟩=⟨sB1.toArray⟩ by rw [<-hsB1];exact an _ _);have lsB1:sB1.length<=60:=by rw [<-hsB1,ZZ];(try simp only [ZY,ZW]);omega
   have zsB1:=ae sB1;obtain ⟨sB2,hsB2⟩:∃ x,(sB1:List UInt8)++[32,47,82,111,111,116,32]=x:=⟨_,rfl⟩;have HB2:=aa (show (⟨sB1.toArray⟩:ByteArray)++⟨#[32,47,82,111,111,116,32]⟩=⟨sB2.toArray⟩ by rw [<-hsB2];exact an _ _);have lsB2:sB2.length<=80:=by rw [<-hsB2,ZZ];(try simp only [ZY,ZW]);omega
   have zsB2:=ae sB2;obtain ⟨sB3,hsB3⟩:∃ x,(sB2:List UInt8)++nr=x:=⟨_,rfl⟩;have HB3:=aa (show (⟨sB2.toArray⟩:ByteArray)++⟨nr.toArray⟩=⟨sB3.toArray⟩ by rw [<-hsB3];exact an _ _);have lsB3:sB3.length<=120:=by rw [<-hsB3,ZZ];(try simp only [ZY,ZW]);omega
   have zsB3:=ae sB3;obtain ⟨sB4,hsB4⟩:∃ x,(sB3:List UInt8)++[32]=x:=⟨_,rfl⟩;have HB4:=aa (show (⟨sB3.toArray⟩:ByteArray)++⟨#[32]⟩=⟨sB4.toArray⟩ by rw [<-hsB4];exact an _ _);have lsB4:sB4.length<=130:=by rw [<-hsB4,ZZ];(try simp only [ZY,ZW]);omega
   have zsB4:=ae sB4;have zsi:=ae si;have znr:=ae nr;have HIT:=aa (HI.out _ wr hG0);have HRR:=aa (HRr.out _ wr hG0);have hTB:sB4=[116,114,97,105,108,101,114,10,60,60,32,47,83,105,122,101,32]++si++[32,47,82,111,111,116,32]++nr++[32]:=by rw [<-hsB4, <-hsB3, <-hsB2, <-hsB1]
   have HEA:=aa (fun w2 hb=>E.out _ wr sB4 hG0 w2 hb (by rw [hTB];exact GB.out.1));have hqC:qB+sB4.length=qC:=by rw [hTB];exact GB.out.2
   rw [hqC] at HEA;clear hqC hTB hsB1 hsB2 hsB3 hsB4 GB GR;go_wp2_with fail
   refine ap 12 87 (ag [zp r,zp r,zp r,zp c,((L:Int)+1:Int),.string ⟨si.toArray⟩,.string ⟨sB1.toArray⟩,.string ⟨sB2.toArray⟩,(root:Int),.string ⟨nr.toArray⟩,.string ⟨sB3.toArray⟩,.string ⟨sB4.toArray⟩]) (by kernel_rfl) rfl (by kernel_rfl) aq ?_;simp only [TD]
   iterate 12
    refine ⟨fun w1 hG hd=>?_,fun v=>?_⟩
    ·have c1:=(Zw hG (p:=r) hr).trans a0
     try (have d:=hd _ ⟨ZM _⟩ rfl;simp only [ag,GD] at d;subst d)
     try (have d:=hd _ ⟨.tail _ (.head _)⟩ rfl;simp only [ag,GD] at d;subst d)
     clear hd;go_wp2_with fail
     first
      | exact RG
      | exact CS (by assumption)
      | ((first | (have h:=HIT.out w1 hG;with_reducible refine h.mono ?_) | (have h:=HRR.out w1 hG;with_reducible refine h.mono ?_));rintro e w2 ⟨rfl,hB2⟩;go_wp2;exact ⟨rfl,hB2⟩)
    simp only [TN]
   intro wB hG hd;have d3:=hd 3 (by omega);have d11:=hd 11 (by omega);simp only [ag,GD] at d3 d11;subst d3 d11;have HX:=aa (HEA.out wB hG);clear hd HEA HIT HRR HB1 HB2 HB3 HB4 zsB1 zsB2 zsB3 zsB4 lsB1 lsB2 lsB3 lsB4 a0 hr a1 a4 hg hG hG0;go_wp2_with fail
   refine HX.out.mono ?_;rintro e wD ⟨rfl,gD⟩;clear HX;obtain ⟨sV1,hsV1⟩:∃ x,([62,62,10,115,116,97,114,116,120,114,101,102,10]:List UInt8)++ip=x:=⟨_,rfl⟩;have HV1:=aa (show (⟨#[62,62,10,115,116,97,114,116,120,114,101,102,10]⟩:ByteArray)++⟨ip.toArray⟩=⟨sV1.toArray⟩ by rw [<-hsV1];exact an _ _);have lsV1:sV1.length<=60:=by rw [<-hsV1,ZZ];(try simp only [ZY,ZW]);omega
   have zsV1:=ae sV1;obtain ⟨sV,hsV⟩:∃ x,(sV1:List UInt8)++[10,37,37,69,79,70,10]=x:=⟨_,rfl⟩;have HV2:=aa (show (⟨sV1.toArray⟩:ByteArray)++⟨#[10,37,37,69,79,70,10]⟩=⟨sV.toArray⟩ by rw [<-hsV];exact an _ _);have lsV:sV.length<=80:=by rw [<-hsV,ZZ];(try simp only [ZY,ZW]);omega
   have zsV:=ae sV;have zip:=ae ip;have hTV:sV=[62,62,10,115,116,97,114,116,120,114,101,102,10]++ip++[10,37,37,69,79,70,10]:=by rw [<-hsV, <-hsV1]
   have hqE:qD+sV.length=qE:=by rw [hTV];exact GD.out.2
   have GV:Hid (au s qD sV):=by show au _ _ _;rw [hTV];exact GD.out.1
   clear hTV hsV hsV1 GD;obtain ⟨a0,hr,_⟩:=F.out _ wD gD;rcases GC.out with ⟨hi0,hqq⟩ | ⟨hi0,gi1,gi2⟩
   ·have d2:decide (0 < (info:Int))=false:=by simp;omega
    have d2':¬ 0 < info:=by omega
    subst hqq;have HIT:=aa (HP.out _ wD gD);have HEA:=aa (fun w2 hb=>E.out _ wD sV gD w2 hb GV.out);rw [hqE] at HEA;clear GC;go_wp2_with fail
    refine ap 8 87 (ag [zp r,zp r,zp r,zp c,(p:Int),.string ⟨ip.toArray⟩,.string ⟨sV1.toArray⟩,.string ⟨sV.toArray⟩]) (by kernel_rfl) rfl (by kernel_rfl) aq ?_;simp only [TD]
    iterate 8
     refine ⟨fun w1 hG hd=>?_,fun v=>?_⟩
     ·have c1:=(Zw hG (p:=r) hr).trans a0
      try (have d:=hd _ ⟨ZM _⟩ rfl;simp only [ag,GD] at d;subst d)
      clear hd;go_wp2_with fail
      first
       | exact RG
       | exact CS (by assumption)
       | (refine (HIT.out w1 hG).mono ?_;rintro e w2 ⟨rfl,hB2⟩;go_wp2;exact ⟨rfl,hB2⟩)
     simp only [TN]
    intro wE hG hd;have d3:=hd 3 (by omega);have d7:=hd 7 (by omega);simp only [ag,GD] at d3 d7;subst d3 d7;have HX:=aa (HEA.out wE hG);clear hd HEA HIT hG a0 hr;go_wp2_with fail
    refine HX.out.mono ?_;rintro e wF ⟨rfl,gF⟩;have hZ:=HZ.out _ gF;go_wp2_with fail
    go_end0;exact hZ
   ·have d2:decide (0 < (info:Int))=true:=by simp;omega
    obtain ⟨sW1,hsW1⟩:∃ x,([47,73,110,102,111,32]:List UInt8)++ni=x:=⟨_,rfl⟩;have HW1:=aa (show (⟨#[47,73,110,102,111,32]⟩:ByteArray)++⟨ni.toArray⟩=⟨sW1.toArray⟩ by rw [<-hsW1];exact an _ _);have lsW1:sW1.length<=60:=by rw [<-hsW1,ZZ];(try simp only [ZY,ZW]);omega
    have zsW1:=ae sW1;obtain ⟨sW,hsW⟩:∃ x,(sW1:List UInt8)++[32]=x:=⟨_,rfl⟩;have HW2:=aa (show (⟨sW1.toArray⟩:ByteArray)++⟨#[32]⟩=⟨sW.toArray⟩ by rw [<-hsW];exact an _ _);have lsW:sW.length<=80:=by rw [<-hsW,ZZ];(try simp only [ZY,ZW]);omega
    have zsW:=ae sW;have zni:=ae ni;have hTW:sW=[47,73,110,102,111,32]++ni++[32]:=by rw [<-hsW, <-hsW1]
    have HRI:=aa (HRi.out _ wD gD);have HEA:=aa (fun w2 hb=>E.out _ wD sW gD w2 hb (by rw [hTW];exact gi1));have hqw:qC+sW.length=qD:=by rw [hTW];exact gi2
    rw [hqw] at HEA;clear hqw hTW hsW hsW1 gi1 gi2 GC;go_wp2_with fail
    refine ap 8 87 (ag [zp r,zp r,zp r,zp c,(info:Int),.string ⟨ni.toArray⟩,.string ⟨sW1.toArray⟩,.string ⟨sW.toArray⟩]) (by kernel_rfl) rfl (by kernel_rfl) aq ?_;simp only [TD]
    iterate 8
     refine ⟨fun w1 hG hd=>?_,fun v=>?_⟩
     ·have c1:=(Zw hG (p:=r) hr).trans a0
      try (have d:=hd _ ⟨ZM _⟩ rfl;simp only [ag,GD] at d;subst d)
      clear hd;go_wp2_with fail
      first
       | exact RG
       | exact CS (by assumption)
       | (refine (HRI.out w1 hG).mono ?_;rintro e w2 ⟨rfl,hB2⟩;go_wp2;exact ⟨rfl,hB2⟩)
     simp only [TN]
    intro wE hG hd;have d3:=hd 3 (by omega);have d7:=hd 7 (by omega);simp only [ag,GD] at d3 d7;subst d3 d7;have HX:=aa (HEA.out wE hG);clear hd HEA HRI hG a0 hr HW1 HW2 zsW1 zsW lsW1 lsW gD;go_wp2_with fail
    refine HX.out.mono ?_;rintro e wF ⟨rfl,gF⟩;clear HX;obtain ⟨a0,hr,_⟩:=F.out _ wF gF;have HIT:=aa (HP.out _ wF gF);have HEA:=aa (fun w2 hb=>E.out _ wF sV gF w2 hb GV.out);rw [hqE] at HEA;go_wp2_with fail
    refine ap 8 87 (ag [zp r,zp r,zp r,zp c,(p:Int),.string ⟨ip.toArray⟩,.string ⟨sV1.toArray⟩,.string ⟨sV.toArray⟩]) (by kernel_rfl) rfl (by kernel_rfl) aq ?_;simp only [TD]
    iterate 8
     refine ⟨fun w1 hG hd=>?_,fun v=>?_⟩
     ·have c1:=(Zw hG (p:=r) hr).trans a0
      try (have d:=hd _ ⟨ZM _⟩ rfl;simp only [ag,GD] at d;subst d)
      clear hd;go_wp2_with fail
      first
       | exact RG
       | exact CS (by assumption)
       | (refine (HIT.out w1 hG).mono ?_;rintro e w2 ⟨rfl,hB2⟩;go_wp2;exact ⟨rfl,hB2⟩)
     simp only [TN]
    intro wG hG hd;have d3:=hd 3 (by omega);have d7:=hd 7 (by omega);simp only [ag,GD] at d3 d7;subst d3 d7;have HX:=aa (HEA.out wG hG);clear hd HEA HIT hG a0 hr;go_wp2_with fail
    refine HX.out.mono ?_;rintro e wH ⟨rfl,gH⟩;have hZ:=HZ.out _ gH;go_wp2_with fail
    go_end0;exact hZ
def zx (B r c:Nat) (s:ByteArray) (q:Nat) (ti:ByteArray) (vp vm vs:Value) (starts:List Nat):As:=ah (ah (aS B r [.pointer (some ⟨c,0,none⟩),.string ti,vp,vm,vs]) (aW B 3 1 vs starts.length (eg starts))) (aZ B c s q)
theorem zx.thing (B r c:Nat) (s:ByteArray) (q:Nat) (ti:ByteArray) (vp vm vs:Value) (starts:List Nat):aJ B (zx B r c s q ti vp vm vs starts):=ah.thing (ah.thing (aS.thing _ _ _) (aW.thing _ _ _ _ _ _)) (aS.thing _ _ _)
theorem dq.named {B r c p:Nat} {s ti:ByteArray} {vp vm:Value} {starts:List Nat} {w:World} {S:Bl} (h:dq B r c s p ti vp vm starts w S):∃ vs,zx B r c s p ti vp vm vs starts w S:=by
 obtain ⟨S1,S2,⟨vs,h1⟩,h2,off,e⟩:=h;exact ⟨vs,S1,S2,h1,h2,off,e⟩
theorem zx.plain {B r c p:Nat} {s ti:ByteArray} {vp vm vs:Value} {starts:List Nat} {w:World} {S:Bl} (h:zx B r c s p ti vp vm vs starts w S):dq B r c s p ti vp vm starts w S:=by
 obtain ⟨S1,S2,h1,h2,off,e⟩:=h;exact ⟨S1,S2,⟨vs,h1⟩,h2,off,e⟩
theorem yp (l:List Nat) (i:Nat) (hi:i < l.length):bR l=bR (l.take i)++(ux l[i]++bR (l.drop (i+1))):=by
 have e:l=l.take i++(l[i]::l.drop (i+1)):=by rw [<-YZ hi,YI]
 have happ:∀ (a b:List Nat),bR (a++b)=bR a++bR b:=by
  intro a b;induction a with
  | nil=>rfl
  | cons x r ih=>simp only [Zy,bR,ih,ZQ]
 have h2:=happ (l.take i) (l[i]::l.drop (i+1));rw [<-e] at h2;rw [h2,bR]
theorem xy (n:Nat) (hn:n < 10000000000):(gr n).length=10:=by
 have e:lM 10 n=gr n:=by
  rw [q9 9 n (by simpa using hn),gr,Lib.itoa_nonneg]
 rw [<-e];rfl
theorem zx.eat {B r c p:Nat} {s ti:ByteArray} {vp vm vs:Value} {starts:List Nat} {w:World} {S:Bl} (h:zx B r c s p ti vp vm vs starts w S) (hs:s.size<=2000000000) (t:List UInt8) (hg:au s p t):
  CP 114 #[zp c,.string ⟨t.toArray⟩] w fun e w'=>e=.returned (.tuple #[])/\∃ S',zx B r c s (p+t.length) ti vp vm vs starts w' S'/\Mv S w S' w':=by
 obtain ⟨S8,hC8,_,k8⟩:=ah.snd (ah.thing (aS.thing B r _) (aW.thing B _ _ _ _ _)) h;refine (bX w B c p s ⟨t.toArray⟩ S8 hC8 hs (by simpa using hg)).mono ?_;rintro e w9 ⟨rfl,h9,m9⟩;obtain ⟨S9,hs9,hm9⟩:=k8 _ _ _ h9 m9;rw [ae] at hs9;exact ⟨rfl,S9,hs9,hm9⟩
theorem wq (w:World) (B r c p root info:Nat) (s ti:ByteArray) (vp vm:Value) (starts:List Nat) (S:Bl) (h:dq B r c s p ti vp vm starts w S) (hB:B<=w.heap.size) (ht:bU B w) (hs:s.size<=2000000000) (hl:starts.length<=1000) (hl0:0 < starts.length) (hst:∀ x∈starts,x < 4000000000) (hr0:0 < root) (hr1:root<=1000000) (hi1:info<=1000000)
  (hg:au s p (iE starts root info p)):
  CP 75 #[zp r,(root:Int),(info:Int)] w fun e w'=>e=.returned (.tuple #[])/\∃ S',dq B r c s (p+(iE starts root info p).length) ti vp vm starts w' S'/\Mv S w S' w':=by
 have hle:=hg.le;have hT:=dq.thing B r c s p ti vp vm starts;have hbel:∀ {S' w'},Mv S w S' w'->Below B w w':=fun m=>m.below (fun k e=>hT.ge h e) hB
 obtain ⟨vs,hS⟩:=h.named;obtain ⟨Sx,hX,_,_⟩:=hS.fst (aS.thing B c _);obtain ⟨Sy,hY,_,_⟩:=hX.snd (aS.thing B r _);obtain ⟨g,cap,hv,hcap,hcap2⟩:∃ g cap,vs=.slice (zp g) starts.length cap/\starts.length<=cap/\cap<=9223372036854775807:=by
  rcases hY.2.2 with ⟨_,hz⟩ | ⟨g,cap,cur,hv,_,_,h1,h2,_⟩
  ·omega
  ·exact ⟨g,cap,hv,h1,by unfold maxLen at h2;omega⟩
 subst hv;clear hX hY
 let G:Nat->World->Prop:=fun q w'=>∃ S',zx B r c s q ti vp vm (.slice g starts.length cap) starts w' S'/\Mv S w S' w'
 have tb:∀ {q w1},G q w1->∀ w2,Below w1 w1 w2->bU B w2:=by
  rintro q w1 ⟨S1,h1,m1⟩ w2 hg2;exact (ht.on (hbel m1)).on (hg2.mono (ZN hB m1.size))
 obtain ⟨L,hL⟩:∃ L,L=starts.length:=⟨_,rfl⟩;obtain ⟨si,hsi⟩:∃ si,si=Lib.itoa ((L:Int)+1):=⟨_,rfl⟩;obtain ⟨ip,hip⟩:∃ ip,ip=Lib.itoa (p:Int):=⟨_,rfl⟩;obtain ⟨nr,hnr⟩:∃ nr,nr=aD (root:Int):=⟨_,rfl⟩;obtain ⟨ni,hni⟩:∃ ni,ni=aD (info:Int):=⟨_,rfl⟩;have nl:∀ n:Nat,n<=1000000->(aD (n:Int)).length<=30:=by
  intro n hn;have:=av (n:Int) (by omega) (by omega);rw [aD,ZZ];simp only [ZY,ZW];omega
 obtain ⟨tA,htA⟩:∃ t,t=[120,114,101,102,10,48,32]++si++[10,48,48,48,48,48,48,48,48,48,48,32,54,53,53,51,53,32,102,32,10]:=⟨_,rfl⟩;obtain ⟨tB,htB⟩:∃ t,t=[116,114,97,105,108,101,114,10,60,60,32,47,83,105,122,101,32]++si++[32,47,82,111,111,116,32]++nr++[32]:=⟨_,rfl⟩;obtain ⟨tC,htC⟩:∃ t,t=if info=0 then [] else [47,73,110,102,111,32]++ni++[32]:=⟨_,rfl⟩
 obtain ⟨tD,htD⟩:∃ t,t=[62,62,10,115,116,97,114,116,120,114,101,102,10]++ip++[10,37,37,69,79,70,10]:=⟨_,rfl⟩;have etl:iE starts root info p=tA++(bR starts++(tB++(tC++tD))):=by
  rw [htA,htB,htC,htD,hsi,hip,hnr,hni,hL];unfold iE fu iL bt;rw [ZU (show ¬ (root:Int)=0 by omega)];by_cases hz:info=0
  ·rw [ZO (show (info:Int)=0 by omega),ZO hz];simp
  ·rw [ZU (show ¬ (info:Int)=0 by omega),ZU hz];simp
 rw [etl] at hg hle ⊢;have gA:=hg.left;have gR:=hg.right.left;have gB:=hg.right.right.left;have gC:=hg.right.right.right.left;have gD:=hg.right.right.right.right;have hRl:bR (starts.take L)=bR starts:=by rw [ZF (by omega)]
 refine tO w B r c p L g cap root info (fun i=>starts.getD i 0) s G _ si nr ni ip (by rw [hsi];have:=av ((L:Int)+1) (by omega) (by omega);omega) (by rw [hnr];exact nl _ hr1) (by rw [hni];exact nl _ hi1) (by rw [hip];have:=av (p:Int) (by omega) (by omega);omega) (by omega) (by omega) hcap2 ?_ (by omega) ⟨S,hS,Mv.refl _ _⟩ ?_ ?_ ?_ ?_ ?_ ?_ (p+tA.length) (p+tA.length+(bR starts).length) (p+tA.length+(bR starts).length+tB.length) ⟨by rw [<-htA];exact gA,by rw [<-htA]⟩ (fun i=>p+tA.length+(bR (starts.take i)).length) (by simp [bR]) (by rw [hRl]) ?_ ⟨by rw [<-htB];exact gB,by rw [<-htB]⟩ (p+tA.length+(bR starts).length+tB.length+tC.length) ?_ (p+tA.length+(bR starts).length+tB.length+tC.length+tD.length) ⟨by rw [<-htD];exact gD,by rw [<-htD]⟩ ?_
 ·intro i hi;have hi':i < starts.length:=by omega
  have:starts.getD i 0=starts[i]:=by simp [hi']
  rw [this];exact hst _ (YK hi')
 ·rintro q w1 ⟨S1,h1,m1⟩;obtain ⟨S2,hX,_,_⟩:=h1.fst (aS.thing B c _);obtain ⟨S3,hC,_,_⟩:=h1.snd (ah.thing (aS.thing B r _) (aW.thing B _ _ _ _ _));obtain ⟨S4,hR,_,_⟩:=hX.fst (aW.thing B _ _ _ _ _);obtain ⟨S5,hW,_,_⟩:=hX.snd (aS.thing B r _);refine ⟨hR.at 0 _ rfl,hR.2.2.1,hC.at 1 _ rfl,by rw [hL];exact hR.at 4 _ rfl,(hW.2.lt g rfl).2,?_⟩;intro i hi;rw [hW.2.cellAt i (by omega)];have hi':i < starts.length:=by omega
  simp [eg,hi']
 ·rintro q w1 t ⟨S1,h1,m1⟩ w2 hg2 gt;have h2:=(zx.thing B r c s q ti vp vm _ starts).grow h1 hg2;refine (h2.eat hs t gt).mono ?_;rintro e w3 ⟨rfl,S',h',m'⟩;exact ⟨rfl,S',h',(m1.trans (Mv.grow hg2 _)).trans m'⟩
 ·intro q w1 gg w2 hg2;rw [hsi];exact bp B w2 _ (by omega) (by omega) (tb gg w2 hg2)
 ·intro q w1 gg w2 hg2;rw [hip];exact bp B w2 _ (by omega) (by omega) (tb gg w2 hg2)
 ·intro q w1 gg w2 hg2;rw [hnr];exact cE B w2 _ (by omega) (by omega) (tb gg w2 hg2)
 ·intro q w1 gg w2 hg2;rw [hni];exact cE B w2 _ (by omega) (by omega) (tb gg w2 hg2)
 ·intro i hi;have hi':i < starts.length:=by omega
  have e1:starts.getD i 0=starts[i]:=by simp [hi']
  have e2:=yp starts i hi';have e3:bR (starts.take (i+1))=bR (starts.take i)++ux starts[i]:=by
   rw [ZH hi',mP]
  have gi:=gR;rw [e2] at gi;have gi2:=gi.right.left;have e4:ux starts[i]=gr (starts.getD i 0)++[32,48,48,48,48,48,32,110,32,10]:=by rw [e1];rfl
  rw [e4] at gi2;refine ⟨gi2,?_,?_⟩
  ·rw [e3, <-e4,ZZ];omega
  ·rw [e1,xy _ (by have:=hst _ (YK hi');omega)];omega
 ·by_cases hz:info=0
  ·refine .inl ⟨hz,?_⟩;rw [htC,ZO hz];simp
  ·refine .inr ⟨by omega,?_,?_⟩
   ·rw [htC,ZU hz] at gC;exact gC
   ·rw [htC,ZU hz]
 ·rintro w1 ⟨S1,h1,m1⟩;refine ⟨rfl,S1,?_,m1⟩;have e5:p+(tA++(bR starts++(tB++(tC++tD)))).length=p+tA.length+(bR starts).length+tB.length+tC.length+tD.length:=by
   simp only [ZZ];omega
  rw [e5];exact h1.plain
end Go.Proofs.YtbklfkpjoinofaaGreatDoor
