import Derived.Test.YtbklfkpjoinofaaGreatDoorA06
import Derived.Test.YtbklfkpjoinofaaGreatDoorA07
set_option linter.all false
set_option maxRecDepth 100000
set_option maxHeartbeats 8000000
namespace Go.Proofs.YtbklfkpjoinofaaGreatDoor
open Go.RowKit Go.Proofs.Tryz
def o0 (l:List Nat):List Value:=l.map fun n=>Value.int .i64 (n:Nat)
def rN:List (Int×Int)->List Value
 | []=>[]
 | p::r=>.int .i64 p.1::.int .i64 p.2::rN r
theorem yD (l:List (Int×Int)) (p:Int×Int):rN (l++[p])=rN l++[.int .i64 p.1,.int .i64 p.2]:=by
 induction l with
 | nil=>rfl
 | cons a r ih=>simp only [ZE,rN,ih]
theorem Tryz.infoI:(Tryz.prog.info? 3).map (fun i=>(i.zero,i.size,i.bytes))=some (some (.int .i64 0),1,8):=by kernel_rfl
theorem Tryz.infoSz:(Tryz.prog.info? 224).map (fun i=>(i.zero,i.size,i.bytes))=some (some (.agg #[oz,oz]),2,16):=by kernel_rfl
def FB (B Fb C:Nat) (begins:List Nat) (sizes:List (Int×Int)):As:=fun w S=>∃ vb vz,ah (aS B Fb [.pointer (some ⟨C,0,none⟩),vb,vz]) (ah (aW B 3 1 vb begins.length (o0 begins)) (aW B 224 2 vz sizes.length (rN sizes))) w S
theorem FB.thing (B Fb C:Nat) (begins:List Nat) (sizes:List (Int×Int)):aJ B (FB B Fb C begins sizes) where
 keep:=by
  rintro w w' S ⟨vb,vz,h⟩ hk hz;exact ⟨vb,vz,(ah.thing (aS.thing _ _ _) (ah.thing (aW.thing _ _ _ _ _ _) (aW.thing _ _ _ _ _ _))).keep h hk hz⟩
 lt:=by
  rintro w S k ⟨vb,vz,h⟩ hk;exact (ah.thing (aS.thing B _ _) (ah.thing (aW.thing _ _ _ _ _ _) (aW.thing _ _ _ _ _ _))).lt h hk
 ge:=by
  rintro w S k ⟨vb,vz,h⟩ hk;exact (ah.thing (aS.thing B _ _) (ah.thing (aW.thing _ _ _ _ _ _) (aW.thing _ _ _ _ _ _))).ge h hk
theorem FB.read {B Fb C:Nat} {begins:List Nat} {sizes:List (Int×Int)} {w:World} {S:Bl} (h:FB B Fb C begins sizes w S):∃ a1 k1 a2 k2,w.cell? Fb=zp C/\w.cell? (zq Fb 1)=some (.slice a1 begins.length k1)/\w.cell? (zq Fb 2)=some (.slice a2 sizes.length k2)/\(∀ o,w.frozen? (zq Fb o)=false):=by
 obtain ⟨vb,vz,S1,S2,h1,⟨S3,S4,h3,h4,_⟩,_⟩:=h;obtain ⟨a1,k1,rfl⟩:=h3.form;obtain ⟨a2,k2,rfl⟩:=h4.form;exact ⟨a1,k1,a2,k2,h1.at 0 _ rfl,h1.at 1 _ rfl,h1.at 2 _ rfl,h1.fz⟩
theorem FB.begin {B Fb C:Nat} {begins:List Nat} {sizes:List (Int×Int)} {w:World} {S:Bl} (h:FB B Fb C begins sizes w S) (n:Nat):∃ vb,w.cell? (zq Fb 1)=some vb/\w.ownsRow B 3 1 vb begins.length (o0 begins)/\vb.ownBlock≠some Fb/\
  ∀ (w1:World),Below w w w1->∀ v' w',w1.grownBy w' vb.ownBlock->w'.ownsRow B 3 1 v' (begins.length+1) (o0 begins++[.int .i64 n])->(v'.ownBlock=vb.ownBlock\/v'.ownBlock=some w1.heap.size)->
   ∃ S',FB B Fb C (begins++[n]) sizes (w'.setCell (zq Fb 1) v') S'/\Mv S w S' (w'.setCell (zq Fb 1) v'):=by
 obtain ⟨vb,vz,h⟩:=h;obtain ⟨S1,S2,hc,⟨S3,S4,hb,hz,o2,rfl⟩,o1,rfl⟩:=id h;have e1:S1=cC Fb:=hc.1;have e3:S3=ob vb:=hb.1;refine ⟨vb,hc.at 1 _ rfl,hb.2,fun e=>o1 Fb (by rw [e1];rfl) (.inl (by rw [e3];exact e)),?_⟩;intro w1 hg1 v' w' hg ho hat;have hT:=ah.thing (aS.thing B Fb [.pointer (some ⟨C,0,none⟩),vb,vz]) (ah.thing (aW.thing B 3 1 vb begins.length (o0 begins)) (aW.thing B 224 2 vz sizes.length (rN sizes)));have h1:=hT.grow h hg1;obtain ⟨Sb,hb1,_,k1⟩:=ah.mid (aS.thing B Fb _) (aW.thing B 224 2 vz sizes.length (rN sizes)) h1;obtain ⟨hr,hm⟩:=aW.moved (n':=begins.length+1) hg ho hat;have eb:Sb=ob vb:=hb1.1;subst eb;obtain ⟨S',hs',hm'⟩:=k1 (aW B 3 1 v' (begins.length+1) (o0 begins++[.int .i64 n])) w' _ hr hm;obtain ⟨Sc,hc1,_,k2⟩:=hs'.fst (ah.thing (aW.thing B _ _ _ _ _) (aW.thing B _ _ _ _ _));obtain ⟨hc2,hm2⟩:=hc1.set 1 v' (by simp);obtain ⟨S'',hs'',hm''⟩:=k2 _ _ _ hc2 hm2;refine ⟨S'',⟨v',vz,?_⟩,((Mv.grow hg1 _).trans hm').trans hm''⟩;have e:o0 (begins++[n])=o0 begins++[.int .i64 n]:=by simp [o0]
 rw [e,ZY];exact hs''
def aX (K:World->Bl->List UInt8->Prop) (B Fb C:Nat) (ty:TypeId) (q:Value) (begins:List Nat) (sizes:List (Int×Int)) (X:List UInt8):As:=ah (FB B Fb C begins sizes) (fun w S=>CK K B C 0 ty q w S X)
theorem aX.thing {K:World->Bl->List UInt8->Prop} {B:Nat} (hT:∀ X,aJ B (fun w S=>K w S X)) (Fb C:Nat) (ty:TypeId) (q:Value) (begins:List Nat) (sizes:List (Int×Int)) (X:List UInt8):aJ B (aX K B Fb C ty q begins sizes X):=
 ah.thing (FB.thing _ _ _ _ _) (CK.thing hT _ _ _ _ _)
def aL (n:Nat):List UInt8:=Lib.itoa (n:Int)++[32,48,32,111,98,106,10]
def ag (l:List Value) (k:Nat) (v:Value) (_:World):Prop:=v=l.getD k undef
theorem aq {l:List Value} {n:Nat} (k:Nat) (v:Value) (w w':World) (_:k < n) (h:ag l k v w) (_:af w w'):ag l k v w':=h
theorem ae (l:List UInt8):(⟨l.toArray⟩:ByteArray).size=l.length:=by simp [ByteArray.size]
section
variable {K D:World->Bl->List UInt8->Prop} {ok:List UInt8->Prop} {B M:Nat} {ty:TypeId} {q q':Value} {f:FuncId} {et:TypeId} {ev:Value}
theorem dD (w:World) (Fb n cap:Nat) (ad:Option Addr) (c1:w.cell? (zq Fb 1)=some (.slice ad n cap)) (hn:n<=1000000000):QE 138 #[zp Fb] w ((n+1:Nat):Int):=by
 go_enter func138,ntmps138
 go_wp2;go_ret;exact ⟨rfl,rfl⟩
theorem below_drewN {B:Nat} {w w':World} {n:Nat} (h:Below B (w.drewN n) w'):Below B w w':=⟨h.os,h.tape,h.output,h.size,h.block⟩
theorem kS (w:World) (Fb C n:Nat) (begins:List Nat) (vb:Value) (Z:Ending->World->Prop) (hB:B<=w.heap.size)
  (c0:w.cell? Fb=zp C) (c1:w.cell? (zq Fb 1)=some vb) (fz:∀ o,w.frozen? (zq Fb o)=false) (hFb:Fb < w.heap.size) (hc:w.cell? (zq C 1)=n) (hn:n<=4000000000) (hl:begins.length<=1000000) (ow:w.ownsRow B 3 1 vb begins.length (o0 begins)) (ne:vb.ownBlock≠some Fb)
  (HW:Hid (∀ (w1:World),Below w w w1->∀ v' w',w1.grownBy w' vb.ownBlock->w'.ownsRow B 3 1 v' (begins.length+1) (o0 begins++[.int .i64 n])->(v'.ownBlock=vb.ownBlock\/v'.ownBlock=some w1.heap.size)->
   bU B (w'.setCell (zq Fb 1) v')/\∀ w8,Below (w'.setCell (zq Fb 1) v').heap.size (w'.setCell (zq Fb 1) v') w8->CP 128 #[zp C,.string ⟨(aL (begins.length+1)).toArray⟩] w8 fun e w'=>∃ v,e=.returned v/\Z (.returned v) w')):
  CP 182 #[zp Fb] w Z:=by
 obtain ⟨ad,cap,hform⟩:∃ ad cap,vb=.slice ad begins.length cap:=by
  rcases ow.2 with ⟨hu,hz⟩ | ⟨gg,cap,cur,hu,_⟩
  ·exact ⟨none,0,by rw [hu,hz]⟩
  ·exact ⟨_,_,hu⟩
 subst hform;have f1:=fz 1;have HQ:=ai (q7 w C n hc);have HN:=ai (dD w Fb begins.length cap ad c1 (by omega));obtain ⟨L,hL⟩:∃ L,begins.length=L:=⟨_,rfl⟩;rw [hL] at c1 HN hl ow HW ne;clear hL;go_enter func182,ntmps182
 go_wp2_with fail
 refine HN.out.mono ?_;rintro e w0 ⟨rfl,rfl⟩;go_wp2;go_region_law (first
  | (rw [ZN (by simp [Region.wanted])];go_wp2_with fail;go_at_call 127;refine (eE _ C n (by simpa using hc)).mono ?_;rintro e w9 ⟨rfl,rfl⟩;dsimp only)
  | (refine ES rfl (.tmp 10) (.tmp 16) 112 rfl 3 (0:Int) 1 8 Tryz.infoI rfl (by omega) underlying112 B _ L (o0 begins) (by simp [Act.eval,Act.put]) (ow.drew.alloc _) (by simp;omega) ⟨w0,0,none⟩ 1 (by simp [Act.eval,Act.put]) [.int .i64 n] rfl (qk _ _ _) (by intro u hu;simp at hu;subst hu;rfl) (by omega) (by omega) ?_;intro v7 w7 hO7 hg7 hat7;have hform7:∃ ad L cap,v7=.slice ad L cap:=(by rcases hO7.2 with ⟨hu,_⟩ | ⟨gg,cap,cur,hu,_⟩;exact ⟨_,_,_,hu⟩;exact ⟨_,_,_,hu⟩);obtain ⟨ad7,L7,cap7,hv7⟩:=hform7;rw [hv7] at hO7 hat7 ⊢;clear hv7;have kb:=(hg7.block Fb (by simp;omega) (fun e=>ne e.symm)).trans (Zf w0 _ Fb hFb);have k1:=(ZQ (a:=zq Fb 1) kb).trans c1;have kf1:=(ZH (a:=zq Fb 1) kb).trans f1;have k0:=(ZQ (a:=Fb) kb).trans c0))
 all_goals
  have HX:=ai (HW.out (w0.alloc (.cells #[n] 3)).drew (((ZT _ w0).alloc (ZW _) _).drew) _ w7 hg7 hO7 hat7);have k08:(w7.setCell (zq Fb 1) (.slice ad7 L7 cap7)).cell? Fb=zp C:=by rw [ZV _ _ _ _ (by simp)];exact k0
  have hF8:Fb < (w7.setCell (zq Fb 1) (.slice ad7 L7 cap7)).heap.size:=by have:=hg7.size;simp at this;simp [World.setCell];omega
  have hB8:B<=(w7.setCell (zq Fb 1) (.slice ad7 L7 cap7)).heap.size:=by have:=hg7.size;simp at this;simp [World.setCell];omega
  clear HW HQ HN hO7 hg7 hat7 ow c1 f1 fz hc kf1 k1 kb c0 k0;go_wp2;generalize w7.setCell (zq Fb 1) (.slice ad7 L7 cap7)=w8 at HX k08 hF8 hB8 ⊢;obtain ⟨ht8,HWr⟩:=HX.out;have HWr:=ai HWr;clear HX;have HI:=ai (fun (w1:World) (hG:af w8 w1)=>bp B w1 ((L+1:Nat):Int) (by omega) (by omega) (ht8.on (YY hG hB8)));have hz2:=ar ((L+1:Nat):Int) (by omega) (by omega);have HS:Hid (aL (L+1)=Lib.itoa ((L+1:Nat):Int)++[32,48,32,111,98,106,10]):=rfl;obtain ⟨si,hsi⟩:∃ si,Lib.itoa ((L+1:Nat):Int)=si:=⟨_,rfl⟩;rw [hsi] at HI hz2 HS;clear hsi;have hz:=ae si;have HA:=ai (an si [32,48,32,111,98,106,10]);refine ap 7 28 (ag [zp Fb,zp Fb,zp Fb,zp C,((L+1:Nat):Int),.string ⟨si.toArray⟩,.string ⟨(aL (L+1)).toArray⟩]) (by kernel_rfl) rfl (by kernel_rfl) aq ?_;simp only [TD];refine ⟨fun w1 hG hd=>?_,fun v0=>?_⟩
  ·go_wp2;exact RG
  refine ⟨fun w1 hG hd=>?_,fun v1=>?_⟩
  ·simp [ag,Region.binds] at hd;subst hd;go_wp2;exact RG
  refine ⟨fun w1 hG hd=>?_,fun v2=>?_⟩
  ·simp [ag,Region.binds] at hd;subst hd;go_wp2;exact RG
  refine ⟨fun w1 hG hd=>?_,fun v3=>?_⟩
  ·have c:=(Zc hG (p:=Fb) hF8).trans k08;simp [ag,Region.binds] at hd;subst hd;go_wp2;exact RG
  refine ⟨fun w1 hG hd=>?_,fun v4=>?_⟩
  ·go_wp2;exact RG
  refine ⟨fun w1 hG hd=>?_,fun v5=>?_⟩
  ·have HX:=ai (HI.out w1 hG);simp [ag,Region.binds] at hd;subst hd;go_wp2_with fail
   refine HX.out.mono ?_;rintro e w2 ⟨rfl,hB2⟩;go_wp2;exact ⟨rfl,hB2⟩
  refine ⟨fun w1 hG hd=>?_,fun v6=>?_⟩
  ·simp [ag,Region.binds] at hd;subst hd;go_wp2;exact ⟨by unfold ag;rw [HS.out];exact congrArg Value.string HA.out,af.refl _⟩
  intro w1 hG hd;have d3:=hd 3 (by omega);have d6:=hd 6 (by omega);simp [ag] at d3 d6;subst d3 d6;have HX:=ai (HWr.out w1 hG);clear hd HI HA HWr hz hz2 k08 hG;go_wp2_with fail
  refine HX.out.mono ?_;rintro e w2 ⟨v,rfl,hZ⟩;go_wp2
  first
   | exact hZ
   | (go_ret;exact hZ)
theorem iw (d:fT B K D ok M ty q q' f et ev) (hM:M<=2000000000) (w:World) (S:Bl) (Fb C:Nat) (begins:List Nat) (sizes:List (Int×Int)) (X:List UInt8) (h:aX K B Fb C ty q begins sizes X w S) (hB:B<=w.heap.size) (ht:bU B w) (hl:begins.length<=1000000) (hX:X.length+100<=M):
  CP 182 #[zp Fb] w (aU D ok et ev S w X (aL (begins.length+1)) (fun w' S'=>aX K B Fb C ty q (begins++[X.length]) sizes (X++aL (begins.length+1)) w' S')):=by
 have hTF:=aX.thing d.thing Fb C ty q begins sizes X;have hbel:∀ {S' w'},Mv S w S' w'->Below B w w':=fun m=>m.below (fun k e=>hTF.ge h e) hB
 obtain ⟨S1,hF,_,kF⟩:=h.fst (CK.thing d.thing C 0 ty q X);obtain ⟨S2,hC,_,_⟩:=h.snd (FB.thing B Fb C begins sizes);have hcnt:=hC.count;obtain ⟨a1,k1,a2,k2,c0,c1,c2,fz⟩:=hF.read;obtain ⟨vb,cb,ow,ne,kb⟩:=hF.begin X.length;have hFb:Fb < w.heap.size:=ZD w _ c0;rw [Nat.sub_zero] at hcnt;refine kS w Fb C X.length begins vb _ hB c0 cb fz hFb hcnt (by omega) hl ow ne ?_;intro w1 hg1 v' w' hg ho hat;obtain ⟨S1',hF',hm'⟩:=kb w1 hg1 v' w' hg ho hat;obtain ⟨S',hs',hm⟩:=kF _ _ _ hF' hm';have hB8:B<=(w'.setCell (zq Fb 1) v').heap.size:=ZU hB hm.size;refine ⟨ht.on (hbel hm),?_⟩;intro w8 hg8;have hs8:=(ah.thing (FB.thing B Fb C (begins++[X.length]) sizes) (CK.thing d.thing C 0 ty q X)).grow hs' hg8;obtain ⟨S8,hC8,hs88,k8⟩:=hs8.snd (FB.thing B Fb C (begins++[X.length]) sizes);have hw:=(d.count hM C 0).write w8 S8 X ⟨(aL (begins.length+1)).toArray⟩ hC8 (by
  have:=ar ((begins.length+1:Nat):Int) (by omega) (by omega);rw [ae,aL,ZY];simp only [ZX,ZR];omega)
 refine hw.mono ?_;intro e w9 hS;obtain ⟨v,rfl⟩:=hS.val;exact ⟨v,rfl,aU.pre (hm.trans (Mv.grow hg8 S')) (aU.lift hs88 (fun S9 c m9=>k8 _ w9 S9 c m9) hS)⟩
end
def eh:List UInt8:=[10,101,110,100,111,98,106,10]
def bi:List UInt8:=[37,80,68,70,45,49,46,55,10]
def aK (n:Nat) (body:List UInt8):List UInt8:=aL n++(body++eh)
section
variable {K D:World->Bl->List UInt8->Prop} {ok:List UInt8->Prop} {B M:Nat} {ty:TypeId} {q q':Value} {f:FuncId} {et:TypeId} {ev:Value}
theorem aU.seq {S S1:Bl} {w w1 w2:World} {X o1 o2:List UInt8} {G:As} {e:Ending} (m1:Mv S w S1 w1) (h:aU D ok et ev S1 w1 (X++o1) o2 G e w2):aU D ok et ev S w X (o1++o2) G e w2:=by
 rcases h with ⟨a,b,S9,c,m⟩ | ⟨a,b,S9,Y,c,d1,d2,m⟩
 ·exact .inl ⟨by rw [<-ZS];exact a,b,S9,c,m1.trans m⟩
 ·exact .inr ⟨by rw [<-ZS];exact a,b,S9,Y,c,(YP _ _).trans d1,by rw [<-ZS];exact d2,m1.trans m⟩
theorem aU.fail1 (okp:∀ X Y,ok (X++Y)->ok X) {S S':Bl} {w w':World} {X o1 o2 Y:List UInt8} {G:As} (hn:¬ ok (X++o1)) (hD:D w' S' Y) (h1:X <+:Y) (h2:Y <+:X++o1) (hm:Mv S w S' w'):aU D ok et ev S w X (o1++o2) G (.returned (.iface et ev)) w':=
 aU.fail okp (Mv.refl S w) (List.prefix_refl X) (by rw [<-ZS];exact YP _ _) hn hD h1 h2 hm
theorem aX.write (d:fT B K D ok M ty q q' f et ev) (hM:M<=2000000000) {w:World} {S:Bl} {Fb C:Nat} {begins:List Nat} {sizes:List (Int×Int)} {X:List UInt8} (h:aX K B Fb C ty q begins sizes X w S) (s:ByteArray) (hs:X.length+s.size<=M):
  CP 128 #[zp C,s] w (aU D ok et ev S w X s.data.toList (aX K B Fb C ty q begins sizes (X++s.data.toList))):=by
 obtain ⟨S8,hC8,hs88,k8⟩:=h.snd (FB.thing B Fb C begins sizes);refine ((d.count hM C 0).write w S8 X s hC8 hs).mono ?_;intro e w9 hS;exact aU.lift hs88 (fun S9 c m9=>k8 _ w9 S9 c m9) hS
theorem aX.facts {w:World} {S:Bl} {Fb C:Nat} {begins:List Nat} {sizes:List (Int×Int)} {X:List UInt8} (h:aX K B Fb C ty q begins sizes X w S):∃ a1 k1 a2 k2,w.cell? Fb=zp C/\w.cell? (zq Fb 1)=some (.slice a1 begins.length k1)/\w.cell? (zq Fb 2)=some (.slice a2 sizes.length k2)/\(∀ o,w.frozen? (zq Fb o)=false)/\w.cell? (zq C 1)=(X.length:Int)/\Fb < w.heap.size/\C < w.heap.size:=by
 obtain ⟨S1,S2,hF,hC,_⟩:=h;obtain ⟨a1,k1,a2,k2,c0,c1,c2,fz⟩:=hF.read;have hc:=hC.count;rw [Nat.sub_zero] at hc;exact ⟨a1,k1,a2,k2,c0,c1,c2,fz,hc,ZD w _ c0,ZD w _ hc⟩
theorem aX.bel (d:fT B K D ok M ty q q' f et ev) {w w':World} {S S':Bl} {Fb C:Nat} {begins:List Nat} {sizes:List (Int×Int)} {X:List UInt8} (h:aX K B Fb C ty q begins sizes X w S) (hB:B<=w.heap.size) (m:Mv S w S' w'):Below B w w':=m.below (fun _ e=>(aX.thing d.thing Fb C ty q begins sizes X).ge h e) hB
theorem mD (d:fT B K D ok M ty q q' f et ev) (hM:M<=2000000000) (w:World) (S:Bl) (Fb C:Nat) (begins:List Nat) (sizes:List (Int×Int)) (X:List UInt8) (body:ByteArray) (h:aX K B Fb C ty q begins sizes X w S) (hB:B<=w.heap.size) (ht:bU B w) (hl:begins.length<=1000000) (hX:X.length+body.size+200<=M):
  CP 139 #[zp Fb,body] w (aU D ok et ev S w X (aK (begins.length+1) body.data.toList) (aX K B Fb C ty q (begins++[X.length]) sizes (X++aK (begins.length+1) body.data.toList))):=by
 have hobl:(aL (begins.length+1)).length<=28:=by
  have:=ar ((begins.length+1:Nat):Int) (by omega) (by omega);unfold aL;rw [ZY];simp only [ZX,ZR];omega
 unfold aK;obtain ⟨ob1,hob⟩:∃ o,o=aL (begins.length+1):=⟨_,rfl⟩;have HBO:=ai (iw d hM w S Fb C begins sizes X h hB ht hl (by omega));rw [<-hob] at HBO hobl ⊢;obtain ⟨bg,hbg⟩:∃ bg,bg=begins++[X.length]:=⟨_,rfl⟩;rw [<-hbg] at HBO ⊢;clear hob hbg;have hbs:body.size<=2000000000:=by omega
 have HE:Hid ((body++⟨#[10,101,110,100,111,98,106,10]⟩:ByteArray).data.toList=body.data.toList++eh):=by show _=_;rw [ByteArray.data_append];simp [eh]
 have hes:(body++⟨#[10,101,110,100,111,98,106,10]⟩:ByteArray).size=body.size+8:=by rw [ByteArray.size_append];rfl
 go_enter func139,ntmps139
 go_wp2_with fail
 refine HBO.out.mono ?_;rintro e w1 (⟨hok,rfl,S1,h1,m1⟩ | ⟨hok,rfl,S1,Y,hD,p1,p2,m1⟩)
 ·have HW:=ai (aX.write d hM h1 (body++⟨#[10,101,110,100,111,98,106,10]⟩) (by rw [ZY,hes];omega));obtain ⟨a1,k1,a2,k2,c0,c1,c2,fz,hc,hFb,hCb⟩:=h1.facts;clear h1 c1 c2 fz hc;go_wp2_with fail
  refine HW.out.mono ?_;intro e w2 hS;obtain ⟨v,rfl⟩:=hS.val;rw [HE.out] at hS;have HS:=ai (aU.seq m1 hS);clear hS HW;go_wp2
  first
   | (rw [<-ZS X];exact HS.out)
   | (go_ret;rw [<-ZS X];exact HS.out)
 ·go_wp2;go_ret;exact aU.fail1 d.okp hok hD p1 p2 m1
def eW (X:List UInt8):List UInt8:=if X=[] then bi else []
theorem jj (d:fT B K D ok M ty q q' f et ev) (hM:M<=2000000000) (w:World) (S:Bl) (Fb C:Nat) (begins:List Nat) (sizes:List (Int×Int)) (X:List UInt8) (h:aX K B Fb C ty q begins sizes X w S) (hX:X.length+200<=M):
  CP 85 #[zp Fb] w (aU D ok et ev S w X (eW X) (aX K B Fb C ty q begins sizes (X++eW X))):=by
 obtain ⟨a1,k1,a2,k2,c0,c1,c2,fz,hc,hFb,hCb⟩:=h.facts;have HQ:=ai (eE w C (X.length:Int) hc);by_cases h0:X=[]
 ·have HW:=ai (aX.write d hM h ⟨bi.toArray⟩ (by simp [ByteArray.size,bi];omega));unfold eW;rw [ZN h0];have hlen:(X.length:Int)=0:=by rw [h0];rfl
  rw [hlen] at HQ;unfold bi at HW;go_enter func85,ntmps85
  go_wp2_with fail
  refine HQ.out.mono ?_;rintro e w1 ⟨rfl,rfl⟩;go_wp2_with fail
  refine HW.out.mono ?_;intro e w2 hS;obtain ⟨v,rfl⟩:=hS.val;have HS:=ai hS;clear hS HW;go_wp2
  first
   | exact HS.out
   | (go_ret;exact HS.out)
 ·unfold eW;rw [ZO h0];have hpos:(0:Int) < (X.length:Int):=by have:=Yn.2 h0;omega
  have hok:ok X:=by
   obtain ⟨S1,S2,hF,⟨R,hK,_⟩,_⟩:=h;exact d.kok hK
  go_enter func85,ntmps85
  go_wp2_with fail
  refine HQ.out.mono ?_;rintro e w1 ⟨rfl,rfl⟩;go_wp2;go_ret;exact aU.nil hok (by rw [YZ];exact h) (Mv.refl _ _)
end
def fC:List UInt8:=[10,101,110,100,115,116,114,101,97,109,10,101,110,100,111,98,106,10]
def cX (n:Nat):List UInt8:=[60,60,32,47,70,105,108,116,101,114,32,47,70,108,97,116,101,68,101,99,111,100,101,32,47,76,101,110,103,116,104,32]++aD (n:Int)++[32,62,62,10,115,116,114,101,97,109,10]
theorem gJ (n:Int) (h0:-9223372036854775808<=n) (h1:n<=9223372036854775807):(aD n).length<=25:=by
 have:=ar n h0 h1;unfold aD;rw [ZY];simp only [ZX,ZR];omega
theorem FB.sized {B Fb C:Nat} {begins:List Nat} {sizes:List (Int×Int)} {w:World} {S:Bl} (h:FB B Fb C begins sizes w S) (p:Int×Int):∃ vz,w.cell? (zq Fb 2)=some vz/\w.ownsRow B 224 2 vz sizes.length (rN sizes)/\vz.ownBlock≠some Fb/\
  ∀ (w1:World),Below w w w1->∀ v' w',w1.grownBy w' vz.ownBlock->w'.ownsRow B 224 2 v' (sizes.length+1) (rN sizes++[.int .i64 p.1,.int .i64 p.2])->(v'.ownBlock=vz.ownBlock\/v'.ownBlock=some w1.heap.size)->
   ∃ S',FB B Fb C begins (sizes++[p]) (w'.setCell (zq Fb 2) v') S'/\Mv S w S' (w'.setCell (zq Fb 2) v'):=by
 obtain ⟨vb,vz,h⟩:=h;obtain ⟨S1,S2,hc,⟨S3,S4,hb,hz,o2,rfl⟩,o1,rfl⟩:=id h;have e1:S1=cC Fb:=hc.1;have e4:S4=ob vz:=hz.1;refine ⟨vz,hc.at 2 _ rfl,hz.2,fun e=>o1 Fb (by rw [e1];rfl) (.inr (by rw [e4];exact e)),?_⟩;intro w1 hg1 v' w' hg ho hat;have hT:=ah.thing (aS.thing B Fb [.pointer (some ⟨C,0,none⟩),vb,vz]) (ah.thing (aW.thing B 3 1 vb begins.length (o0 begins)) (aW.thing B 224 2 vz sizes.length (rN sizes)));have h1:=hT.grow h hg1;obtain ⟨Sb,hb1,_,k1⟩:=ah.third (aS.thing B Fb _) (aW.thing B 3 1 vb begins.length (o0 begins)) h1;obtain ⟨hr,hm⟩:=aW.moved (n':=sizes.length+1) hg ho hat;have eb:Sb=ob vz:=hb1.1;subst eb;obtain ⟨S',hs',hm'⟩:=k1 (aW B 224 2 v' (sizes.length+1) (rN sizes++[.int .i64 p.1,.int .i64 p.2])) w' _ hr hm;obtain ⟨Sc,hc1,_,k2⟩:=hs'.fst (ah.thing (aW.thing B _ _ _ _ _) (aW.thing B _ _ _ _ _));obtain ⟨hc2,hm2⟩:=hc1.set 2 v' (by simp);obtain ⟨S'',hs'',hm''⟩:=k2 _ _ _ hc2 hm2;refine ⟨S'',⟨vb,v',?_⟩,((Mv.grow hg1 _).trans hm').trans hm''⟩;rw [yD,ZY];exact hs''
theorem AI (w:World) (x y:Value) (t:TypeId):∀ j u,[x,y][j]? =some u->(w.alloc (.cells #[x,y] t)).cell? ((⟨w,0,none⟩:Addr).add j)=some u:=by
 intro j u hj
 match j,hj with
 | 0,hj=>simp at hj;subst hj;simp [Addr.add]
 | 1,hj=>simp at hj;subst hj;simp [Addr.add]
 | (j+2),hj=>simp at hj
section
variable {K D:World->Bl->List UInt8->Prop} {ok:List UInt8->Prop} {B M:Nat} {ty:TypeId} {q q':Value} {f:FuncId} {et:TypeId} {ev:Value}
theorem mS (d:fT B K D ok M ty q q' f et ev) (hM:M<=2000000000) (w:World) (S:Bl) (Fb C:Nat) (begins:List Nat) (sizes:List (Int×Int)) (X:List UInt8) (n:Nat) (h:aX K B Fb C ty q begins sizes X w S) (hB:B<=w.heap.size) (ht:bU B w) (hl:begins.length<=1000000) (hX:X.length+1000<=M) (hn:n<=2000000000):
  CP 166 #[zp Fb,n] w (aU D ok et ev S w X (fC++aK (begins.length+1) (Lib.itoa (n:Int))) (aX K B Fb C ty q (begins++[X.length+18]) sizes (X++(fC++aK (begins.length+1) (Lib.itoa (n:Int)))))):=by
 obtain ⟨a1,k1,a2,k2,c0,c1,c2,fz,hc,hFb,hCb⟩:=h.facts;have HW:=ai (aX.write d hM h ⟨fC.toArray⟩ (by simp [ByteArray.size,fC];omega));have hbel:=fun {S' w'} (m:Mv S w S' w')=>aX.bel d h hB m
 have hlen:fC.length=18:=rfl;have hi:=ar (n:Int) (by omega) (by omega);have HI:=ai (fun (w1:World) (ht1:bU B w1)=>bp B w1 (n:Int) (by omega) (by omega) ht1);obtain ⟨si,hsi⟩:∃ si,Lib.itoa (n:Int)=si:=⟨_,rfl⟩;rw [hsi] at HI hi ⊢;clear hsi;have HW2:Hid (CP 128 #[zp C,.string ⟨#[10,101,110,100,115,116,114,101,97,109,10,101,110,100,111,98,106,10]⟩] w (aU D ok et ev S w X fC (aX K B Fb C ty q begins sizes (X++fC)))):=by
  have:=HW.out;rw [show (⟨fC.toArray⟩:ByteArray).data.toList=fC by simp] at this;exact this
 clear HW;go_enter func166,ntmps166
 go_wp2_with fail
 refine HW2.out.mono ?_;rintro e w1 (⟨hok,rfl,S1,h1,m1⟩ | ⟨hok,rfl,S1,Y,hD,p1,p2,m1⟩)
 ·have hB1:B<=w1.heap.size:=ZU hB m1.size;have ht1:bU B w1:=ht.on (hbel m1);have HX:=ai (HI.out w1 ht1);clear HW2 HI c0 c1 c2 fz hc;go_wp2_with fail
  refine HX.out.mono ?_;rintro e w2 ⟨rfl,hg2⟩;have h2:=(aX.thing d.thing Fb C ty q begins sizes (X++fC)).grow h1 hg2;have HO:=ai (mD d hM w2 S1 Fb C begins sizes (X++fC) ⟨si.toArray⟩ h2 (ZU hB1 hg2.size) (ht1.on (hg2.mono hB1)) hl (by rw [ZY,hlen,ae];omega));clear HX h1 h2;go_wp2_with fail
  refine HO.out.mono ?_;intro e w3 hS;obtain ⟨v,rfl⟩:=hS.val;have HS:=ai (aU.seq (m1.trans (Mv.grow hg2 S1)) hS);clear hS HO;go_wp2
  first
   | (rw [<-ZS X, <-hlen, <-ZY];exact HS.out)
   | (go_ret;rw [<-ZS X, <-hlen, <-ZY];exact HS.out)
 ·go_wp2;go_ret;exact aU.fail1 d.okp hok hD p1 p2 m1
theorem kU (d:fT B K D ok M ty q q' f et ev) (hM:M<=2000000000) (w:World) (S:Bl) (Fb C:Nat) (begins:List Nat) (sizes:List (Int×Int)) (X:List UInt8) (W H:Int) (h:aX K B Fb C ty q begins sizes X w S) (hB:B<=w.heap.size) (ht:bU B w) (hl:begins.length<=100000) (hz:sizes.length<=100000) (hX:X.length+1000<=M):
  CP 167 #[zp Fb,W,H] w (aU D ok et ev S w X (eW X++(aL (begins.length+1)++cX (begins.length+2))) (aX K B Fb C ty q (begins++[X.length+(eW X).length]) (sizes++[(W,H)]) (X++(eW X++(aL (begins.length+1)++cX (begins.length+2)))))):=by
 have hbel:=fun {S' w'} (m:Mv S w S' w')=>aX.bel d h hB m
 have hbl:(eW X).length<=9:=by unfold eW;split <;> simp [bi]
 have hobl:(aL (begins.length+1)).length<=28:=by
  have:=ar ((begins.length+1:Nat):Int) (by omega) (by omega);unfold aL;rw [ZY];simp only [ZX,ZR];omega
 have HB:=ai (jj d hM w S Fb C begins sizes X h (by omega));obtain ⟨b0,hb0⟩:∃ b,eW X=b:=⟨_,rfl⟩;rw [hb0] at HB hbl ⊢;clear hb0;go_enter func167,ntmps167
 go_wp2_with fail
 refine HB.out.mono ?_;rintro e w1 (⟨hok,rfl,S1,h1,m1⟩ | ⟨hok,rfl,S1,Y,hD,p1,p2,m1⟩)
 rotate_left
 ·go_wp2;go_ret;exact aU.fail1 d.okp hok hD p1 p2 m1
 have hB1:B<=w1.heap.size:=ZU hB m1.size;have ht1:bU B w1:=ht.on (hbel m1);have HO:=ai (iw d hM w1 S1 Fb C begins sizes (X++b0) h1 hB1 ht1 (by omega) (by rw [ZY];omega));have hbel1:=fun {S' w'} (m:Mv S1 w1 S' w')=>aX.bel d h1 hB1 m
 clear HB;go_wp2_with fail
 refine HO.out.mono ?_;rintro e w2 (⟨hok2,rfl,S2,h2,m2⟩ | ⟨hok2,rfl,S2,Y,hD,p1,p2,m2⟩)
 rotate_left
 ·go_wp2;go_ret;exact aU.seq m1 (aU.fail1 d.okp hok2 hD p1 p2 m2)
 have hB2:B<=w2.heap.size:=ZU hB1 m2.size;have ht2:bU B w2:=ht1.on (hbel1 m2);clear HO;obtain ⟨a1,k1,a2,k2,c0,c1,c2,fz,hc,hFb,hCb⟩:=h2.facts;rw [ZY,XN] at c1;have hnl:=gJ ((begins.length+2:Nat):Int) (by omega) (by omega);have hfl:(cX (begins.length+2)).length<=80:=by
  unfold cX;rw [ZY,ZY];simp only [ZX,ZR];omega
 have HWr:=ai (fun (w1:World) (hG:af w2 w1)=>aX.write d hM ((aX.thing d.thing Fb C ty q _ _ _).grow h2 hG) ⟨(cX (begins.length+2)).toArray⟩ (by rw [ZY,ZY,ae];omega));have HN:=ai (fun (w1:World) (hG:af w2 w1)=>dD w1 Fb (begins.length+1) k1 a1 ((Zc hG (p:=zq Fb 1) hFb).trans c1) (by omega));have HI:=ai (fun (w1:World) (hG:af w2 w1)=>lB B w1 ((begins.length+2:Nat):Int) (by omega) (by omega) (ht2.on (YY hG hB2)));have HF:Hid (cX (begins.length+2)=[60,60,32,47,70,105,108,116,101,114,32,47,70,108,97,116,101,68,101,99,111,100,101,32,47,76,101,110,103,116,104,32]++aD ((begins.length+2:Nat):Int)++[32,62,62,10,115,116,114,101,97,109,10]):=rfl;have HH2:=ai h2;clear h2 c1 c2 fz hc;obtain ⟨fl,hfe⟩:∃ fl,cX (begins.length+2)=fl:=⟨_,rfl⟩;rw [hfe] at HWr HF hfl;have HFe:=ai hfe;obtain ⟨sn,hsn⟩:∃ sn,aD ((begins.length+2:Nat):Int)=sn:=⟨_,rfl⟩;rw [hsn] at HI HF hnl;clear hfe hsn;have hz1:=ae sn;have hz2:=ae ([60,60,32,47,70,105,108,116,101,114,32,47,70,108,97,116,101,68,101,99,111,100,101,32,47,76,101,110,103,116,104,32]++sn);rw [ZY] at hz2;simp only [ZX,ZR] at hz2;obtain ⟨s7,hs7⟩:∃ s7,[60,60,32,47,70,105,108,116,101,114,32,47,70,108,97,116,101,68,101,99,111,100,101,32,47,76,101,110,103,116,104,32]++sn=s7:=⟨_,rfl⟩;rw [hs7] at HF hz2;have HA1:Hid ((⟨#[60,60,32,47,70,105,108,116,101,114,32,47,70,108,97,116,101,68,101,99,111,100,101,32,47,76,101,110,103,116,104,32]⟩:ByteArray)++⟨sn.toArray⟩=⟨s7.toArray⟩):=by
  show _=_
  rw [<-hs7];exact an [60,60,32,47,70,105,108,116,101,114,32,47,70,108,97,116,101,68,101,99,111,100,101,32,47,76,101,110,103,116,104,32] sn
 have HA2:=ai (an s7 [32,62,62,10,115,116,114,101,97,109,10]);clear hs7;go_wp2;refine ap 9 45 (ag [zp Fb,zp Fb,zp Fb,zp C,zp Fb,((begins.length+1+1:Nat):Int),.string ⟨sn.toArray⟩,.string ⟨s7.toArray⟩,.string ⟨fl.toArray⟩]) (by kernel_rfl) rfl (by kernel_rfl) aq ?_;simp only [TD];refine ⟨fun w3 hG hd=>?_,fun v0=>?_⟩
 ·go_wp2;exact RG
 refine ⟨fun w3 hG hd=>?_,fun v1=>?_⟩
 ·simp [ag,Region.binds] at hd;subst hd;go_wp2;exact RG
 refine ⟨fun w3 hG hd=>?_,fun v2=>?_⟩
 ·simp [ag,Region.binds] at hd;subst hd;go_wp2;exact RG
 refine ⟨fun w3 hG hd=>?_,fun v3=>?_⟩
 ·have c:=(Zc hG (p:=Fb) hFb).trans c0;simp [ag,Region.binds] at hd;subst hd;go_wp2;exact RG
 refine ⟨fun w3 hG hd=>?_,fun v4=>?_⟩
 ·go_wp2;exact RG
 refine ⟨fun w3 hG hd=>?_,fun v5=>?_⟩
 ·have HX:=ai (HN.out w3 hG);simp [ag,Region.binds] at hd;subst hd;go_wp2_with fail
  refine HX.out.mono ?_;rintro e w4 ⟨rfl,rfl⟩;go_wp2;exact RG
 refine ⟨fun w3 hG hd=>?_,fun v6=>?_⟩
 ·have HX:=ai (HI.out w3 hG);simp [ag,Region.binds] at hd;subst hd;go_wp2_with fail
  refine HX.out.mono ?_;rintro e w4 ⟨rfl,hB4⟩;go_wp2;exact ⟨rfl,hB4⟩
 refine ⟨fun w3 hG hd=>?_,fun v7=>?_⟩
 ·simp [ag,Region.binds] at hd;subst hd;go_wp2;exact ⟨by unfold ag;exact congrArg Value.string HA1.out,af.refl _⟩
 refine ⟨fun w3 hG hd=>?_,fun v8=>?_⟩
 ·simp [ag,Region.binds] at hd;subst hd;go_wp2;exact ⟨by unfold ag;rw [HF.out];exact congrArg Value.string HA2.out,af.refl _⟩
 intro w3 hG hd;have d3:=hd 3 (by omega);have d8:=hd 8 (by omega);simp [ag] at d3 d8;subst d3 d8;have HX:=ai (HWr.out w3 hG);clear hd HI HN HWr HA1 HA2 HF hz1 hz2 hnl c0;go_wp2_with fail
 refine HX.out.mono ?_;rintro e w4 (⟨hok3,rfl,S3,h3,m3⟩ | ⟨hok3,rfl,S3,Y,hD,p1,p2,m3⟩)
 rotate_left
 ·go_wp2;go_ret;rw [HFe.out];exact aU.seq m1 (aU.seq m2 (aU.pre (Mv.grow hG S2) (.inr ⟨hok3,rfl,S3,Y,hD,p1,p2,m3⟩)))
 obtain ⟨S1',hF3,hsub3,kF3⟩:=h3.fst (CK.thing d.thing C 0 ty q _);obtain ⟨vz,cz,ow,ne,kz⟩:=hF3.sized (W,H);have hFb3:Fb < w4.heap.size:=ZD w4 _ cz;have fz3:=hF3.read.choose_spec.choose_spec.choose_spec.choose_spec.2.2.2;have f2:=fz3 2;obtain ⟨az,kzc,hform⟩:∃ ad cap,vz=.slice ad sizes.length cap:=by
  rcases ow.2 with ⟨hu,hz⟩ | ⟨gg,cap,cur,hu,_⟩
  ·exact ⟨none,0,by rw [hu,hz]⟩
  ·exact ⟨_,_,hu⟩
 subst hform;have hB4:B<=w4.heap.size:=ZU hB2 (ZU hG.size m3.size);have HK:=ai (fun w1 hg1 v' w' hg ho hat=>(kz w1 hg1 v' w' hg ho hat));have HKF:=ai kF3;clear kz kF3 hF3 h3;obtain ⟨Lz,hLz⟩:∃ Lz,sizes.length=Lz:=⟨_,rfl⟩;rw [hLz] at cz ow ne HK hz;clear hLz HX;go_wp2_with (at_builtin;refine bQ rfl (.tmp 37) (.tmp 41) 164 rfl 224 (.agg #[oz,oz]) 2 16 Tryz.infoSz rfl (by omega) underlying164 B _ Lz (rN sizes) rfl (ow.alloc _) (by simp;omega) ⟨w4,0,none⟩ 1 rfl [.int .i64 W,.int .i64 H] rfl (AI _ _ _ _) (by intro u hu;simp at hu;rcases hu with rfl | rfl <;> rfl) (by omega) (by omega) ?_)
 intro v7 w7 hO7 hg7 hat7;have HX:=ai (HK.out _ ((ZT _ w4).alloc (ZW _) _) v7 w7 hg7 hO7 (by simpa using hat7));have hform7:∃ ad L cap,v7=.slice ad L cap:=by
  rcases hO7.2 with ⟨hu,_⟩ | ⟨gg,cap,cur,hu,_⟩
  ·exact ⟨_,_,_,hu⟩
  ·exact ⟨_,_,_,hu⟩
 obtain ⟨ad7,L7,cap7,hv7⟩:=hform7;rw [hv7] at HX ⊢;clear hv7 HK;have kb:=(hg7.block Fb (by simp;omega) (fun e=>ne e.symm)).trans (Zf w4 _ Fb hFb3);have k2:=(ZQ (a:=zq Fb 2) kb).trans cz;have kf2:=(ZH (a:=zq Fb 2) kb).trans f2;clear kb cz f2 ow hO7 hg7 hat7;go_wp2;go_ret;obtain ⟨S5,hF5,m5⟩:=HX.out;obtain ⟨S6,h6,m6⟩:=HKF.out _ _ _ hF5 m5;rw [HFe.out];refine aU.seq m1 (aU.seq m2 (aU.pre (Mv.grow hG S2) (.inl ⟨hok3,rfl,S6,?_,m3.trans m6⟩)));rw [<-ZS X, <-ZS (X++b0), <-ZY];exact h6
end
def ci (ns:List Int) (v:Value) (w:World):Prop:=∃ b,v=.slice (zp b) ns.length ns.length/\b < w.heap.size/\∀ (j:Nat) z,ns[j]? =some z->w.cell? (zq b (0+j))=some (.int .i64 z)
theorem ci.on {ns:List Int} {v:Value} {w w':World} (h:ci ns v w) (g:af w w'):ci ns v w':=by
 obtain ⟨b,h1,h2,h3⟩:=h;exact ⟨b,h1,ZK h2 g.size,fun j z hz=>(Zc g (p:=zq b (0+j)) h2).trans (h3 j z hz)⟩
def cZ (t:Value) (b:Nat) (X Y X' Y' W:Int) (s1 s2 s3 sx:List UInt8) (k:Nat) (v:Value) (w:World):Prop:=
 match k with
 | 0=>v=t
 | 1=>v=.pointer (some ⟨b,4,none⟩)
 | 2=>v=.int .i64 W
 | 3=>ci [W] v w
 | 4=>v=.string ⟨s1.toArray⟩
 | 5=>v=.string ⟨(s1++[119,32]).toArray⟩
 | 6=>v=.pointer (some ⟨b,0,none⟩)
 | 7=>v=.int .i64 X
 | 8=>v=.pointer (some ⟨b,1,none⟩)
 | 9=>v=.int .i64 Y
 | 10=>ci [X,Y] v w
 | 11=>v=.string ⟨s2.toArray⟩
 | 12=>v=.string ⟨(s1++[119,32]++s2).toArray⟩
 | 13=>v=.string ⟨(s1++[119,32]++s2++[109,32]).toArray⟩
 | 14=>v=.pointer (some ⟨b,2,none⟩)
 | 15=>v=.int .i64 X'
 | 16=>v=.pointer (some ⟨b,3,none⟩)
 | 17=>v=.int .i64 Y'
 | 18=>ci [X',Y'] v w
 | 19=>v=.string ⟨s3.toArray⟩
 | 20=>v=.string ⟨(s1++[119,32]++s2++[109,32]++s3).toArray⟩
 | 21=>v=.string ⟨sx.toArray⟩
 | 22=>v=.func (.method "Write") #[t] #[]
 | 23=>True
 | 24=>v=t
 | _=>True
theorem y' {t:Value} {b:Nat} {X Y X' Y' W:Int} {s1 s2 s3 sx:List UInt8} (k:Nat) (v:Value) (w w':World) (hk:k < 25) (h:cZ t b X Y X' Y' W s1 s2 s3 sx k v w) (g:af w w'):cZ t b X Y X' Y' W s1 s2 s3 sx k v w':=by
 unfold cZ at h;split at h
 all_goals first | exact h | exact ci.on h g | (unfold cZ;split <;> first | trivial | simp_all)
theorem e6 (w:World) (x:Int):ci [x] (.slice w 1 1) (w.alloc (Obj.cells #[x] 3)):=by
 refine ⟨w.heap.size,rfl,by simp,fun j z hz=>?_⟩
 match j,hz with
 | 0,hz=>simp at hz;subst hz;simp
 | j+1,hz=>simp at hz
theorem eD (w:World) (x y:Int):ci [x,y] (.slice w 2 2) (w.alloc (Obj.cells #[x,y] 3)):=by
 refine ⟨w.heap.size,rfl,by simp,fun j z hz=>?_⟩
 match j,hz with
 | 0,hz=>simp at hz;subst hz;simp
 | 1,hz=>simp at hz;subst hz;simp
 | j+2,hz=>simp at hz
theorem aN (w:World) (o:Obj):af w (w.alloc o):=(ZT _ w).alloc (ZW _) _
theorem ox (B:Nat) (w:World) (X Y X' Y' W:Int) (T:Nat) (q q':Value) (f:Nat) (hn:∀ wx,(nilAhead 465 T q "Write").run prog wx=.ok (some false) wx) (hm:∀ wx,(method 465 T q "Write").run prog wx=.ok (f,q') wx) (hB:B<=w.heap.size) (ht:bU B w) (s1 s2 s3 sx:List UInt8) (hsx:Hid (s1++[119,32]++s2++[109,32]++s3++[108,32,83,10]=sx))
  (l1:s1.length<=100) (l2:s2.length<=100) (l3:s3.length<=100) (Z:Ending->World->Prop) (he:∀ args wx,(callFunc f args).run prog wx=.ok (.enter f args) wx)
  (HW:Hid (∀ wx,af w wx->CP f #[q',.string ⟨sx.toArray⟩] wx fun e w'=>∃ v,e=.returned v/\Z (.returned v) w'))
  (H1:Hid (∀ v wx,af w wx->ci [W] v wx->QB 170 #[v] wx (.string ⟨s1.toArray⟩)))
  (H2:Hid (∀ v wx,af w wx->ci [X,Y] v wx->QB 170 #[v] wx (.string ⟨s2.toArray⟩)))
  (H3:Hid (∀ v wx,af w wx->ci [X',Y'] v wx->QB 170 #[v] wx (.string ⟨s3.toArray⟩))):
  CP 358 #[.agg #[X,Y,X',Y',W],.iface T q] w Z:=by
 have z1:=ae s1;have z2:=ae s2;have z3:=ae s3;have z4:=ae (s1++[119,32]);have z5:=ae (s1++[119,32]++s2);have z6:=ae (s1++[119,32]++s2++[109,32]);have z7:=ae (s1++[119,32]++s2++[109,32]++s3);simp only [ZY,ZX,ZR] at z4 z5 z6 z7;have C:∀ w1,af (w.alloc (Obj.cells #[X,Y,X',Y',W] 217)) w1->
   af w w1/\w.heap.size < w1.heap.size/\w1.cell? w=X/\w1.cell? (zq w 1)=Y/\w1.cell? (zq w 2)=X'/\w1.cell? (zq w 3)=Y'/\w1.cell? (zq w 4)=W:=by
  intro w1 hG;have hs:=hG.size;have hsz:w.heap.size < (w.alloc (Obj.cells #[X,Y,X',Y',W] 217)).heap.size:=by simp
  have hc:∀ j,w1.cell? (zq w j)=(w.alloc (Obj.cells #[X,Y,X',Y',W] 217)).cell? (zq w j):=fun j=>Zc hG (p:=zq w j) hsz
  refine ⟨af.trans ((ZT _ w).alloc (ZW _) _) hG,by omega,?_,?_,?_,?_,?_⟩
  all_goals
   rw [hc];simp
 have HC:=ai C;clear C;go_enter func358,ntmps358
 go_wp2;refine ap 25 31 (cZ (.iface T q) w.heap.size X Y X' Y' W s1 s2 s3 sx) (by kernel_rfl) rfl (by kernel_rfl) y' ?_;simp only [TD];refine ⟨fun w1 hG hd=>?_,fun v0=>?_⟩
 ·go_wp2;exact RG
 refine ⟨fun w1 hG hd=>?_,fun v1=>?_⟩
 ·go_wp2;exact RG
 refine ⟨fun w1 hG hd=>?_,fun v2=>?_⟩
 ·obtain ⟨_,hsz,c0,c1,c2,c3,c4⟩:=HC.out w1 hG;simp [cZ,Region.binds] at hd;subst hd;go_wp2;exact RG
 refine ⟨fun w1 hG hd=>?_,fun v3=>?_⟩
 ·simp [cZ,Region.binds] at hd;subst hd;go_wp2;exact ⟨e6 _ _,aN _ _⟩
 refine ⟨fun w1 hG hd=>?_,fun v4=>?_⟩
 ·obtain ⟨hGw,_⟩:=HC.out w1 hG;simp [cZ,Region.binds] at hd;have HX:=ai (H1.out _ _ hGw hd);go_wp2_with fail
  refine HX.out.mono ?_;rintro e w2 ⟨rfl,hB2⟩;go_wp2;exact ⟨rfl,hB2⟩
 refine ⟨fun w1 hG hd=>?_,fun v5=>?_⟩
 ·simp [cZ,Region.binds] at hd;subst hd;go_wp2;exact ⟨aT (by simp),af.refl _⟩
 refine ⟨fun w1 hG hd=>?_,fun v6=>?_⟩
 ·go_wp2;exact RG
 refine ⟨fun w1 hG hd=>?_,fun v7=>?_⟩
 ·obtain ⟨_,hsz,c0,c1,c2,c3,c4⟩:=HC.out w1 hG;simp [cZ,Region.binds] at hd;subst hd;go_wp2;exact RG
 refine ⟨fun w1 hG hd=>?_,fun v8=>?_⟩
 ·go_wp2;exact RG
 refine ⟨fun w1 hG hd=>?_,fun v9=>?_⟩
 ·obtain ⟨_,hsz,c0,c1,c2,c3,c4⟩:=HC.out w1 hG;simp [cZ,Region.binds] at hd;subst hd;go_wp2;exact RG
 refine ⟨fun w1 hG hd=>?_,fun v10=>?_⟩
 ·simp [cZ,Region.binds] at hd;obtain ⟨rfl,rfl⟩:=hd;go_wp2;exact ⟨eD _ _ _,aN _ _⟩
 refine ⟨fun w1 hG hd=>?_,fun v11=>?_⟩
 ·obtain ⟨hGw,_⟩:=HC.out w1 hG;simp [cZ,Region.binds] at hd;have HX:=ai (H2.out _ _ hGw hd.1);go_wp2_with fail
  refine HX.out.mono ?_;rintro e w2 ⟨rfl,hB2⟩;go_wp2;exact ⟨rfl,hB2⟩
 refine ⟨fun w1 hG hd=>?_,fun v12=>?_⟩
 ·simp [cZ,Region.binds] at hd;obtain ⟨rfl,rfl⟩:=hd;go_wp2;exact ⟨aT (by simp),af.refl _⟩
 refine ⟨fun w1 hG hd=>?_,fun v13=>?_⟩
 ·simp [cZ,Region.binds] at hd;subst hd;go_wp2;exact ⟨aT (by simp),af.refl _⟩
 refine ⟨fun w1 hG hd=>?_,fun v14=>?_⟩
 ·go_wp2;exact RG
 refine ⟨fun w1 hG hd=>?_,fun v15=>?_⟩
 ·obtain ⟨_,hsz,c0,c1,c2,c3,c4⟩:=HC.out w1 hG;simp [cZ,Region.binds] at hd;subst hd;go_wp2;exact RG
 refine ⟨fun w1 hG hd=>?_,fun v16=>?_⟩
 ·go_wp2;exact RG
 refine ⟨fun w1 hG hd=>?_,fun v17=>?_⟩
 ·obtain ⟨_,hsz,c0,c1,c2,c3,c4⟩:=HC.out w1 hG;simp [cZ,Region.binds] at hd;subst hd;go_wp2;exact RG
 refine ⟨fun w1 hG hd=>?_,fun v18=>?_⟩
 ·simp [cZ,Region.binds] at hd;obtain ⟨rfl,rfl⟩:=hd;go_wp2;exact ⟨eD _ _ _,aN _ _⟩
 refine ⟨fun w1 hG hd=>?_,fun v19=>?_⟩
 ·obtain ⟨hGw,_⟩:=HC.out w1 hG;simp [cZ,Region.binds] at hd;have HX:=ai (H3.out _ _ hGw hd.1);go_wp2_with fail
  refine HX.out.mono ?_;rintro e w2 ⟨rfl,hB2⟩;go_wp2;exact ⟨rfl,hB2⟩
 refine ⟨fun w1 hG hd=>?_,fun v20=>?_⟩
 ·simp [cZ,Region.binds] at hd;obtain ⟨rfl,rfl⟩:=hd;go_wp2;exact ⟨aT (by simp),af.refl _⟩
 refine ⟨fun w1 hG hd=>?_,fun v21=>?_⟩
 ·simp [cZ,Region.binds] at hd;subst hd;go_wp2;exact ⟨aT (by rw [<-hsx.out];simp),af.refl _⟩
 refine ⟨fun w1 hG hd=>?_,fun v22=>?_⟩
 ·simp [cZ,Region.binds] at hd;subst hd;go_wp2;exact RG
 refine ⟨fun w1 hG hd=>?_,fun v23=>?_⟩
 ·simp [cZ,Region.binds] at hd;subst hd;go_wp2;refine ⟨True.intro,af.refl _⟩
 refine ⟨fun w1 hG hd=>?_,fun v24=>?_⟩
 ·simp [cZ,Region.binds] at hd;obtain ⟨rfl,_⟩:=hd;go_wp2;exact RG
 intro w1 hG hd;have d21:=hd 21 (by omega);have d24:=hd 24 (by omega);simp [cZ] at d21 d24;subst d21 d24;obtain ⟨hGw,_⟩:=HC.out w1 hG;have HX:=ai (HW.out _ hGw);clear hd HC H1 H2 H3 HW hsx z1 z2 z3 z4 z5 z6 z7 hG hGw;go_wp2_with fail
 refine HX.out.mono ?_;rintro e w2 ⟨v,rfl,hZ⟩;go_wp2;exact hZ
end Go.Proofs.YtbklfkpjoinofaaGreatDoor
