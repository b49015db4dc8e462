import Derived.Test.YtbklfkpjoinofaaGreatDoorA27
import Derived.Test.YtbklfkpjoinofaaGreatDoorA24
import Derived.Test.YtbklfkpjoinofaaGreatDoorA28
import Derived.Test.YtbklfkpjoinofaaGreatDoorA29
import Derived.Deep.Onto
set_option linter.all false
set_option maxRecDepth 100000
set_option maxHeartbeats 8000000
namespace Go.Proofs.YtbklfkpjoinofaaGreatDoor
open Go.RowKit Go.Proofs.Tryz
theorem dq.read {B r c p:Nat} {s ti:ByteArray} {vp vm:Value} {starts:List Nat} {w:World} {S:Bl} (h:dq B r c s p ti vp vm starts w S):∃ ad cap,w.cell? r=zp c/\w.cell? (zq r 1)=ti/\w.cell? (zq r 2)=some vp/\w.cell? (zq r 3)=some vm/\w.cell? (zq r 4)=some (.slice ad starts.length cap)/\(∀ o,w.frozen? (zq r o)=false)/\r < w.heap.size:=by
 obtain ⟨S1,hR,_,_⟩:=h.fst (aS.thing B c _);exact hR.read
theorem dq.eat {B r c p:Nat} {s ti:ByteArray} {vp vm:Value} {starts:List Nat} {w:World} {S:Bl} (h:dq B r c s p ti vp vm starts w S) (hs:s.size<=2000000000) (t:List UInt8) (hg:au s p t):
  CP 114 #[zp c,.string ⟨t.toArray⟩] w fun e w'=>e=.returned (.tuple #[])/\∃ S',dq B r c s (p+t.length) ti vp vm starts w' S'/\Mv S w S' w':=by
 obtain ⟨S8,hC8,_,k8⟩:=h.snd (jA.thing B r c ti vp vm starts);refine (bX w B c p s ⟨t.toArray⟩ S8 hC8 hs (by simpa using hg)).mono ?_;rintro e w9 ⟨rfl,h9,m9⟩;obtain ⟨S9,hs9,hm9⟩:=k8 _ _ _ h9 m9;rw [ae] at hs9;exact ⟨rfl,S9,hs9,hm9⟩
theorem g_ (w:World) (B r c p:Nat) (s ti:ByteArray) (vp vm:Value) (starts:List Nat) (S:Bl) (b:List UInt8) (hb:b.length<=1000000) (h:dq B r c s p ti vp vm starts w S) (hB:B<=w.heap.size) (ht:bU B w) (hs:s.size<=2000000000) (hl:starts.length<=1000000) (hg:au s p (aK (starts.length+1) b)):
  CP 69 #[zp r,.string ⟨b.toArray⟩] w fun e w'=>e=.returned ((starts.length+1:Nat):Int)/\∃ S',dq B r c s (p+(aK (starts.length+1) b).length) ti vp vm (starts++[p]) w' S'/\Mv S w S' w':=by
 refine sK w r c _ b (fun w'=>∃ S',dq B r c s (p+(aL (starts.length+1)).length) ti vp vm (starts++[p]) w' S'/\Mv S w S' w') _ hb (gp w B r c p s ti vp vm starts S h hB ht hs hl hg.left) ?_ ?_
 ·rintro w1 ⟨S1,h1,m1⟩;exact h1.read.choose_spec.choose_spec.1
 ·rintro w1 ⟨S1,h1,m1⟩;refine (h1.eat hs (b++eh) hg.right).mono ?_;rintro e w2 ⟨rfl,S2,h2,m2⟩;refine ⟨rfl,rfl,S2,?_,m1.trans m2⟩;have e:p+(aK (starts.length+1) b).length=p+(aL (starts.length+1)).length+(b++eh).length:=by simp only [aK,ZZ];omega
  rw [e];exact h2
theorem dq.seen {B r c p:Nat} {s ti:ByteArray} {vp vm:Value} {starts:List Nat} {w:World} {S:Bl} (h:dq B r c s p ti vp vm starts w S) (hB:B<=w.heap.size) (ht:bU B w) (hs:s.size<=2000000000) (hl:starts.length<=1000000) (hp:p<=s.size) (b:List UInt8) (hb:b.length<=1000) (x:Bool) (hx:x=true↔au s p (aL (starts.length+1)++b)):
  CP 115 #[zp r,.string ⟨b.toArray⟩] w fun e w'=>e=.returned x/\∃ S',dq B r c s p ti vp vm starts w' S'/\Mv S w S' w':=by
 obtain ⟨ad,cap,c0,_,_,_,c4,_,hr⟩:=h.read;have hT:=dq.thing B r c s p ti vp vm starts;refine ui w B r c starts.length cap ad b x _ hB ht hb hl hr c0 c4 (fun w1 hg1=>?_);have h1:=hT.grow h hg1;obtain ⟨S8,hC8,_,k8⟩:=h1.snd (jA.thing B r c ti vp vm starts);have hlen:(aL (starts.length+1)++b).length<=2000:=by
  have:=av ((starts.length+1:Nat):Int) (by omega) (by omega);simp only [aL,ZZ,ZY,ZW];omega
 cases x with
 | true=>
  refine (jf w1 B c p s ⟨(aL (starts.length+1)++b).toArray⟩ S8 hC8 hs (by simpa using hx.mp rfl)).mono ?_;rintro e w2 ⟨rfl,h2,m2⟩;obtain ⟨S9,hs9,hm9⟩:=k8 _ _ _ h2 m2;exact ⟨rfl,S9,hs9,(Mv.grow hg1 _).trans hm9⟩
 | false=>
  have hno:¬ au s p (aL (starts.length+1)++b):=fun g=>by have:=hx.mpr g;simp at this
  refine (eP w1 B c p s ⟨(aL (starts.length+1)++b).toArray⟩ S8 hC8 hs (by rw [ae];omega) hp (by simpa using hno)).mono ?_;rintro e w2 ⟨rfl,h2,m2⟩;obtain ⟨S9,hs9,hm9⟩:=k8 _ _ _ h2 m2;exact ⟨rfl,S9,hs9,(Mv.grow hg1 _).trans hm9⟩
theorem Tryz.infoPg:(Tryz.prog.info? 100).map (fun i=>(i.zero,i.size,i.bytes))=some (some (.agg #[oz,oz,.slice none 0 0]),3,40):=by kernel_rfl
theorem pD (w:World) (B r c n p2 took N:Nat) (s t:ByteArray) (nm fil:List UInt8) (hnl:nm.length<=30) (HFI:Hid ([60,60,32,47,70,105,108,116,101,114,32,47,70,108,97,116,101,68,101,99,111,100,101,32,47,76,101,110,103,116,104,32]++nm++[32,62,62,10,115,116,114,101,97,109,10]=fil)) (vp:Value) (pc:List Value) (G1 G2:World->Prop) (G4:Value->World->Prop) (G5 G6 G7:World->Prop) (Z:Ending->World->Prop) (hs:s.size<=2000000000) (hn:n<=1000000) (hp2:p2<=s.size) (htk:took<=2000000000) (hN:N<=1000)
  (H1:Hid (CP 117 #[zp r] w fun e w'=>e=.returned (n:Int)/\G1 w'))
  (F1:Hid (∀ w1,G1 w1->w1.cell? r=some (.pointer (some ⟨c,0,none⟩))/\r < w1.heap.size))
  (HR1:Hid (∀ w1,G1 w1->∀ w2,Below w1 w1 w2->QB 74 #[((n:Int)+1:Int)] w2 (.string ⟨nm.toArray⟩)))
  (H2:Hid (∀ w1,G1 w1->∀ w2,Below w1 w1 w2->CP 114 #[zp c,.string ⟨fil.toArray⟩] w2 fun e w'=>e=.returned (.tuple #[])/\G2 w'))
  (F2:Hid (∀ w1,G2 w1->w1.cell? r=some (.pointer (some ⟨c,0,none⟩))/\w1.cell? c=some (.string s)/\w1.cell? (zq c 1)=some (.int .i64 (p2:Int))/\w1.cell? (zq c 2)=some (.bool false)/\r < w1.heap.size/\c < w1.heap.size))
  (H3:Hid (∀ w1,G2 w1->∀ w2,Below w1 w1 w2->QB 54 #[.string (s.extract p2 s.size)] w2 (.tuple #[t,(took:Int),oz])))
  (H4:Hid (∀ w1,G2 w1->∀ w2,Below w1 w1 w2->CP 164 #[t] w2 fun e w'=>∃ ad m cap,e=.returned (.tuple #[.slice ad m cap,true])/\G4 (.slice ad m cap) w'))
  (F4:Hid (∀ v w1,G4 v w1->w1.cell? (zq r 2)=some vp/\(∀ o,w1.frozen? (zq r o)=false)/\r < w1.heap.size/\B<=w1.heap.size/\w1.ownsRow B 100 3 vp N pc/\vp.ownBlock≠some r))
  (H5:Hid (∀ v w1,G4 v w1->∀ w2,Below w1 w1 w2->∀ v' w',w2.grownBy w' vp.ownBlock->w'.ownsRow B 100 3 v' (N+1) (pc++[.int .i64 0,.int .i64 0,v])->(v'.ownBlock=vp.ownBlock\/v'.ownBlock=some w2.heap.size)->G5 (w'.setCell (zq r 2) v')))
  (F5:Hid (∀ w1,G5 w1->w1.cell? r=some (.pointer (some ⟨c,0,none⟩))/\w1.cell? (zq c 1)=some (.int .i64 (p2:Int))/\w1.frozen? (zq c 1)=false))
  (H6:Hid (∀ w1,G5 w1->∀ q,G6 ((w1.drewN q).setCell (zq c 1) ((p2:Int)+(took:Int):Int))))
  (F6:Hid (∀ w1,G6 w1->w1.cell? r=some (.pointer (some ⟨c,0,none⟩))))
  (H7:Hid (∀ w1,G6 w1->CP 114 #[zp c,.string ⟨#[10,101,110,100,115,116,114,101,97,109,10,101,110,100,111,98,106,10]⟩] w1 fun e w'=>e=.returned (.tuple #[])/\G7 w'))
  (HR7:Hid (∀ w1,G7 w1->∀ w2,Below w1 w1 w2->QB 120 #[(took:Int)] w2 (.string ⟨(Lib.itoa (took:Int)).toArray⟩)))
  (H8:Hid (∀ w1,G7 w1->∀ w2,Below w1 w1 w2->CP 69 #[zp r,.string ⟨(Lib.itoa (took:Int)).toArray⟩] w2 fun e w'=>(∃ v,e=.returned v)/\Z (.returned (.tuple #[])) w')):
  CP 116 #[zp r] w Z:=by
 obtain ⟨fl1,hfl1⟩:∃ fl1,([60,60,32,47,70,105,108,116,101,114,32,47,70,108,97,116,101,68,101,99,111,100,101,32,47,76,101,110,103,116,104,32]:List UInt8)++nm=fl1:=⟨_,rfl⟩;have HA1:=aa (show (⟨#[60,60,32,47,70,105,108,116,101,114,32,47,70,108,97,116,101,68,101,99,111,100,101,32,47,76,101,110,103,116,104,32]⟩:ByteArray)++⟨nm.toArray⟩=⟨fl1.toArray⟩ by rw [<-hfl1];exact an _ _);have HA2:=aa (show (⟨fl1.toArray⟩:ByteArray)++⟨#[32,62,62,10,115,116,114,101,97,109,10]⟩=⟨fil.toArray⟩ by rw [<-HFI.out, <-hfl1];exact an _ _);have hz1:=ae nm;have hfl:fl1.length<=100:=by rw [<-hfl1,ZZ];simp only [ZY,ZW];omega
 have hz2:=ae fl1;clear hfl1 HFI;go_enter func116,ntmps116
 go_wp2_with fail
 refine H1.out.mono ?_;rintro e wA ⟨rfl,gA⟩;obtain ⟨a0,hr1⟩:=F1.out wA gA;have HRF:=aa (HR1.out wA gA);have HEA:=aa (H2.out wA gA);clear gA H1 F1 HR1 H2;go_wp2_with fail
 refine ap 9 105 (ag [zp r,zp r,zp r,zp c,(n:Int),((n:Int)+1:Int),.string ⟨nm.toArray⟩,.string ⟨fl1.toArray⟩,.string ⟨fil.toArray⟩]) (by kernel_rfl) rfl (by kernel_rfl) aq ?_;simp only [TD]
 iterate 9
  refine ⟨fun w1 hG hd=>?_,fun v=>?_⟩
  ·have c1:=(Zw hG (p:=r) hr1).trans a0
   try (have d:=hd _ ⟨ZM _⟩ rfl;simp only [ag,GD] at d;subst d)
   clear hd;go_wp2_with fail
   first
    | exact RG
    | exact CS (by assumption)
    | (refine (HRF.out w1 hG).mono ?_;rintro e w2 ⟨rfl,hB2⟩;go_wp2;exact ⟨rfl,hB2⟩)
  simp only [TN]
 intro wB hG hd;have d3:=hd 3 (by omega);have d8:=hd 8 (by omega);simp only [ag,GD] at d3 d8;subst d3 d8;have HX:=aa (HEA.out wB hG);clear hd HRF HEA HA1 HA2 hz1 hz2 hfl hnl a0 hr1 hG;go_wp2_with fail
 refine HX.out.mono ?_;rintro e wC ⟨rfl,gC⟩;clear HX;obtain ⟨b0,b1,b2,b3,hr2,hc2⟩:=F2.out wC gC;have HUN:=aa (H3.out wC gC);have HOP:=aa (H4.out wC gC);clear gC F2 H3 H4;go_wp2_with fail
 go_region_law (rw [ZO (by simp [Region.wanted])];go_wp2_with fail;go_at_call 54;refine (HUN.out _ ((ZV _ wC).drew)).mono ?_;rintro e w9 ⟨rfl,hB9⟩;dsimp only)
 all_goals
  have HX:=aa (HOP.out w9 (((ZV _ wC).drew).trans hB9));clear HUN HOP b0 b1 b2 b3 hB9;go_wp2_with fail
  refine HX.out.mono ?_;rintro e wE ⟨ao,mo,co,rfl,gE⟩;clear HX;obtain ⟨d2,df,hrE,hBE,ow,ne⟩:=F4.out _ wE gE;have H5':=aa (H5.out _ wE gE);clear gE F4 H5;obtain ⟨ad,cap,hform⟩:∃ ad cap,vp=.slice ad N cap:=by
   rcases ow.2 with ⟨hu,hz⟩ | ⟨gg,cap,cur,hu,_⟩
   ·exact ⟨none,0,by rw [hu,hz]⟩
   ·exact ⟨_,_,hu⟩
  subst hform;have df2:=df 2;go_wp2_with (at_builtin;refine bQ rfl (.tmp 73) (.tmp 76) 26 rfl 100 (.agg #[oz,oz,.slice none 0 0]) 3 40 Tryz.infoPg rfl (by omega) underlying26 B _ N pc rfl (ow.alloc _) (by simp;omega) ⟨wE,0,none⟩ 1 rfl [.int .i64 0,.int .i64 0,.slice ao mo co] rfl (tS _ _ _ _ _) (by intro u hu;simp at hu;rcases hu with rfl | rfl | rfl <;> rfl) (by omega) (by omega) ?_)
  intro v7 w7 hO7 hg7 hat7;have HG5:=aa (H5'.out _ ((ZV _ wE).alloc (ZX _) _) v7 w7 hg7 hO7 (by simpa using hat7));have kb:=(hg7.block r (by simp;omega) (fun e=>ne e.symm)).trans (ZC wE _ r hrE);have k2:=(ZS (a:=zq r 2) kb).trans d2;have kf2:=(ZJ (a:=zq r 2) kb).trans df2;have hform7:∃ ad L cap,v7=.slice ad L cap:=by
   rcases hO7.2 with ⟨hu,_⟩ | ⟨gg,cap,cur,hu,_⟩
   ·exact ⟨_,_,_,hu⟩
   ·exact ⟨_,_,_,hu⟩
  obtain ⟨ad7,L7,cap7,hv7⟩:=hform7;rw [hv7] at HG5 ⊢;obtain ⟨e0,e1,ef⟩:=F5.out _ HG5.out;clear hv7 H5' kb d2 df df2 ow hO7 hg7 hat7;go_wp2_with fail
  generalize w7.setCell (zq r 2) (.slice ad7 L7 cap7)=wF at HG5 e0 e1 ef ⊢;refine bO 15 (by kernel_rfl) (by kernel_rfl) ?_;simp only [TD]
  repeat (go_big_quiet_step (fail))
  refine Yh ?_;intro _ hw';obtain ⟨nq2,hw''⟩:=hw';subst hw'';have g6:=H6.out wF HG5.out nq2;have i0:=F6.out _ g6;have HE7:=aa (H7.out _ g6);clear g6 H6 F6 H7 F5 HG5 k2 kf2;go_wp2_with fail
  refine HE7.out.mono ?_;rintro e wG ⟨rfl,gG⟩;have HIT:=aa (HR7.out wG gG);have HWH:=aa (H8.out wG gG);clear HE7 i0 e0 e1 ef gG HR7 H8;go_wp2_with fail
  refine (HIT.out wG (ZV _ _)).mono ?_;rintro e wH ⟨rfl,hH⟩;have HX:=aa (HWH.out wH hH);clear HIT HWH hH;go_wp2_with fail
  refine HX.out.mono ?_;rintro e wI ⟨⟨v,rfl⟩,hZ⟩;go_wp2_with fail
  go_end0;exact hZ
theorem jA.own {B r c:Nat} {ti:ByteArray} {vp vm:Value} {starts:List Nat} {w:World} {S:Bl} (h:jA B r c ti vp vm starts w S):S r:=by
 obtain ⟨vs,S1,S3,hc,hb,o1,rfl⟩:=h;exact .inl (by rw [hc.1];rfl)
theorem dq.own {B r c p:Nat} {s ti:ByteArray} {vp vm:Value} {starts:List Nat} {w:World} {S:Bl} (h:dq B r c s p ti vp vm starts w S):S r:=by
 obtain ⟨S1,S2,h1,_,_,rfl⟩:=h;exact .inl h1.own
theorem jA.pages {B r c:Nat} {ti:ByteArray} {vp vm:Value} {starts:List Nat} {w:World} {S:Bl} (h:jA B r c ti vp vm starts w S) (v:Value):∃ S',jA B r c ti v vm starts (w.setCell (zq r 2) v) S'/\Mv S w S' (w.setCell (zq r 2) v):=by
 obtain ⟨vs,h⟩:=h;obtain ⟨Sc,hc1,_,k2⟩:=h.fst (aW.thing B _ _ _ _ _);obtain ⟨hc2,hm2⟩:=hc1.set 2 v (by simp);obtain ⟨S'',hs'',hm''⟩:=k2 _ _ _ hc2 hm2;exact ⟨S'',⟨vs,hs''⟩,hm''⟩
theorem dq.pages {B r c p:Nat} {s ti:ByteArray} {vp vm:Value} {starts:List Nat} {w:World} {S:Bl} (h:dq B r c s p ti vp vm starts w S) (v:Value):∃ S',dq B r c s p ti v vm starts (w.setCell (zq r 2) v) S'/\Mv S w S' (w.setCell (zq r 2) v):=by
 obtain ⟨S1,hR,_,k⟩:=h.fst (aS.thing B c _);obtain ⟨S1',hR',m'⟩:=hR.pages v;exact k _ _ _ hR' m'
theorem dq.goto {B r c p p':Nat} {s ti:ByteArray} {vp vm:Value} {starts:List Nat} {w:World} {S:Bl} {z:Int} (h:dq B r c s p ti vp vm starts w S) (hz:z=(p':Int)):∃ S',dq B r c s p' ti vp vm starts (w.setCell (zq c 1) z) S'/\Mv S w S' (w.setCell (zq c 1) z):=by
 obtain ⟨S2,hC,_,k⟩:=h.snd (jA.thing B r c ti vp vm starts);obtain ⟨g1,m1⟩:=aZ.put hC (b:=p') hz;exact k _ _ _ g1 m1
theorem dq.cur {B r c p:Nat} {s ti:ByteArray} {vp vm:Value} {starts:List Nat} {w:World} {S:Bl} (h:dq B r c s p ti vp vm starts w S):∃ S2,aZ B c s p w S2:=by
 obtain ⟨S2,hC,_,_⟩:=h.snd (jA.thing B r c ti vp vm starts);exact ⟨S2,hC⟩
def fZ (B r c:Nat) (s:ByteArray) (p:Nat) (ti:ByteArray) (vp vm:Value) (starts:List Nat) (N:Nat) (pc:List Value):As:=ah (dq B r c s p ti vp vm starts) (aW B 100 3 vp N pc)
theorem fZ.thing (B r c:Nat) (s:ByteArray) (p:Nat) (ti:ByteArray) (vp vm:Value) (starts:List Nat) (N:Nat) (pc:List Value):aJ B (fZ B r c s p ti vp vm starts N pc):=ah.thing (dq.thing _ _ _ _ _ _ _ _ _) (aW.thing _ _ _ _ _ _)
theorem fZ.put {B r c p:Nat} {s ti:ByteArray} {vp vm:Value} {starts:List Nat} {N:Nat} {pc pc':List Value} {w:World} {S:Bl} (h:fZ B r c s p ti vp vm starts N pc w S) (w1:World) (hg1:Below w w w1) (v':Value) (w':World) (hg:w1.grownBy w' vp.ownBlock) (ho:w'.ownsRow B 100 3 v' (N+1) pc') (hat:v'.ownBlock=vp.ownBlock\/v'.ownBlock=some w1.heap.size):
  ∃ S',fZ B r c s p ti v' vm starts (N+1) pc' (w'.setCell (zq r 2) v') S'/\Mv S w S' (w'.setCell (zq r 2) v'):=by
 have h1:=(fZ.thing B r c s p ti vp vm starts N pc).grow h hg1;obtain ⟨Sb,hb1,_,k1⟩:=ah.snd (dq.thing B r c s p ti vp vm starts) h1;obtain ⟨hr,hm⟩:=aW.moved (n':=N+1) hg ho hat;have eb:Sb=ob vp:=hb1.1;subst eb;obtain ⟨S',hs',hm'⟩:=k1 (aW B 100 3 v' (N+1) pc') w' _ hr hm;obtain ⟨Sc,hc1,_,k2⟩:=hs'.fst (aW.thing B _ _ _ _ _);obtain ⟨Sd,hc2,hm2⟩:=hc1.pages v';obtain ⟨S'',hs'',hm''⟩:=k2 _ _ _ hc2 hm2;exact ⟨S'',hs'',((Mv.grow hg1 _).trans hm').trans hm''⟩
theorem rg (w:World) (B r c p i:Nat) (s ti:ByteArray) (vp vm:Value) (starts:List Nat) (N:Nat) (pc:List Value) (S:Bl) (h:fZ B r c s p ti vp vm starts N pc w S) (hB:B<=w.heap.size) (ht:bU B w) (hs:s.size<=2000000000) (hN:N<=1000) (hi:i<=1000) (hst:starts.length=2*i) (Zp:List UInt8) (os:List bj) (hun:Pm.bP Zp=some (bE os,Zp.length)) (hol:(bE os).length<=1048576) (hos:∀ o∈os,o.is) (hg:au s p (d_ i Zp)):
  CP 116 #[zp r] w fun e w'=>e=.returned (.tuple #[])/\∃ vp' vo S',ah (aW B 31 9 vo os.length (k_ os)) (fZ B r c s (p+(d_ i Zp).length) ti vp' vm (starts++kc p i Zp) (N+1) (pc++[.int .i64 0,.int .i64 0,vo])) w' S'/\Mv S w S' w':=by
 have hle:=hg.le;have hT:=fZ.thing B r c s p ti vp vm starts N pc;have hbel:∀ {S' w'},Mv S w S' w'->Below B w w':=fun m=>m.below (fun k e=>hT.ge h e) hB
 have hn1:starts.length+1=2*i+1:=by omega
 have g1:au s p (aL (2*i+1)):=hg.left;have g2:=hg.right;have g3:=g2.right;have g4:=g3.right;have g5:=g4.right;obtain ⟨p1,hp1⟩:∃ p1,p1=p+(aL (2*i+1)).length:=⟨_,rfl⟩;rw [<-hp1] at g2 g3 g4 g5;obtain ⟨p2,hp2⟩:∃ p2,p2=p1+(cX (2*i+2)).length:=⟨_,rfl⟩;rw [<-hp2] at g3 g4 g5;have hz3:=g3.le;have hz3':=g3.left.le;have hnat:(((2*i+1:Nat):Int)+1)=((2*i+2:Nat):Int):=by omega
 have hnl:(aD ((2*i+2:Nat):Int)).length<=30:=by
  have:=av ((2*i+2:Nat):Int) (by omega) (by omega);rw [aD,ZZ];simp only [ZY,ZW];omega
 have hpe:p+(aL (starts.length+1)).length=p1:=by rw [hp1,hn1]
 have hext:(s.extract p2 s.size).data.toList=Zp++(s.data.toList.drop (p2+Zp.length)):=by
  obtain ⟨Pf,R,e,hl⟩:=g3;rw [YA,XZ];simp only [List.extract];rw [ZF (by simp),e, <-hl,List.drop_left, <-List.drop_drop,List.drop_left,ZQ,ZQ,List.drop_left]
 refine pD w B r c (2*i+1) p2 Zp.length N s ⟨(bE os).toArray⟩ (aD ((2*i+2:Nat):Int)) (cX (2*i+2)) hnl rfl vp pc
  (fun w'=>∃ S',fZ B r c s p1 ti vp vm (starts++[p]) N pc w' S'/\Mv S w S' w')
  (fun w'=>∃ S',fZ B r c s p2 ti vp vm (starts++[p]) N pc w' S'/\Mv S w S' w')
  (fun v w'=>∃ S',ah (aW B 31 9 v os.length (k_ os)) (fZ B r c s p2 ti vp vm (starts++[p]) N pc) w' S'/\Mv S w S' w')
  (fun w'=>∃ vp' v S',ah (aW B 31 9 v os.length (k_ os)) (fZ B r c s p2 ti vp' vm (starts++[p]) (N+1) (pc++[.int .i64 0,.int .i64 0,v])) w' S'/\Mv S w S' w')
  (fun w'=>∃ vp' v S',ah (aW B 31 9 v os.length (k_ os)) (fZ B r c s (p2+Zp.length) ti vp' vm (starts++[p]) (N+1) (pc++[.int .i64 0,.int .i64 0,v])) w' S'/\Mv S w S' w')
  (fun w'=>∃ vp' v S',ah (aW B 31 9 v os.length (k_ os)) (fZ B r c s (p2+Zp.length+fC.length) ti vp' vm (starts++[p]) (N+1) (pc++[.int .i64 0,.int .i64 0,v])) w' S'/\Mv S w S' w')
  _ hs (by omega) (by omega) (by omega) hN ?_ ?_ ?_ ?_ ?_ ?_ ?_ ?_ ?_ ?_ ?_ ?_ ?_ ?_ ?_
 ·obtain ⟨S1,hR,_,k⟩:=ah.fst (aW.thing B _ _ _ _ _) h;refine (gp w B r c p s ti vp vm starts S1 hR hB ht hs (by omega) (by rw [hn1];exact g1)).mono ?_;rintro e w1 ⟨rfl,S',h',m'⟩;obtain ⟨S'',h'',m''⟩:=k _ _ _ h' m';rw [hpe] at h'';exact ⟨by rw [hn1],S'',h'',m''⟩
 ·rintro w1 ⟨S1,h1,m1⟩;obtain ⟨S2,hR,_,_⟩:=ah.fst (aW.thing B _ _ _ _ _) h1;obtain ⟨ad,cap,c0,_,_,_,_,_,hr⟩:=hR.read;exact ⟨c0,hr⟩
 ·rintro w1 ⟨S1,h1,m1⟩ w2 hg2;rw [hnat];exact cE B w2 _ (by omega) (by omega) ((ht.on (hbel m1)).on (hg2.mono (ZN hB m1.size)))
 ·rintro w1 ⟨S1,h1,m1⟩ w2 hg2;have h2:=(fZ.thing B r c s p1 ti vp vm (starts++[p]) N pc).grow h1 hg2;obtain ⟨S2,hR,_,k⟩:=ah.fst (aW.thing B _ _ _ _ _) h2;refine (hR.eat hs (cX (2*i+2)) g2.left).mono ?_;rintro e w3 ⟨rfl,S',h',m'⟩;obtain ⟨S'',h'',m''⟩:=k _ _ _ h' m';rw [<-hp2] at h'';exact ⟨rfl,S'',h'',(m1.trans (Mv.grow hg2 _)).trans m''⟩
 ·rintro w1 ⟨S1,h1,m1⟩;obtain ⟨S2,hR,_,_⟩:=ah.fst (aW.thing B _ _ _ _ _) h1;obtain ⟨ad,cap,c0,_,_,_,_,_,hr⟩:=hR.read;obtain ⟨S3,hC⟩:=hR.cur;exact ⟨c0,hC.at 0 _ rfl,hC.at 1 _ rfl,hC.at 2 _ rfl,hr,hC.2.2.1⟩
 ·rintro w1 ⟨S1,h1,m1⟩ w2 hg2;have hu:=nW w2 (s.extract p2 s.size) (by simp;omega);rw [hext,(Pm.us Zp _ hun).1] at hu;exact hu
 ·rintro w1 ⟨S1,h1,m1⟩ w2 hg2;have h2:=(fZ.thing B r c s p2 ti vp vm (starts++[p]) N pc).grow h1 hg2;have hB2:B<=w2.heap.size:=ZN hB (ZN m1.size hg2.size);refine (Ac w2 B ⟨(bE os).toArray⟩ os hB2 ((ht.on (hbel m1)).on (hg2.mono (ZN hB m1.size))) (by rw [ae];exact hol) hos (by simp)).mono ?_;rintro e w3 ⟨v,rfl,ow,hb3⟩;obtain ⟨ad,m,cap,hv⟩:∃ ad m cap,v=.slice ad m cap:=by
   rcases ow.2 with ⟨hu,_⟩ | ⟨gg,cap,cur,hu,_⟩
   ·exact ⟨_,_,_,hu⟩
   ·exact ⟨_,_,_,hu⟩
  subst hv;have hrow:aW B 31 9 (.slice ad m cap) os.length (k_ os) w3 (ob (.slice ad m cap)):=⟨rfl,ow.mono (by omega)⟩;obtain ⟨hst,hm⟩:=ah.new (fZ.thing B r c s p2 ti vp vm (starts++[p]) N pc) h2 hrow hb3 (fun k e=>by have:=(ow.lt k e).1;omega);exact ⟨ad,m,cap,rfl,_,hst,(m1.trans (Mv.grow hg2 _)).trans hm⟩
 ·rintro v w1 ⟨S1,h1,m1⟩;obtain ⟨S2,hP,_,_⟩:=ah.snd (aW.thing B _ _ _ _ _) h1;obtain ⟨Sa,Sb,hR,hW,off,rfl⟩:=hP;obtain ⟨ad,cap,c0,_,c2,_,_,fz,hr⟩:=hR.read;refine ⟨c2,fz,hr,ZN hB m1.size,hW.2,fun e=>off r hR.own ?_⟩;rw [hW.1];exact e
 ·rintro v w1 ⟨S1,h1,m1⟩ w2 hg2 v' w' hg' ho hat;obtain ⟨S2,hP,_,k⟩:=ah.snd (aW.thing B _ _ _ _ _) h1;obtain ⟨S3,hP',m'⟩:=hP.put w2 hg2 v' w' hg' ho hat;obtain ⟨S4,h4,m4⟩:=k _ _ _ hP' m';exact ⟨v',v,S4,h4,m1.trans m4⟩
 ·rintro w1 ⟨vp',v,S1,h1,m1⟩;obtain ⟨S2,hP,_,_⟩:=ah.snd (aW.thing B _ _ _ _ _) h1;obtain ⟨S3,hR,_,_⟩:=ah.fst (aW.thing B _ _ _ _ _) hP;obtain ⟨ad,cap,c0,_,_,_,_,_,hr⟩:=hR.read;obtain ⟨S4,hC⟩:=hR.cur;exact ⟨c0,hC.at 1 _ rfl,hC.fz 1⟩
 ·rintro w1 ⟨vp',v,S1,h1,m1⟩ q;have h2:=(ah.thing (aW.thing B _ _ _ _ _) (fZ.thing B r c s p2 ti vp' vm (starts++[p]) (N+1) (pc++[.int .i64 0,.int .i64 0,v]))).drewN h1 q;obtain ⟨S2,hP,_,k⟩:=ah.snd (aW.thing B _ _ _ _ _) h2;obtain ⟨S3,hR,_,k2⟩:=ah.fst (aW.thing B _ _ _ _ _) hP;obtain ⟨S4,hR',m'⟩:=hR.goto (p':=p2+Zp.length) (z:=(p2:Int)+(Zp.length:Int)) (by omega);obtain ⟨S5,h5,m5⟩:=k2 _ _ _ hR' m';obtain ⟨S6,h6,m6⟩:=k _ _ _ h5 m5;exact ⟨vp',v,S6,h6,(m1.drewN q).trans m6⟩
 ·rintro w1 ⟨vp',v,S1,h1,m1⟩;obtain ⟨S2,hP,_,_⟩:=ah.snd (aW.thing B _ _ _ _ _) h1;obtain ⟨S3,hR,_,_⟩:=ah.fst (aW.thing B _ _ _ _ _) hP;obtain ⟨ad,cap,c0,_,_,_,_,_,hr⟩:=hR.read;exact c0
 ·rintro w1 ⟨vp',v,S1,h1,m1⟩;obtain ⟨S2,hP,_,k⟩:=ah.snd (aW.thing B _ _ _ _ _) h1;obtain ⟨S3,hR,_,k2⟩:=ah.fst (aW.thing B _ _ _ _ _) hP;refine (hR.eat hs fC g4.left).mono ?_;rintro e w3 ⟨rfl,S',h',m'⟩;obtain ⟨S5,h5,m5⟩:=k2 _ _ _ h' m';obtain ⟨S6,h6,m6⟩:=k _ _ _ h5 m5;exact ⟨rfl,vp',v,S6,h6,m1.trans m6⟩
 ·rintro w1 ⟨vp',v,S1,h1,m1⟩ w2 hg2;exact bp B w2 _ (by omega) (by omega) ((ht.on (hbel m1)).on (hg2.mono (ZN hB m1.size)))
 ·rintro w1 ⟨vp',v,S1,h1,m1⟩ w2 hg2;have h2:=(ah.thing (aW.thing B _ _ _ _ _) (fZ.thing B r c s (p2+Zp.length+fC.length) ti vp' vm (starts++[p]) (N+1) (pc++[.int .i64 0,.int .i64 0,v]))).grow h1 hg2;obtain ⟨S2,hP,_,k⟩:=ah.snd (aW.thing B _ _ _ _ _) h2;obtain ⟨S3,hR,_,k2⟩:=ah.fst (aW.thing B _ _ _ _ _) hP;have hl2:(starts++[p]).length+1=2*i+2:=by simp;omega
  refine (g_ w2 B r c _ s ti vp' vm (starts++[p]) S3 (Lib.itoa (Zp.length:Int)) (by have:=av (Zp.length:Int) (by omega) (by omega);omega) hR (ZN hB (ZN m1.size hg2.size)) ((ht.on (hbel m1)).on (hg2.mono (ZN hB m1.size))) hs (by simp;omega) (by rw [hl2];exact g5)).mono ?_;rintro e w3 ⟨rfl,S',h',m'⟩;obtain ⟨S5,h5,m5⟩:=k2 _ _ _ h' m';obtain ⟨S6,h6,m6⟩:=k _ _ _ h5 m5;refine ⟨⟨_,rfl⟩,rfl,vp',v,S6,?_,(m1.trans (Mv.grow hg2 _)).trans m6⟩;have e1:p+(d_ i Zp).length=p2+Zp.length+fC.length+(aK ((starts++[p]).length+1) (Lib.itoa (Zp.length:Int))).length:=by
   rw [hl2,hp2,hp1];simp only [d_,ZZ];omega
  have e2:starts++kc p i Zp=(starts++[p])++[p2+Zp.length+fC.length]:=by
   simp only [kc,ZQ,Zy,Yx];congr 3;rw [hp2,hp1];simp only [ZZ];omega
  rw [e1,e2];exact h6
def BJ:As:=fun _ S=>S=fun _=>False
theorem BJ.thing (B:Nat):aJ B BJ where
 keep:=by rintro w w' S h _ _;exact h
 lt:=by rintro w S k rfl hk;exact hk.elim
 ge:=by rintro w S k rfl hk;exact hk.elim
def dh (B:Nat):List (Value×List bj)->As
 | []=>BJ
 | x::l=>ah (dh B l) (aW B 31 9 x.1 x.2.length (k_ x.2))
theorem dh.thing (B:Nat):∀ l,aJ B (dh B l)
 | []=>BJ.thing B
 | _::l=>ah.thing (dh.thing B l) (aW.thing _ _ _ _ _ _)
def xR:List (Value×List bj)->List Value
 | []=>[]
 | x::l=>xR l++[.int .i64 0,.int .i64 0,x.1]
theorem sO (w:World) (s:ByteArray) (c r n:Nat) (hc:c=w.heap.size) (hr:r=w.heap.size+1) (hn:n<=80) (I:Nat->World->Prop)
  (H0:Hid (CP 114 #[zp c,.string ⟨#[37,80,68,70,45,49,46,55,10]⟩] ((w.alloc (.cells #[s,oz,false] 110)).alloc (.cells #[zp c,.string ⟨#[]⟩,.slice none 0 0,.slice none 0 0,.slice none 0 0] 114)) fun e w'=>e=.returned (.tuple #[])/\I 0 w'))
  (F:Hid (∀ k w1,I k w1->w1.cell? r=some (.pointer (some ⟨c,0,none⟩))/\w1.cell? (zq c 2)=some (.bool false)/\∃ ad cap,w1.cell? (zq r 2)=some (.slice ad k cap)))
  (HS:Hid (∀ k w1,k < n->I k w1->CP 115 #[zp r,.string ⟨#[60,60,32,47,70,105,108,116,101,114]⟩] w1 fun e w'=>e=.returned true/\I k w'))
  (HC:Hid (∀ k w1,k < n->I k w1->CP 116 #[zp r] w1 fun e w'=>e=.returned (.tuple #[])/\I (k+1) w'))
  (HE:Hid (∀ w1,I n w1->CP 115 #[zp r,.string ⟨#[60,60,32,47,70,105,108,116,101,114]⟩] w1 fun e w'=>e=.returned false/\I n w'))
  (HD:Hid (∀ w1 q,I n w1->I n (w1.drewN q))):
  CP 67 #[s] w fun e w'=>e=.returned (.tuple #[zp r,true])/\I n w':=by
 go_enter func67,ntmps67
 go_wp2_with fail
 rw [<-hr, <-hc];clear hr hc;refine H0.out.mono ?_;rintro e w0 ⟨rfl,h0⟩;clear H0;go_wp2_with fail
 go_loopg [5] (n+1) (fun g _ wr=>∃ k,k<=n/\n - k < g/\I k wr)
 case atStart=>exact ⟨0,by omega,by omega,h0⟩
 case round=>
  obtain ⟨k,hk,hg,hI⟩:=hrel;clear h0;obtain ⟨f0,f1,ad,cap,f2⟩:=F.out k wr hI;have d1:decide ((k:Int)<=80)=true:=by simp;omega
  by_cases hlt:k < n
  ·have HX:=aa (HS.out k wr hlt hI);go_wp2_with fail
   refine HX.out.mono ?_;rintro e w1 ⟨rfl,h1⟩;have HY:=aa (HC.out k w1 hlt h1);clear HX hI h1 f0 f1 f2;go_wp2_with fail
   refine HY.out.mono ?_;rintro e w2 ⟨rfl,h2⟩;clear HY;go_wp2_with fail
   go_roundg (gk - 1)
   case measure=>omega
   case rel=>exact ⟨k+1,by omega,by omega,h2⟩
  ·have hkn:k=n:=by omega
   subst hkn;have HX:=aa (HE.out wr hI);go_wp2_with fail
   refine HX.out.mono ?_;rintro e w1 ⟨rfl,h1⟩;clear HX hI f0 f1 f2;obtain ⟨f0,f1,ad,cap,f2⟩:=F.out k w1 h1;go_wp2_with fail
   go_quiet (fail)
   go_wp2_with fail
   go_ret2;exact ⟨rfl,HD.out _ _ h1⟩
theorem ny (i:Nat) (l m:List (List UInt8)):bW i (l++m)=bW i l++bW (i+l.length) m:=by
 induction l generalizing i with
 | nil=>simp [bW]
 | cons a r ih=>simp only [Zy,bW,ih,ZY,ZQ];congr 3;omega
theorem qJ (Zs:List (List UInt8)) (k:Nat) (hk:k < Zs.length):∃ X,aC Zs=aC (Zs.take k)++(d_ k Zs[k]++X):=by
 have e:Zs=Zs.take k++(Zs[k]::Zs.drop (k+1)):=by rw [<-YZ hk,YI]
 refine ⟨bW (k+1) (Zs.drop (k+1)),?_⟩;have h2:=ny 0 (Zs.take k) (Zs[k]::Zs.drop (k+1));rw [<-e] at h2;unfold aC;rw [h2,Zx,Zr (Yu hk),bW,Zc];simp
theorem wo (Zs:List (List UInt8)) (k:Nat) (hk:k < Zs.length):(aC (Zs.take (k+1))).length=(aC (Zs.take k)).length+(d_ k Zs[k]).length:=by
 unfold aC;rw [ZH hk,lG,Zx,Zr (Yu hk),Zc];simp only [ZZ];omega
theorem sv (Zs:List (List UInt8)) (k:Nat) (hk:k < Zs.length):be 9 0 (Zs.take (k+1))=be 9 0 (Zs.take k)++kc (aC (Zs.take k)).length k Zs[k]:=by
 rw [ZH hk,lF,Zx,Zr (Yu hk),Zc];congr 2;simp [aC,cm];omega
theorem pU (S:Bl):oo S (ob (.slice none 0 0)):=fun k _ e=>by
 have e:(none:Option Nat)=some k:=e
 cases e
def uq (B:Nat) (w:World) (s:ByteArray) (xs:List (List UInt8×List bj)) (k:Nat) (w':World):Prop:=
 ∃ vp l S',ah (dh B l) (fZ B (w.heap.size+1) w.heap.size s (aC ((xs.map (·.1)).take k)).length ⟨#[]⟩ vp (.slice none 0 0) (be 9 0 ((xs.map (·.1)).take k)) k (xR l)) w' S'/\l.map (·.2)=((xs.take k).map (·.2)).reverse/\Mv (fun _=>False) w S' w'
theorem nC (w:World) (B:Nat) (s:ByteArray) (xs:List (List UInt8×List bj)) (R:List UInt8) (hB:B<=w.heap.size) (ht:bU B w) (hs:s.size<=2000000000) (hn:xs.length<=80) (hse:s.data.toList=aC (xs.map (·.1))++R)
  (hok:∀ x∈xs,Pm.bP x.1=some (bE x.2,x.1.length)/\(bE x.2).length<=1048576/\∀ o∈x.2,o.is)
  (hno:¬ au s (aC (xs.map (·.1))).length (aL (2*xs.length+1)++[60,60,32,47,70,105,108,116,101,114])):
  CP 67 #[s] w fun e w'=>e=.returned (.tuple #[zp (w.heap.size+1),true])/\uq B w s xs xs.length w':=by
 have hml:(xs.map (·.1)).length=xs.length:=by simp
 have hstl:∀ k,k<=xs.length->(be 9 0 ((xs.map (·.1)).take k)).length=2*k:=fun k hk=>by rw [dy,Zx,hml];omega
 have hple:∀ k,k<=xs.length->(aC ((xs.map (·.1)).take k)).length<=s.size:=by
  intro k hk;rw [<-aP s,hse];have e:=ny 0 ((xs.map (·.1)).take k) ((xs.map (·.1)).drop k);rw [YI] at e;simp only [aC,e,ZZ];omega
 have hTb:∀ {S' w'},Mv (fun _=>False) w S' w'->bU B w':=fun m=>ht.on (m.below (fun _ e=>e.elim) hB)
 refine sO w s w.heap.size (w.heap.size+1) xs.length rfl rfl hn (uq B w s xs) ?_ ?_ ?_ ?_ ?_ ?_
 ·have hC:aZ B w.heap.size s 0 (w.alloc (.cells #[s,oz,false] 110)) (cC w.heap.size):=aS.alloc (vs:=[.string s,.int .i64 0,.bool false]) hB;have hsz:(w.alloc (.cells #[s,oz,false] 110)).heap.size=w.heap.size+1:=by simp
  have hRc:=aS.alloc (B:=B) (vs:=[.pointer (some ⟨w,0,none⟩),.string ⟨#[]⟩,.slice none 0 0,.slice none 0 0,.slice none 0 0]) (t:=114) (w:=w.alloc (.cells #[s,oz,false] 110)) (by omega);rw [hsz] at hRc;have hRB:jA B (w.heap.size+1) w.heap.size ⟨#[]⟩ (.slice none 0 0) (.slice none 0 0) [] ((w.alloc (.cells #[s,oz,false] 110)).alloc (.cells #[zp w.heap.size,.string ⟨#[]⟩,.slice none 0 0,.slice none 0 0,.slice none 0 0] 114)) (cT (cC (w.heap.size+1)) (ob (.slice none 0 0))):=
   ⟨.slice none 0 0,_,_,hRc,aW.nil B 3 1 _,pU _,rfl⟩
  obtain ⟨hRD,mRD⟩:=ah.new (aS.thing B _ _) hC hRB ((ZV _ _).alloc (ZX _) _) (fun k e=>by
   rcases e with e | e
   ·have:k=w.heap.size+1:=e;omega
   ·have e:(none:Option Nat)=some k:=e;cases e)
  have hle9:au s 0 cm:=⟨[],bW 0 (xs.map (·.1))++R,by rw [hse];simp [aC],rfl⟩;refine (dq.eat (ti:=⟨#[]⟩) (vp:=.slice none 0 0) (vm:=.slice none 0 0) (starts:=[]) hRD hs cm hle9).mono ?_;rintro e w1 ⟨rfl,S1,h1,m1⟩;refine ⟨rfl,.slice none 0 0,[],cT (fun _=>False) (cT S1 (ob (.slice none 0 0))),?_,rfl,?_⟩
  ·refine ⟨_,_,rfl,⟨S1,_,?_,aW.nil B 100 3 w1,pU _,rfl⟩,fun k e=>e.elim,rfl⟩;have e9:(aC ((xs.map (·.1)).take 0)).length=0+cm.length:=by simp [aC,bW]
   rw [e9];exact h1
  ·have m0:Mv (fun _=>False) w (cC w.heap.size) (w.alloc (.cells #[s,oz,false] 110)):=⟨(Mv.grow ((ZV _ w).alloc (ZX _) _) (fun _=>False)).fr,fun k e=>.inr (by have:k=w.heap.size:=e;omega)⟩;have m2:=(m0.trans mRD).trans m1;refine ⟨m2.fr,fun k e=>?_⟩;rcases e with e | e | e
   ·exact e.elim
   ·exact m2.new k e
   ·have e:(none:Option Nat)=some k:=e;cases e
 ·rintro k w1 ⟨vp,l,S1,h1,_,m1⟩;obtain ⟨S2,hP,_,_⟩:=ah.snd (dh.thing B l) h1;obtain ⟨Sa,Sb,hR,hW,off,rfl⟩:=hP;obtain ⟨ad,cap,c0,_,c2,_,_,fz,hr⟩:=hR.read;obtain ⟨S3,hC⟩:=hR.cur;obtain ⟨ad',cap',rfl⟩:=hW.form;exact ⟨c0,hC.at 2 _ rfl,ad',cap',c2⟩
 ·rintro k w1 hk ⟨vp,l,S1,h1,hl,m1⟩;obtain ⟨S2,hP,_,k2⟩:=ah.snd (dh.thing B l) h1;obtain ⟨S3,hR,_,k3⟩:=ah.fst (aW.thing B _ _ _ _ _) hP;have hkz:k < (xs.map (·.1)).length:=by rw [hml];exact hk
  obtain ⟨X,hX⟩:=qJ (xs.map (·.1)) k hkz;have hgo:au s (aC ((xs.map (·.1)).take k)).length (d_ k (xs.map (·.1))[k]):=⟨_,X++R,by rw [hse,hX];simp,rfl⟩;obtain ⟨Zk,hZk⟩:∃ Zk,(xs.map (·.1))[k]=Zk:=⟨_,rfl⟩;rw [hZk] at hgo;refine (hR.seen (ZN hB m1.size) (hTb m1) hs (by rw [hstl k (by omega)];omega) (hple k (by omega)) [60,60,32,47,70,105,108,116,101,114] (by decide) true ⟨fun _=>?_,fun _=>rfl⟩).mono ?_
  ·rw [hstl k (by omega)];have g2:au s (aC ((xs.map (·.1)).take k)).length ((aL (2*k+1)++[60,60,32,47,70,105,108,116,101,114])++([32,47,70,108,97,116,101,68,101,99,111,100,101,32,47,76,101,110,103,116,104,32]++aD ((2*k+2:Nat):Int)++[32,62,62,10,115,116,114,101,97,109,10])):=by
    have g3:au s (aC ((xs.map (·.1)).take k)).length ((aL (2*k+1)++cX (2*k+2))++(Zk++(fC++aK (2*k+2) (Lib.itoa (Zk.length:Int))))):=by
     have:=hgo;unfold d_ at this;rw [ZQ];exact this
    have g4:=g3.left;simpa [cX] using g4
   exact g2.left
  ·rintro e w2 ⟨rfl,S',h',m'⟩;obtain ⟨S5,h5,m5⟩:=k3 _ _ _ h' m';obtain ⟨S6,h6,m6⟩:=k2 _ _ _ h5 m5;exact ⟨rfl,vp,l,S6,h6,hl,m1.trans m6⟩
 ·rintro k w1 hk ⟨vp,l,S1,h1,hl,m1⟩;obtain ⟨S2,hP,_,k2⟩:=ah.snd (dh.thing B l) h1;have hkz:k < (xs.map (·.1)).length:=by rw [hml];exact hk
  obtain ⟨X,hX⟩:=qJ (xs.map (·.1)) k hkz;have hgo:au s (aC ((xs.map (·.1)).take k)).length (d_ k (xs.map (·.1))[k]):=⟨_,X++R,by rw [hse,hX];simp,rfl⟩;have hke:(xs.map (·.1))[k]=xs[k].1:=by simp
  obtain ⟨o1,o2,o3⟩:=hok xs[k] (YK hk);refine (rg w1 B _ _ _ k s _ vp _ _ k (xR l) S2 hP (ZN hB m1.size) (hTb m1) hs (by omega) (by omega) (hstl k (by omega)) xs[k].1 xs[k].2 o1 o2 o3 (by rw [<-hke];exact hgo)).mono ?_;rintro e w2 ⟨rfl,vp',vo,S',h',m'⟩;obtain ⟨S6,h6,m6⟩:=k2 _ _ _ h' m';refine ⟨rfl,vp',(vo,xs[k].2)::l,S6,?_,?_,m1.trans m6⟩
  ·have h7:=ah.assocR h6;rw [wo _ k hkz,sv _ k hkz,hke];exact h7
  ·rw [YC,hl,ZH hk,XQ,List.reverse_append];rfl
 ·rintro w1 ⟨vp,l,S1,h1,hl,m1⟩;obtain ⟨S2,hP,_,k2⟩:=ah.snd (dh.thing B l) h1;obtain ⟨S3,hR,_,k3⟩:=ah.fst (aW.thing B _ _ _ _ _) hP;refine (hR.seen (ZN hB m1.size) (hTb m1) hs (by rw [hstl _ (ZX _)];omega) (hple _ (ZX _)) [60,60,32,47,70,105,108,116,101,114] (by decide) false ⟨fun h=>by simp at h,fun g=>?_⟩).mono ?_
  ·rw [hstl _ (ZX _)] at g;have et:(xs.map (·.1)).take xs.length=xs.map (·.1):=ZF (by simp);rw [et] at g;exact absurd g hno
  ·rintro e w2 ⟨rfl,S',h',m'⟩;obtain ⟨S5,h5,m5⟩:=k3 _ _ _ h' m';obtain ⟨S6,h6,m6⟩:=k2 _ _ _ h5 m5;exact ⟨rfl,vp,l,S6,h6,hl,m1.trans m6⟩
 ·rintro w1 q ⟨vp,l,S1,h1,hl,m1⟩;exact ⟨vp,l,S1,(ah.thing (dh.thing B l) (fZ.thing _ _ _ _ _ _ _ _ _ _ _)).drewN h1 q,hl,m1.drewN q⟩
theorem t8 (B:Nat) (w:World) (i many first:Nat) (leaf:Bool) (ht:bU B w) (hi:i<=1000) (hm:many<=1000) (hf:first<=1000000) (hl:leaf=true\/1 < many) (n:Int) (hn:Hid (n=((first+many+i / 8:Nat):Int))):
  QB 118 #[(i:Int),(many:Int),(first:Int),leaf] w (.string ⟨([47,80,97,114,101,110,116,32]++aD n++[32]).toArray⟩):=by
 have HR:=aa (cE B w n (by have:=hn.out;omega) (by have:=hn.out;omega) ht);have hnl:(aD n).length<=30:=by
  have:=av n (by have:=hn.out;omega) (by have:=hn.out;omega);rw [aD,ZZ];simp only [ZY,ZW];omega
 have en:(first:Int)+(many:Int)+(i:Int) / 8=n:=by rw [hn.out];omega
 obtain ⟨nm,hnm⟩:∃ nm,aD n=nm:=⟨_,rfl⟩;rw [hnm] at HR hnl ⊢;have hz:=ae nm;clear hnm;rcases hl with rfl | hl
 ·by_cases h1:many<=1
  ·have d1:decide ((many:Int)<=1)=true:=by simp;omega
   go_enter func118,ntmps118
   go_wp2_with fail
   refine HR.out.mono ?_;rintro e w1 ⟨rfl,hB1⟩;go_wp2_with fail
   go_ret;refine ⟨b8 ?_,hB1⟩;simp
  ·have d1:decide ((many:Int)<=1)=false:=by simp;omega
   go_enter func118,ntmps118
   go_wp2_with fail
   refine HR.out.mono ?_;rintro e w1 ⟨rfl,hB1⟩;go_wp2_with fail
   go_ret;refine ⟨b8 ?_,hB1⟩;simp
 ·have d1:decide ((many:Int)<=1)=false:=by simp;omega
  have h1:¬ many<=1:=by omega
  go_enter func118,ntmps118
  go_wp2_with fail
  refine HR.out.mono ?_;rintro e w1 ⟨rfl,hB1⟩;go_wp2_with fail
  go_ret;refine ⟨b8 ?_,hB1⟩;simp
theorem uj (w:World) (i many first:Nat) (hm:many<=1):
  QE 118 #[(i:Int),(many:Int),(first:Int),false] w (.string ⟨#[]⟩):=by
 have d1:decide ((many:Int)<=1)=true:=by simp;omega
 go_enter func118,ntmps118
 go_wp2_with fail
 go_ret;exact ⟨rfl,rfl⟩
theorem kV (B:Nat) (w:World) (i many first:Nat) (leaf:Bool) (ht:bU B w) (hi:i<=1000) (hm:many<=1000) (hf:first<=1000000) (hf0:0 < first):
  QB 118 #[(i:Int),(many:Int),(first:Int),leaf] w (.string ⟨(bt [47,80,97,114,101,110,116] (if leaf=true\/1 < many then ((first+many+i / 8:Nat):Int) else 0)).toArray⟩):=by
 by_cases h:leaf=true\/1 < many
 ·rw [ZO h,bt,ZU (by omega)];exact t8 B w i many first leaf ht hi hm hf h _ rfl
 ·rw [ZU h,bt,ZO rfl];have h1:leaf=false:=by cases leaf <;> simp_all
  subst h1;refine (uj w i many first (by simp at h;omega)).mono ?_;rintro e w' ⟨rfl,rfl⟩;exact ⟨rfl,ZV _ _⟩
theorem y9 (w:World) (r:Nat) (Z:Ending->World->Prop)
  (H1:Hid (CP 115 #[zp r,.string ⟨#[60,60,32,47,84,105,116,108,101,32]⟩] w fun e w'=>e=.returned false/\Z (.returned (0:Int)) w')):
  CP 73 #[zp r] w Z:=by
 go_enter func73,ntmps73
 go_wp2_with fail
 refine H1.out.mono ?_;rintro e w1 ⟨rfl,hZ⟩;go_wp2_with fail
 first
  | exact hZ
  | (go_ret;exact hZ)
theorem xc (w:World) (r c:Nat) (n:Int) (t:ByteArray) (ht0:1<=t.size) (ht1:t.size<=100) (G1 G2 G3 G4 G5 G6:World->Prop)
  (H1:Hid (CP 115 #[zp r,.string ⟨#[60,60,32,47,84,105,116,108,101,32]⟩] w fun e w'=>e=.returned true/\G1 w'))
  (H2:Hid (∀ w1,G1 w1->CP 117 #[zp r] w1 fun e w'=>e=.returned n/\G2 w'))
  (F2:Hid (∀ w1,G2 w1->w1.cell? r=some (.pointer (some ⟨c,0,none⟩))))
  (H3:Hid (∀ w1,G2 w1->CP 114 #[zp c,.string ⟨#[60,60,32,47,84,105,116,108,101,32]⟩] w1 fun e w'=>e=.returned (.tuple #[])/\G3 w'))
  (F3:Hid (∀ w1,G3 w1->w1.cell? r=some (.pointer (some ⟨c,0,none⟩))))
  (H4:Hid (∀ w1,G3 w1->CP 122 #[zp c] w1 fun e w'=>e=.returned t/\G4 w'))
  (F4:Hid (∀ w1,G4 w1->(∃ o,w1.cell? (zq r 1)=some (.string o))/\w1.frozen? (zq r 1)=false/\G5 (w1.setCell (zq r 1) t)))
  (F5:Hid (∀ w1,G5 w1->w1.cell? r=some (.pointer (some ⟨c,0,none⟩))))
  (H6:Hid (∀ w1,G5 w1->CP 114 #[zp c,.string ⟨#[32,62,62,10,101,110,100,111,98,106,10]⟩] w1 fun e w'=>e=.returned (.tuple #[])/\G6 w'))
  (F6:Hid (∀ w1,G6 w1->w1.cell? (zq r 1)=some (.string t))):
  CP 73 #[zp r] w fun e w'=>e=.returned n/\G6 w':=by
 have d1:decide ((t.size:Int) < 1)=false:=by simp;omega
 have d2:decide (100 < (t.size:Int))=false:=by simp;omega
 go_enter func73,ntmps73
 go_wp2_with fail
 refine H1.out.mono ?_;rintro e w1 ⟨rfl,g1⟩;go_wp2_with fail
 refine (H2.out w1 g1).mono ?_;rintro e w2 ⟨rfl,g2⟩;have a2:=F2.out w2 g2;go_wp2_with fail
 refine (H3.out w2 g2).mono ?_;rintro e w3 ⟨rfl,g3⟩;clear a2;have a3:=F3.out w3 g3;go_wp2_with fail
 refine (H4.out w3 g3).mono ?_;rintro e w4 ⟨rfl,g4⟩;clear a3;obtain ⟨⟨o,a4⟩,f4,g5⟩:=F4.out w4 g4;have a5:=F5.out _ g5;go_wp2_with fail
 refine (H6.out _ g5).mono ?_;rintro e w6 ⟨rfl,g6⟩;clear a4 f4 a5;have a6:=F6.out w6 g6;go_wp2_with fail
 go_ret;exact ⟨rfl,g6⟩
theorem jA.title {B r c:Nat} {ti:ByteArray} {vp vm:Value} {starts:List Nat} {w:World} {S:Bl} (h:jA B r c ti vp vm starts w S) (t:ByteArray):∃ S',jA B r c t vp vm starts (w.setCell (zq r 1) t) S'/\Mv S w S' (w.setCell (zq r 1) t):=by
 obtain ⟨vs,h⟩:=h;obtain ⟨Sc,hc1,_,k2⟩:=h.fst (aW.thing B _ _ _ _ _);obtain ⟨hc2,hm2⟩:=hc1.set 1 (.string t) (by simp);obtain ⟨S'',hs'',hm''⟩:=k2 _ _ _ hc2 hm2;exact ⟨S'',⟨vs,hs''⟩,hm''⟩
theorem dq.title {B r c p:Nat} {s ti:ByteArray} {vp vm:Value} {starts:List Nat} {w:World} {S:Bl} (h:dq B r c s p ti vp vm starts w S) (t:ByteArray):∃ S',dq B r c s p t vp vm starts (w.setCell (zq r 1) t) S'/\Mv S w S' (w.setCell (zq r 1) t):=by
 obtain ⟨S1,hR,_,k⟩:=h.fst (aS.thing B c _);obtain ⟨S1',hR',m'⟩:=hR.title t;exact k _ _ _ hR' m'
theorem dq.quoted {B r c p:Nat} {s ti:ByteArray} {vp vm:Value} {starts:List Nat} {w:World} {S:Bl} (h:dq B r c s p ti vp vm starts w S) (hs:s.size<=2000000000) (l:List UInt8) (hl:l.length<=10000) (hg:au s p (bc l)):
  CP 122 #[zp c] w fun e w'=>e=.returned (.string ⟨l.toArray⟩)/\∃ S',dq B r c s (p+(bc l).length) ti vp vm starts w' S'/\Mv S w S' w':=by
 obtain ⟨S8,hC8,_,k8⟩:=h.snd (jA.thing B r c ti vp vm starts);refine (lf w B c p s S8 l hC8 hs hl hg).mono ?_;rintro e w9 ⟨rfl,h9,m9⟩;obtain ⟨S9,hs9,hm9⟩:=k8 _ _ _ h9 m9;exact ⟨rfl,S9,hs9,hm9⟩
theorem dq.length {B r c p:Nat} {s ti:ByteArray} {vp vm:Value} {starts:List Nat} {w:World} {S:Bl} (h:dq B r c s p ti vp vm starts w S) (hB:B<=w.heap.size) (ht:bU B w) (hs:s.size<=2000000000) (n:Int) (x:UInt8) (h0:-100000000<=n) (h1:n<=100000000) (hg:au s p (bJ n++[x])) (hx:x.toNat < 48\/57 < x.toNat) (hx2:x≠46):
  CP 119 #[zp c] w fun e w'=>e=.returned n/\∃ S',dq B r c s (p+(bJ n).length) ti vp vm starts w' S'/\Mv S w S' w':=by
 obtain ⟨S8,hC8,_,k8⟩:=h.snd (jA.thing B r c ti vp vm starts);refine (lB w B c p s S8 n x hC8 hB ht hs h0 h1 hg hx hx2).mono ?_;rintro e w9 ⟨rfl,h9,m9⟩;obtain ⟨S9,hs9,hm9⟩:=k8 _ _ _ h9 m9;exact ⟨rfl,S9,hs9,hm9⟩
theorem dq.digits {B r c p:Nat} {s ti:ByteArray} {vp vm:Value} {starts:List Nat} {w:World} {S:Bl} (h:dq B r c s p ti vp vm starts w S) (hs:s.size<=2000000000) (u:Nat) (x:UInt8) (hu:u < 1000000000000) (hg:au s p (Lib.decDigits u++[x])) (hx:x.toNat < 48\/57 < x.toNat):
  CP 121 #[zp c] w fun e w'=>e=.returned (u:Int)/\∃ S',dq B r c s (p+(Lib.decDigits u).length) ti vp vm starts w' S'/\Mv S w S' w':=by
 obtain ⟨S8,hC8,_,k8⟩:=h.snd (jA.thing B r c ti vp vm starts);refine (dQ w B c p s S8 u x hC8 hs hu hg hx).mono ?_;rintro e w9 ⟨rfl,h9,m9⟩;obtain ⟨S9,hs9,hm9⟩:=k8 _ _ _ h9 m9;exact ⟨rfl,S9,hs9,hm9⟩
theorem wJ (w:World) (B r c p:Nat) (s ti:ByteArray) (vp vm:Value) (starts:List Nat) (S:Bl) (h:dq B r c s p ti vp vm starts w S) (hB:B<=w.heap.size) (ht:bU B w) (hs:s.size<=2000000000) (hl:starts.length<=1000000) (hp:p<=s.size) (hno:¬ au s p (aL (starts.length+1)++[60,60,32,47,84,105,116,108,101,32])):
  CP 73 #[zp r] w fun e w'=>e=.returned (0:Int)/\∃ S',dq B r c s p ti vp vm starts w' S'/\Mv S w S' w':=by
 refine y9 w r _ ?_;refine (h.seen hB ht hs hl hp [60,60,32,47,84,105,116,108,101,32] (by decide) false ⟨fun e=>by simp at e,fun g=>absurd g hno⟩).mono ?_;rintro e w' ⟨rfl,hz⟩;exact ⟨rfl,rfl,hz⟩
theorem sU (w:World) (B r c p:Nat) (s ti:ByteArray) (vp vm:Value) (starts:List Nat) (S:Bl) (h:dq B r c s p ti vp vm starts w S) (hB:B<=w.heap.size) (ht:bU B w) (hs:s.size<=2000000000) (hl:starts.length<=1000000) (t:List UInt8) (ht0:1<=t.length) (ht1:t.length<=100) (hg:au s p (aK (starts.length+1) (gx t))):
  CP 73 #[zp r] w fun e w'=>e=.returned ((starts.length+1:Nat):Int)/\∃ S',dq B r c s (p+(aK (starts.length+1) (gx t)).length) ⟨t.toArray⟩ vp vm (starts++[p]) w' S'/\Mv S w S' w':=by
 have hle:=hg.le;have hT:=dq.thing B r c s p ti vp vm starts;have hbel:∀ {S' w'},Mv S w S' w'->Below B w w':=fun m=>m.below (fun k e=>hT.ge h e) hB
 have hg2:au s p (aL (starts.length+1)++([60,60,32,47,84,105,116,108,101,32]++(bc t++[32,62,62,10,101,110,100,111,98,106,10]))):=by simpa [aK,gx,eh] using hg
 have g2:=hg2.right;have g3:=g2.right;have g4:=g3.right;have hgs:au s p (aL (starts.length+1)++[60,60,32,47,84,105,116,108,101,32]):=by
  rw [<-ZQ] at hg2;exact hg2.left
 have hfin:p+(aK (starts.length+1) (gx t)).length=p+(aL (starts.length+1)).length+10+(bc t).length+11:=by
  simp only [aK,gx,eh,ZZ,ZY,ZW];omega
 refine xc w r c _ ⟨t.toArray⟩ (by rw [ae];exact ht0) (by rw [ae];exact ht1)
  (fun w'=>∃ S',dq B r c s p ti vp vm starts w' S'/\Mv S w S' w')
  (fun w'=>∃ S',dq B r c s (p+(aL (starts.length+1)).length) ti vp vm (starts++[p]) w' S'/\Mv S w S' w')
  (fun w'=>∃ S',dq B r c s (p+(aL (starts.length+1)).length+10) ti vp vm (starts++[p]) w' S'/\Mv S w S' w')
  (fun w'=>∃ S',dq B r c s (p+(aL (starts.length+1)).length+10+(bc t).length) ti vp vm (starts++[p]) w' S'/\Mv S w S' w')
  (fun w'=>∃ S',dq B r c s (p+(aL (starts.length+1)).length+10+(bc t).length) ⟨t.toArray⟩ vp vm (starts++[p]) w' S'/\Mv S w S' w')
  _ ?_ ?_ ?_ ?_ ?_ ?_ ?_ ?_ ?_ ?_
 ·refine (h.seen hB ht hs hl (by omega) [60,60,32,47,84,105,116,108,101,32] (by decide) true ⟨fun _=>hgs,fun _=>rfl⟩).mono ?_;rintro e w' ⟨rfl,hz⟩;exact ⟨rfl,hz⟩
 ·rintro w1 ⟨S1,h1,m1⟩;refine (gp w1 B r c p s ti vp vm starts S1 h1 (ZN hB m1.size) (ht.on (hbel m1)) hs hl hg2.left).mono ?_;rintro e w' ⟨rfl,S',h',m'⟩;exact ⟨rfl,S',h',m1.trans m'⟩
 ·rintro w1 ⟨S1,h1,m1⟩;exact h1.read.choose_spec.choose_spec.1
 ·rintro w1 ⟨S1,h1,m1⟩;refine (h1.eat hs [60,60,32,47,84,105,116,108,101,32] g2.left).mono ?_;rintro e w' ⟨rfl,S',h',m'⟩;exact ⟨rfl,S',h',m1.trans m'⟩
 ·rintro w1 ⟨S1,h1,m1⟩;exact h1.read.choose_spec.choose_spec.1
 ·rintro w1 ⟨S1,h1,m1⟩;refine (h1.quoted hs t (by omega) g3.left).mono ?_;rintro e w' ⟨rfl,S',h',m'⟩;exact ⟨rfl,S',h',m1.trans m'⟩
 ·rintro w1 ⟨S1,h1,m1⟩;obtain ⟨ad,cap,_,c1,_,_,_,fz,_⟩:=h1.read;obtain ⟨S2,h2,m2⟩:=h1.title ⟨t.toArray⟩;exact ⟨⟨_,c1⟩,fz 1,S2,h2,m1.trans m2⟩
 ·rintro w1 ⟨S1,h1,m1⟩;exact h1.read.choose_spec.choose_spec.1
 ·rintro w1 ⟨S1,h1,m1⟩;refine (h1.eat hs [32,62,62,10,101,110,100,111,98,106,10] g4).mono ?_;rintro e w' ⟨rfl,S',h',m'⟩;refine ⟨rfl,S',?_,m1.trans m'⟩;rw [hfin];exact h'
 ·rintro w1 ⟨S1,h1,m1⟩;exact h1.read.choose_spec.choose_spec.2.1
end Go.Proofs.YtbklfkpjoinofaaGreatDoor
