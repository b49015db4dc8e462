import Derived.Test.YtbklfkpjoinofaaGreatDoorA35
set_option linter.all false
set_option maxRecDepth 100000
set_option maxHeartbeats 8000000
namespace Go.Proofs.YtbklfkpjoinofaaGreatDoor
open Go.RowKit Go.Proofs.Tryz
def EO:List (Nat×Int×Int)->List Value
 | []=>[]
 | z::r=>.int .i64 (z.1:Int)::.int .i64 z.2.1::.int .i64 z.2.2::EO r
theorem EQ (l:List (Nat×Int×Int)) (z:Nat×Int×Int):EO (l++[z])=EO l++[.int .i64 (z.1:Int),.int .i64 z.2.1,.int .i64 z.2.2]:=by
 induction l with
 | nil=>rfl
 | cons a r ih=>simp only [ZE,EO,ih]
theorem wD:∀ (l:List (Nat×Int×Int)) (i:Nat) z,l[i]? =some z->(EO l)[i*3]? =some (.int .i64 (z.1:Int))/\(EO l)[i*3+1]? =some (.int .i64 z.2.1)/\(EO l)[i*3+2]? =some (.int .i64 z.2.2)
 | [],i,z,h=>by simp at h
 | a::r,0,z,h=>by simp at h;subst h;exact ⟨rfl,rfl,rfl⟩
 | a::r,i+1,z,h=>by
  have:=wD r i z (by simpa using h);have e:(i+1)*3=i*3+1+1+1:=by omega
  rw [e];exact this
theorem Tryz.infoSh:(Tryz.prog.info? 193).map (fun i=>(i.zero,i.size,i.bytes))=some (some (.agg #[oz,oz,oz]),3,24):=by kernel_rfl
theorem Tryz.infoMk3:(Tryz.prog.info? 98).map (fun i=>(i.zero,i.size,i.bytes))=some (some (.agg #[.string ⟨#[]⟩,oz]),2,24):=by kernel_rfl
structure ip where
 (ti:ByteArray)
 (sh:List (Nat×Int×Int))
 (cs:List (List UInt8))
 (ms:List (ByteArray×Nat))
def io (B:Nat) (x:ip) (vs vc vm:Value):As:=ah (aW B 193 3 vs x.sh.length (EO x.sh)) (ah (aW B 9 1 vc x.cs.length (gl x.cs)) (aW B 98 2 vm x.ms.length (iz x.ms)))
theorem io.thing (B:Nat) (x:ip) (vs vc vm:Value):aJ B (io B x vs vc vm):=ah.thing (aW.thing _ _ _ _ _ _) (ah.thing (aW.thing _ _ _ _ _ _) (aW.thing _ _ _ _ _ _))
def cw (B l:Nat) (x:ip):As:=fun w S=>∃ v:Value×Value×Value,ah (aS B l [.string x.ti,v.1,v.2.1,v.2.2]) (io B x v.1 v.2.1 v.2.2) w S
theorem cw.thing (B l:Nat) (x:ip):aJ B (cw B l x):=aJ.any fun _=>ah.thing (aS.thing _ _ _) (io.thing _ _ _ _ _)
theorem cw.new {B:Nat} {w:World} (hB:B<=w.heap.size):∃ S,cw B w.heap.size ⟨⟨#[]⟩,[],[],[]⟩ (w.alloc (.cells #[.string ⟨#[]⟩,.slice none 0 0,.slice none 0 0,.slice none 0 0] 148)) S/\∀ k,S k->k=w.heap.size:=by
 have e:∀ k,¬ ob (.slice none 0 0) k:=fun k h=>by simp [ob,Value.ownBlock] at h
 refine ⟨cT (cC w.heap.size) (cT (ob (.slice none 0 0)) (cT (ob (.slice none 0 0)) (ob (.slice none 0 0)))),⟨(.slice none 0 0,.slice none 0 0,.slice none 0 0),cC w.heap.size,_,aS.alloc (vs:=[.string ⟨#[]⟩,.slice none 0 0,.slice none 0 0,.slice none 0 0]) hB,⟨_,_,aW.nil _ _ _ _,⟨_,_,aW.nil _ _ _ _,aW.nil _ _ _ _,fun k a=>absurd a (e k),rfl⟩,fun k a=>absurd a (e k),rfl⟩,?_,rfl⟩,?_⟩
 ·rintro k _ (a | a | a) <;> exact e k a
 ·rintro k (a | a | a | a)
  ·exact a
  all_goals exact absurd a (e k)
theorem uI (c:UInt8) (r b:List UInt8):∀ a:List UInt8,c ∉ a->Lib.index (a++(c::r++b)) (c::r)=(a.length:Int)
 | [],_=>by
  show Lib.index (c::(r++b)) (c::r)=0
  unfold Lib.index;rw [ZN (by rw [List.isPrefixOf_iff_prefix];exact YP (c::r) b)]
 | x::l,h=>by
  have hb:c≠x:=fun e=>h (by rw [e];exact ZB _)
  have ih:=uI c r b l (fun e=>h (List.mem_cons_of_mem _ e));rw [ZE];unfold Lib.index;rw [ZO (by simp [List.isPrefixOf,hb]),ZO (by rw [ih];simp),ih];simp
theorem E' (c:UInt8) (r a b:List UInt8) (h:c ∉ a):Lib.cut (a++(c::r++b)) (c::r)=(a,b,true):=by
 unfold Lib.cut;rw [uI c r b a h,ZN (by omega)];simp only [Int.toNat_natCast,List.take_left, <-List.drop_drop,List.drop_left]
theorem C4 (z:Int):(10:UInt8) ∉ aD z:=by
 unfold aD;intro h;rcases Zu.1 h with h | h
 ·exact oN _ h
 ·revert h;decide
theorem DU (n:Nat) (Z:List UInt8):∃ a,Lib.cut (qw n Z) [10,115,116,114,101,97,109,10]=(a,Z++[10,101,110,100,115,116,114,101,97,109],true):=by
 refine ⟨[60,60,32,47,70,105,108,116,101,114,32,47,70,108,97,116,101,68,101,99,111,100,101,32,47,76,101,110,103,116,104,32]++aD (n:Int)++[32,62,62],?_⟩;have:=E' 10 [115,116,114,101,97,109,10] ([60,60,32,47,70,105,108,116,101,114,32,47,70,108,97,116,101,68,101,99,111,100,101,32,47,76,101,110,103,116,104,32]++aD (n:Int)++[32,62,62]) (Z++[10,101,110,100,115,116,114,101,97,109]) (by
  intro h;rcases Zu.1 h with h | h
  ·rcases Zu.1 h with h | h
   ·revert h;decide
   ·exact C4 _ h
  ·revert h;decide)
 rw [<-this];congr 1;simp [qw,cX]
theorem cw.open {B l:Nat} {x:ip} {w:World} {S:Bl} (h:cw B l x w S):∃ aa ks ac kc am km,ah (aS B l [.string x.ti,.slice aa x.sh.length ks,.slice ac x.cs.length kc,.slice am x.ms.length km]) (io B x (.slice aa x.sh.length ks) (.slice ac x.cs.length kc) (.slice am x.ms.length km)) w S:=by
 obtain ⟨⟨vs,vc,vm⟩,h⟩:=h;obtain ⟨S1,S2,h1,⟨S3,S4,h3,⟨S5,S6,h5,h6,_⟩,_⟩,_⟩:=id h;obtain ⟨aa,ks,e1⟩:=h3.form;obtain ⟨ac,kc,e2⟩:=h5.form;obtain ⟨am,km,e3⟩:=h6.form;dsimp only at e1 e2 e3 h;subst e1 e2 e3;exact ⟨aa,ks,ac,kc,am,km,h⟩
theorem qK (w:World) (B l n cap m0:Nat) (ad:Option Addr) (xs:List Value) (body:ByteArray) (a Z:List UInt8) (ZZ:Ending->World->Prop) (hn:n<=1000) (hl:l < w.heap.size) (hB:B<=w.heap.size) (c2:w.cell? (zq l 2)=some (.slice ad n cap)) (f2:w.frozen? (zq l 2)=false) (ow:w.ownsRow B 9 1 (.slice ad n cap) n xs) (ne:(Value.slice ad n cap).ownBlock≠some l)
  (HC:Hid (CP 221 #[body,.string ⟨#[10,115,116,114,101,97,109,10]⟩] w fun e w'=>e=.returned (.tuple #[.string ⟨a.toArray⟩,.string ⟨(Z++[10,101,110,100,115,116,114,101,97,109]).toArray⟩,.bool true])/\∃ n,w'=w.drewN n))
  (HT:Hid (∀ w1,QE 222 #[.string ⟨(Z++[10,101,110,100,115,116,114,101,97,109]).toArray⟩,.string ⟨#[10,101,110,100,115,116,114,101,97,109]⟩] w1 (.string ⟨Z.toArray⟩)))
  (HZ:Hid (∀ v w7,w.grownBy w7 (Value.slice ad n cap).ownBlock->gq w (Value.slice ad n cap).ownBlock B 9 1 (n+1) (xs++[.string ⟨Z.toArray⟩]) v w7->∀ u,ZZ (.returned u) (w7.setCell (zq l 2) v))):
  CP 190 #[zp l,body] w ZZ:=by
 go_enter func190,ntmps190
 go_wp2_with fail
 refine HC.out.mono ?_;rintro e w1 ⟨rfl,qn,rfl⟩;go_wp2_with fail
 replace c2:(w.drewN qn).cell? (zq l 2)=some (.slice ad n cap):=c2;replace f2:(w.drewN qn).frozen? (zq l 2)=false:=f2;replace hl:l < (w.drewN qn).heap.size:=hl;replace hB:B<=(w.drewN qn).heap.size:=hB;replace ow:(w.drewN qn).ownsRow B 9 1 (.slice ad n cap) n xs:=ow;have HZ9:Hid (∀ v w7,(w.drewN qn).grownBy w7 (Value.slice ad n cap).ownBlock->gq (w.drewN qn) (Value.slice ad n cap).ownBlock B 9 1 (n+1) (xs++[.string ⟨Z.toArray⟩]) v w7->∀ u,ZZ (.returned u) (w7.setCell (zq l 2) v)):=fun v w7 hg ha=>HZ.out v w7 ⟨hg.os,hg.tape,hg.output,hg.size,hg.block⟩ ha
 clear HZ HC;generalize w.drewN qn=wa at c2 f2 hl hB ow HZ9 ⊢;refine cW 9 _ 8 (fun w w'=>w.grownBy w' (Value.slice ad n cap).ownBlock) (pK wa [.pointer (some ⟨l,0,none⟩),.pointer (some ⟨l,0,none⟩),.pointer (some ⟨l,0,none⟩),.pointer (some ⟨l,2,none⟩),.slice ad n cap,.string ⟨(Z++[10,101,110,100,115,116,114,101,97,109]).toArray⟩,.string ⟨Z.toArray⟩,undef,undef] 7 8 [.string ⟨Z.toArray⟩] (Value.slice ad n cap).ownBlock B 9 1 (n+1) (xs++[.string ⟨Z.toArray⟩])) (by kernel_rfl) rfl (by kernel_rfl) (lT _) (fun _ _ _=>lV) (fun _ _ _=>fE) pZ kE ?_;simp only [TD];refine ⟨aB (by decide) fun w1 hG hd=>?_,fun v0=>?_⟩
 ·clear hd;go_wp2;exact RG
 simp only [TN];refine ⟨aB (by decide) fun w1 hG hd=>?_,fun v1=>?_⟩
 ·clear hd;go_wp2;exact RG
 simp only [TN];refine ⟨aB (by decide) fun w1 hG hd=>?_,fun v2=>?_⟩
 ·have d1:v1=.pointer (some ⟨l,0,none⟩):=hd ⟨1,.data⟩ (by simp) rfl;clear hd;subst d1;go_wp2;exact RG
 simp only [TN];refine ⟨aB (by decide) fun w1 hG hd=>?_,fun v3=>?_⟩
 ·have d2:v2=.pointer (some ⟨l,0,none⟩):=hd ⟨2,.data⟩ (by simp) rfl;clear hd;subst d2;go_wp2;exact RG
 simp only [TN];refine ⟨aB (by decide) fun w1 hG hd=>?_,fun v4=>?_⟩
 ·have d3:v3=.pointer (some ⟨l,2,none⟩):=hd ⟨3,.data⟩ (by simp) rfl;clear hd;subst d3;have c:=(ZQ (a:=zq l 2) (hG.block l hl (fun e=>ne e.symm))).trans c2;go_wp2;exact RG
 simp only [TN];refine ⟨aB (by decide) fun w1 hG hd=>?_,fun v5=>?_⟩
 ·clear hd;go_wp2;exact RG
 simp only [TN];refine ⟨aB (by decide) fun w1 hG hd=>?_,fun v6=>?_⟩
 ·have d5:v5=.string ⟨(Z++[10,101,110,100,115,116,114,101,97,109]).toArray⟩:=hd ⟨5,.data⟩ (by simp) rfl;clear hd;subst d5;have HX:=ai (HT.out w1);go_wp2_with fail
  refine HX.out.mono ?_;rintro e w2 ⟨rfl,rfl⟩;go_wp2;exact RG
 simp only [TN];refine ⟨aB (by decide) fun w1 hG hd=>?_,fun v7=>?_⟩
 ·have d6:v6=.string ⟨Z.toArray⟩:=hd ⟨6,.data⟩ (by simp) rfl;clear hd;subst d6;go_wp2;exact ⟨jI _ _ (fun k hk=>ZK (ow.lt k hk).2 (World.grownBy.size hG)),(ZT _ _).alloc (ZW _) _⟩
 simp only [TN];refine ⟨dO rfl fun w1 hG hd=>?_,fun v8=>?_⟩
 ·have d4:v4=.slice ad n cap:=hd ⟨4,.data⟩ (by simp) rfl;have d7:pO _ _ v7 w1:=hd ⟨7,.data⟩ (by simp) rfl;clear hd;subst d4;exact nJ rfl (.tmp 17) (.tmp 20) 47 rfl 9 (.string ⟨#[]⟩) 1 16 Tryz.infoStr rfl (by omega) underlying47 B (Value.slice ad n cap) n (xs) rfl ow hB hG v7 rfl [.string ⟨Z.toArray⟩] d7 rfl (by intro u hu;simp at hu;subst hu;rfl) (by omega) (by omega) ⟨_,rfl,by simp [Act.put]⟩
 simp only [TN];intro w7 hG hd;have d0:v0=.pointer (some ⟨l,0,none⟩):=hd 0 (by omega);have d8:gq _ _ _ _ _ _ _ v8 w7:=hd 8 (by omega);subst d0;obtain ⟨ad7,cap7,hv7⟩:=d8.form;subst hv7;have HX:=ai (HZ9.out _ w7 hG d8);have hb:=hG.block l hl (fun e=>ne e.symm);have k2:=(ZQ (a:=zq l 2) hb).trans c2;have kf:=(ZH (a:=zq l 2) hb).trans f2;clear hd HZ9 d8 hG hb c2 ow f2;go_wp2_with fail
 go_end0;exact HX.out _
theorem rU (w:World) (B l:Nat) (x:ip) (S:Bl) (body:ByteArray) (n:Nat) (Z:List UInt8) (hb:body.data.toList=qw n Z) (hsz:body.size<=2000000000) (hcl:x.cs.length<=1000) (hB:B<=w.heap.size) (hm:fH B w) (h:cw B l x w S):
  CP 190 #[zp l,body] w fun e w'=>(∃ v,e=.returned v)/\∃ S',cw B l {x with cs:=x.cs++[Z]} w' S'/\Mv S w S' w':=by
 obtain ⟨a,ha⟩:=DU n Z;obtain ⟨_,m,hmc⟩:=hm;have HC:=Tryz.strings_Cut body ⟨#[10,115,116,114,101,97,109,10]⟩ m w (by omega) hmc;rw [hb] at HC;simp only [ha] at HC;have hzl:(Z++[10,101,110,100,115,116,114,101,97,109]).length<=2000000000:=by
  have:=congrArg List.length hb;rw [aP] at this;simp only [qw,ZY] at this ⊢;omega
 have HT:=fun w1=>Tryz.strings_TrimSuffix ⟨(Z++[10,101,110,100,115,116,114,101,97,109]).toArray⟩ ⟨#[10,101,110,100,115,116,114,101,97,109]⟩ w1 (by rw [ae];omega)
 simp only [od] at HT;obtain ⟨aa,ks,ac,kc,am,km,h⟩:=h.open;obtain ⟨c2,ow,ne,f2,hl,hgr⟩:=mi (i:=2) (ah.thing (aW.thing _ _ _ _ _ _) (aW.thing _ _ _ _ _ _)) rfl (ah.mapR h fun _ _ k=>ah.turn k);refine qK w B l x.cs.length kc 0 ac (gl x.cs) body a Z _ hcl hl hB c2 f2 ow ne HC HT ?_;intro v w7 hg ha u;obtain ⟨S',h',m'⟩:=hgr _ _ v w7 hg ha;refine ⟨⟨u,rfl⟩,S',⟨(.slice aa x.sh.length ks,v,.slice am x.ms.length km),?_⟩,m'⟩;have e:gl (x.cs++[Z])=gl x.cs++[.string ⟨Z.toArray⟩]:=by simp [gl]
 have h9:=ah.mapR h' fun _ _ k=>ah.turn k
 unfold io;dsimp only;rw [e,ZY];exact h9
theorem zM (w:World) (l:List Value) (t:TypeId):∀ j u,l[j]? =some u->(w.alloc (.cells l.toArray t)).cell? ((⟨w,0,none⟩:Addr).add j)=some u:=by
 intro j u h;have:=(aS.alloc (B:=0) (vs:=l) (w:=w) (t:=t) (YO _)).at j u h;have e:(⟨w,0,none⟩:Addr).add j=⟨w,j,none⟩:=by
  unfold Addr.add;split
  ·next h=>rw [h]
  ·simp
 rw [e];exact this
theorem vC {wx w7:World} {o:Obj} {v v7:Value} {B:Nat} {e:TypeId} {z n:Nat} {xs:List Value} (hO:w7.ownsRow B e z v7 n xs) (hg:(wx.alloc o).grownBy w7 v.ownBlock) (hat:v7.ownBlock=v.ownBlock\/v7.ownBlock=some (wx.heap.size+1)):wx.grownBy w7 v.ownBlock/\gq wx v.ownBlock B e z n xs v7 w7:=by
 refine ⟨fE (row:=v.ownBlock) ((ZT _ wx).alloc (ZW _) o) hg,hO,?_⟩;rcases hat with h | h
 ·exact .inl h
 ·exact .inr ⟨_,h,by omega⟩
theorem tA (w:World) (B l n cap cL:Nat) (ad:Option Addr) (xs:List Value) (body vw vh:ByteArray) (W H:Int) (ZZ:Ending->World->Prop) (hn:n < 80) (hnum:cL<=100000) (hW:decide (1<=W/\W<=14400000)=true) (hH:decide (1<=H/\H<=14400000)=true) (hl:l < w.heap.size) (hB:B<=w.heap.size) (c1:w.cell? (zq l 1)=some (.slice ad n cap)) (f1:w.frozen? (zq l 1)=false) (ow:w.ownsRow B 193 3 (.slice ad n cap) n xs) (ne:(Value.slice ad n cap).ownBlock≠some l)
  (HV3:Hid (∀ wx,af w wx->QB 189 #[body,.string ⟨#[47,77,101,100,105,97,66,111,120]⟩,(3:Int)] wx vw))
  (HV4:Hid (∀ wx,af w wx->QB 189 #[body,.string ⟨#[47,77,101,100,105,97,66,111,120]⟩,(4:Int)] wx vh))
  (HLw:Hid (∀ wx,af w wx->QB 224 #[vw] wx (.tuple #[W,true])))
  (HLh:Hid (∀ wx,af w wx->QB 224 #[vh] wx (.tuple #[H,true])))
  (HZ:Hid (∀ v wx w7,af w wx->wx.grownBy w7 (Value.slice ad n cap).ownBlock->gq wx (Value.slice ad n cap).ownBlock B 193 3 (n+1) (xs++[.int .i64 (cL:Int),.int .i64 W,.int .i64 H]) v w7->ZZ (.returned true) (w7.setCell (zq l 1) v))):
  CP 191 #[zp l,(cL:Int),body] w ZZ:=by
 have HS1:=ai (fun wx=>dW wx W);have HS2:=ai (fun wx=>dW wx H);go_enter func191,ntmps191
 go_wp2_with fail
 refine (HV3.out _ (af.refl _)).mono ?_;rintro e w1 ⟨rfl,hb1⟩;go_wp2_with fail
 refine (HLw.out _ hb1).mono ?_;rintro e w2 ⟨rfl,hb2⟩;replace hb2:=af.trans hb1 hb2;go_wp2_with fail
 refine (HV4.out _ hb2).mono ?_;rintro e w3 ⟨rfl,hb3⟩;replace hb3:=af.trans hb2 hb3;go_wp2_with fail
 refine (HLh.out _ hb3).mono ?_;rintro e w4 ⟨rfl,hb4⟩;replace hb4:=af.trans hb3 hb4;replace c1:w4.cell? (zq l 1)=some (.slice ad n cap):=(Zc hb4 (p:=zq l 1) hl).trans c1;clear HV3 HV4 HLw HLh hb1 hb2 hb3;replace f1:w4.frozen? (zq l 1)=false:=(Below.frozen hb4 (p:=zq l 1) hl).trans f1;replace ow:w4.ownsRow B 193 3 (.slice ad n cap) n xs:=oY ow hb4;replace hB:B<=w4.heap.size:=ZU hB hb4.size;replace hl:l < w4.heap.size:=ZK hl hb4.size;rw [hW] at HS1;rw [hH] at HS2;have dn:((n:Int)==80)=false:=by simp;omega
 go_wp2_with fail
 refine (HS1.out _).mono ?_;rintro e w5 ⟨rfl,rfl⟩;go_wp2_with fail
 refine (HS2.out _).mono ?_;rintro e w6 ⟨rfl,rfl⟩;clear HS1 HS2;go_wp2_with (at_builtin;refine bQ rfl (.tmp 43) (.tmp 48) 146 rfl 193 (.agg #[oz,oz,oz]) 3 24 Tryz.infoSh rfl (by omega) underlying146 B _ n xs rfl (ow.alloc _) (by simp;omega) ⟨w6,0,none⟩ 1 rfl [.int .i64 (cL:Int),.int .i64 W,.int .i64 H] rfl (zM w6 _ _) (by intro u hu;simp at hu;rcases hu with rfl | rfl | rfl <;> rfl) (by omega) (by omega) ?_)
 intro v7 w7 hO7 hg7 hat7;obtain ⟨hg8,ha8⟩:=vC hO7 hg7 hat7;have HX:=ai (HZ.out _ w6 w7 hb4 hg8 ha8);obtain ⟨ad7,cap7,hv7⟩:=ha8.form;subst hv7;have kb:=hg8.block l hl (fun e=>ne e.symm);have k1:=(ZQ (a:=zq l 1) kb).trans c1;have kf1:=(ZH (a:=zq l 1) kb).trans f1;clear kb c1 f1 ow hO7 hg7 hat7 HZ ha8 hg8;go_wp2
 first
  | exact HX.out
  | (go_ret;exact HX.out)
theorem uj (w:World) (B l cL:Nat) (x:ip) (S:Bl) (body:ByteArray) (W H:Int) (hp:zw body W H) (hsz:body.size<=2000000000) (hW:bG W 1 14400000) (hH:bG H 1 14400000) (hcl:x.sh.length < 80) (hnum:cL<=100000) (hB:B<=w.heap.size) (ht:bU B w) (hm:fH B w) (h:cw B l x w S):
  CP 191 #[zp l,(cL:Int),body] w fun e w'=>e=.returned true/\∃ S',cw B l {x with sh:=x.sh++[(cL,W,H)]} w' S'/\Mv S w S' w':=by
 obtain ⟨aa,ks,ac,kc,am,km,h⟩:=h.open;obtain ⟨c1,ow,ne,f1,hl,_⟩:=mi (i:=1) (ah.thing (aW.thing _ _ _ _ _ _) (aW.thing _ _ _ _ _ _)) rfl h;have hb:∀ wx,af w wx->B<=wx.heap.size/\bU B wx/\fH B wx:=fun wx hg=>⟨ZU hB hg.size,ht.on (YY hg hB),hm.on (YY hg hB)⟩
 have hV:=fun (k:Nat) (hk:k<=100) wx=>ex body kM k wx hsz hk hp.pl
 refine tA w B l x.sh.length ks cL aa (EO x.sh) body ⟨(bJ W).toArray⟩ ⟨(bJ H).toArray⟩ W H _ hcl hnum (Zt hW) (Zt hH) hl hB c1 f1 ow ne ?_ ?_ ?_ ?_ ?_
 ·intro wx _;have:=hV 3 (by omega) wx;rw [hp.w] at this;exact this
 ·intro wx _;have:=hV 4 (by omega) wx;rw [hp.h] at this;exact this
 ·intro wx hg;obtain ⟨a,b,c⟩:=hb wx hg;exact jL wx B _ W (by have:=hW.1;omega) (by have:=hW.2;omega) (by simp) a b c
 ·intro wx hg;obtain ⟨a,b,c⟩:=hb wx hg;exact jL wx B _ H (by have:=hH.1;omega) (by have:=hH.2;omega) (by simp) a b c
 ·intro v wx w7 hg hgb ha;have hx:=(ah.thing (aS.thing _ _ _) (io.thing B x _ _ _)).grow h hg;obtain ⟨_,_,_,_,_,hgr⟩:=mi (i:=1) (ah.thing (aW.thing _ _ _ _ _ _) (aW.thing _ _ _ _ _ _)) rfl hx;obtain ⟨S',h',m'⟩:=hgr _ _ v w7 hgb ha;refine ⟨rfl,S',⟨(v,.slice ac x.cs.length kc,.slice am x.ms.length km),?_⟩,(Mv.grow hg S).trans m'⟩;unfold io;dsimp only;rw [EQ,ZY];exact h'
theorem t6 (a b:Nat) (h:Lib.decDigits a=Lib.decDigits b):a=b:=by
 have:=congrArg fS h;rw [show fS (Lib.decDigits a)=a from mF a,show fS (Lib.decDigits b)=b from mF b] at this;exact this
theorem D8 (a n:Nat):(Lib.itoa (a:Int)==Lib.itoa (n:Int))=decide (a=n):=by
 by_cases h:a=n
 ·subst h;simp
 ·rw [Zo h];apply Bool.eq_false_iff.2;intro e;have:=beq_iff_eq.1 e;rw [fy,fy] at this;exact h (t6 a n this)
theorem C5 (w:World) (B b:Nat) (a n:Nat) (W H:Int) (ha:a<=1000000) (hB:B<=w.heap.size) (c0:w.cell? b=some (.string ⟨(Lib.itoa (n:Int)).toArray⟩)) (hb:b < w.heap.size) (ht:bU B w):
  QB 263 #[.agg #[.int .i64 (a:Int),W,H],zp b] w (.bool (decide (a=n))):=by
 have HE:=ai (D8 a n);go_enter func263,ntmps263
 go_wp2_with fail
 have hb0:Below w w (w.alloc (Obj.cells #[Value.int IntKind.i64 ↑a,Value.int IntKind.i64 W,Value.int IntKind.i64 H] 193)):=(ZT _ w).alloc (ZW _) _;have z0:(w.alloc (Obj.cells #[Value.int IntKind.i64 ↑a,Value.int IntKind.i64 W,Value.int IntKind.i64 H] 193)).cell? w=(a:Int):=(aS.alloc (B:=0) (vs:=[.int .i64 (a:Int),.int .i64 W,.int .i64 H]) (YO _)).at 0 _ rfl;have hz0:w.heap.size < (w.alloc (Obj.cells #[Value.int IntKind.i64 ↑a,Value.int IntKind.i64 W,Value.int IntKind.i64 H] 193)).heap.size:=by simp
 obtain ⟨w0,hw0⟩:∃ w0,w.alloc (Obj.cells #[Value.int IntKind.i64 ↑a,Value.int IntKind.i64 W,Value.int IntKind.i64 H] 193)=w0:=⟨_,rfl⟩;rw [hw0] at z0 hz0 hb0 ⊢;clear hw0;replace c0:w0.cell? b=some (.string ⟨(Lib.itoa (n:Int)).toArray⟩):=(hb0.cell (p:=b) hb).trans c0;have hbz:b < w0.heap.size:=by omega
 have HI:=ai (fun w1 (hG:af w0 w1)=>bp B w1 (a:Int) (by omega) (by omega) (ht.on ((YY hb0 hB).trans (YY hG (ZU hB hb0.size)))));refine ap 5 _ (ag [zp w.heap.size,(a:Int),.string ⟨(Lib.itoa (a:Int)).toArray⟩,.string ⟨(Lib.itoa (n:Int)).toArray⟩,.bool (decide (a=n))]) (by kernel_rfl) rfl (by kernel_rfl) aq ?_;simp only [TD];refine ⟨fun w1 hG hd=>?_,fun v0=>?_⟩
 ·clear hd;go_wp2;exact RG
 simp only [TN];refine ⟨fun w1 hG hd=>?_,fun v1=>?_⟩
 ·have d0:v0=.pointer (some ⟨w,0,none⟩):=hd ⟨0,.data⟩ (by simp) rfl;clear hd;subst d0;have cc:=(Zc hG (p:=w) hz0).trans z0;go_wp2;exact RG
 simp only [TN];refine ⟨fun w1 hG hd=>?_,fun v2=>?_⟩
 ·have d1:v1=.int .i64 (a:Int):=hd ⟨1,.data⟩ (by simp) rfl;clear hd;subst d1;have HX:=ai (HI.out w1 hG);go_wp2_with fail
  refine HX.out.mono ?_;rintro e w2 ⟨rfl,hB2⟩;go_wp2;exact ⟨rfl,hB2⟩
 simp only [TN];refine ⟨fun w1 hG hd=>?_,fun v3=>?_⟩
 ·clear hd;have cc:=(Zc hG (p:=b) hbz).trans c0;go_wp2;exact RG
 simp only [TN];refine ⟨fun w1 hG hd=>?_,fun v4=>?_⟩
 ·have d2:v2=.string ⟨(Lib.itoa (a:Int)).toArray⟩:=hd ⟨2,.data⟩ (by simp) rfl;have d3:v3=.string ⟨(Lib.itoa (n:Int)).toArray⟩:=hd ⟨3,.data⟩ (by simp) rfl;clear hd;subst d2 d3;go_wp2;exact ⟨congrArg Value.bool HE.out,af.refl _⟩
 simp only [TN];intro w1 hG hd;have d4:v4=.bool (decide (a=n)):=hd 4 (by omega);subst d4;clear hd HI HE c0 z0;go_wp2;go_ret;exact ⟨rfl,hb0.trans (YY hG hb0.size)⟩
theorem t_ (w:World) (b g m cap n p:Nat) (sh:List (Nat×Int×Int)) (hm:sh.length=m) (hm2:m<=1000) (hcap:m<=cap) (hcap2:cap<=9223372036854775807) (hp:p < m) (hg:g < w.heap.size) (hc:∀ i x,(EO sh)[i]? =some x->w.cell? (zq g i)=some x)
  (HN:Hid (∀ i z,sh[i]? =some z->i<=p->∀ wx,af w wx->QB 263 #[.agg #[.int .i64 (z.1:Int),.int .i64 z.2.1,.int .i64 z.2.2],zp b] wx (.bool (decide (i=p))))):
  QB 262 #[.slice g m cap,.func (.func 263) #[] #[zp b]] w (p:Int):=by
 have HR:Hid (∀ i wx,i < m->af w wx->wx.cell? (zq g (i*3))=some (.int .i64 ((sh.getD i (0,0,0)).1:Int))/\wx.cell? (zq g (i*3+1))=some (.int .i64 (sh.getD i (0,0,0)).2.1)/\wx.cell? (zq g (i*3+2))=some (.int .i64 (sh.getD i (0,0,0)).2.2)):=by
  intro i wx hi hG;have he:sh[i]? =some (sh.getD i (0,0,0)):=by rw [ZJ,ZM (by omega)];rfl
  obtain ⟨a1,a2,a3⟩:=wD sh i _ he;exact ⟨(Zc hG (p:=zq g (i*3)) hg).trans (hc _ _ a1),(Zc hG (p:=zq g (i*3+1)) hg).trans (hc _ _ a2),(Zc hG (p:=zq g (i*3+2)) hg).trans (hc _ _ a3)⟩
 have HN2:Hid (∀ i,i<=p->∀ wx,af w wx->QB 263 #[.agg #[.int .i64 ((sh.getD i (0,0,0)).1:Int),.int .i64 (sh.getD i (0,0,0)).2.1,.int .i64 (sh.getD i (0,0,0)).2.2],zp b] wx (.bool (decide (i=p)))):=by
  intro i hi wx hG;refine HN.out i _ ?_ hi wx hG;rw [ZJ,ZM (by omega)];rfl
 obtain ⟨f,hf⟩:∃ f:Nat->Nat×Int×Int,(fun i=>sh.getD i (0,0,0))=f:=⟨_,rfl⟩;have hf':∀ i,sh.getD i (0,0,0)=f i:=fun i=>congrFun hf i
 simp only [hf'] at HR HN2;clear HN hc hm hf hf';go_enter func262,ntmps262
 go_wp2;go_loopg [8] (p+2) (fun k x wr=>∃ i:Nat,i<=p/\p - i < k/\x=.int .i64 (i:Int)/\af w wr)
 case atStart=>exact ⟨0,by omega,by omega,rfl,af.refl _⟩
 case round=>
  obtain ⟨i,hi,hk,rfl,hG⟩:=hrel;obtain ⟨r0,r1,r2⟩:=HR.out i wr (by omega) hG;have HC:=ai (HN2.out i hi wr hG);have d1:decide ((i:Int) < (m:Int))=true:=by simp;omega
  generalize f i=z at r0 r1 r2 HC;obtain ⟨z1,z2,z3⟩:=z;dsimp only at r0 r1 r2 HC;by_cases hip:i=p
  ·rw [Zt hip] at HC;have HIP:=ai hip;clear hip;go_wp2_with fail
   refine HC.out.mono ?_;rintro e w1 ⟨rfl,hb1⟩;clear HC r0 r1 r2;go_wp2;go_ret;exact ⟨by rw [<-HIP.out];rfl,af.trans hG hb1⟩
  ·rw [Zo hip] at HC;go_wp2_with fail
   refine HC.out.mono ?_;rintro e w1 ⟨rfl,hb1⟩;clear HC r0 r1 r2;go_wp2;go_roundg (gk - 1)
   case measure=>omega
   case rel=>exact ⟨i+1,by omega,by omega,by congr 1,af.trans hG hb1⟩
theorem s6 (w:World) (l:Nat) (s:ByteArray) (vs:Value) (p:Nat) (c1:w.cell? (zq l 1)=some vs) (hl:l < w.heap.size)
  (HI:Hid (∀ wx,af w wx->wx.cell? w=some (.string s)->QB 262 #[vs,.func (.func 263) #[] #[zp w.heap.size]] wx (p:Int))):
  QB 226 #[zp l,s] w (p:Int):=by
 have hmf:∀ (fn:Fn) (first cap:Array Value) (w:World),(Instr.makeFunc fn first cap).run prog w=.ok (.func fn first cap) w:=fun _ _ _ _=>rfl
 go_enter func226,ntmps226
 go_wp2_with fail
 refine (HI.out _ ((ZT _ w).alloc (ZW _) _) ((aS.alloc (B:=0) (vs:=[.string s]) (YO _)).at 0 _ rfl)).mono ?_;rintro e w1 ⟨rfl,hb1⟩;have hb:Below w w w1:=(af.trans ((ZT _ w).alloc (ZW _) _) hb1);clear HI;go_wp2;go_ret;exact ⟨rfl,hb⟩
theorem ug (w:World) (B l n p:Nat) (x:ip) (S:Bl) (hp:p < x.sh.length) (hx:x.sh.length<=80) (hn:∀ z∈x.sh,z.1<=1000000) (hu:∀ (i:Nat) z,x.sh[i]? =some z->(z.1=n↔i=p)) (hB:B<=w.heap.size) (ht:bU B w) (h:cw B l x w S):
  QB 226 #[zp l,.string ⟨(Lib.itoa (n:Int)).toArray⟩] w (p:Int):=by
 obtain ⟨aa,ks,ac,kc,am,km,h⟩:=h.open;obtain ⟨S1,S2,hc,⟨S3,S4,hr,_⟩,_⟩:=h;obtain ⟨ad,cap,he,hcap,hcap2,hcell⟩:=aW.lies (B:=B) (e:=193) (z:=3) hr
 cases he
 obtain ⟨g,rfl,hg,hcells⟩:=hcell (by omega);have hl:l < w.heap.size:=hc.2.2.1;refine s6 w l _ _ p (hc.at 1 _ rfl) hl ?_;intro wx hG hs;refine t_ wx w.heap.size g x.sh.length ks n p x.sh rfl (by omega) hcap hcap2 hp (ZK hg hG.size) (fun i v hv=>(Zc hG (p:=zq g i) hg).trans (hcells i v hv)) ?_;intro i z hz hi wy hGy;have hbw:=af.trans hG hGy;have hwx:w.heap.size < wx.heap.size:=ZD wx _ hs;have:=C5 wy B w.heap.size z.1 n z.2.1 z.2.2 (hn z (YG hz)) (ZU hB hbw.size) ((Zc hGy (p:=w) hwx).trans hs) (ZK hwx hGy.size) (ht.on (YY hbw hB));rw [show decide (z.1=n)=decide (i=p) by simp only [hu i z hz]] at this;exact this
theorem tB (w:World) (l:Nat) (body vt t:ByteArray) (t0:Value) (ht1:decide (t.size<=100)=true) (htz:t.size<=1000) (hl:l < w.heap.size) (c0:w.cell? l=some t0) (f0:w.frozen? l=false)
  (HV:Hid (QB 189 #[body,.string ⟨#[47,84,105,116,108,101]⟩,oz] w vt))
  (HS:Hid (∀ wx,af w wx->QB 225 #[vt] wx (.tuple #[t,true]))):
  CP 193 #[zp l,body] w fun e w'=>e=.returned true/\∃ wx,af w wx/\w'=wx.setCell l t:=by
 have HT:=ai (fun wx=>jc wx t (by omega));rw [ht1] at HT;go_enter func193,ntmps193
 go_wp2_with fail
 refine HV.out.mono ?_;rintro e w1 ⟨rfl,hb1⟩;go_wp2_with fail
 refine (HS.out _ hb1).mono ?_;rintro e w2 ⟨rfl,hb2⟩;replace hb2:=af.trans hb1 hb2;replace c0:w2.cell? l=some t0:=(Zc hb2 (p:=l) hl).trans c0;replace f0:w2.frozen? l=false:=(Below.frozen hb2 (p:=l) hl).trans f0;clear HV HS hb1;go_wp2_with fail
 refine (HT.out _).mono ?_;rintro e w3 ⟨rfl,rfl⟩;clear HT c0 f0;go_wp2;go_ret;exact ⟨rfl,w2,hb2,rfl⟩
theorem uk (w:World) (B l:Nat) (x:ip) (S:Bl) (body:ByteArray) (t:List UInt8) (hp:sB body t) (hsz:body.size<=2000000000) (ht:t.length<=100) (hB:B<=w.heap.size) (hm:fH B w) (h:cw B l x w S):
  CP 193 #[zp l,body] w fun e w'=>e=.returned true/\∃ S',cw B l {x with ti:=⟨t.toArray⟩} w' S'/\Mv S w S' w':=by
 obtain ⟨aa,ks,ac,kc,am,km,h⟩:=h.open;obtain ⟨S1,hc,_,_⟩:=ah.fst (io.thing B x _ _ _) h;refine (tB w l body ⟨(bc t).toArray⟩ ⟨t.toArray⟩ _ (by simp [ae];exact ht) (by rw [ae];omega) hc.2.2.1 (hc.at 0 _ rfl) (hc.fz 0) ?_ ?_).mono ?_
 ·have:=ex body kI 0 w hsz (by omega) hp.pl;rw [hp.i] at this;exact this
 ·intro wx hg;exact jY wx _ t ht (by simp) (by have:=hg.size;have:=hm.1;omega)
 ·rintro e w' ⟨rfl,wx,hg,rfl⟩;have hx:=(ah.thing (aS.thing _ _ _) (io.thing B x _ _ _)).grow h hg;obtain ⟨S2,hc2,_,back⟩:=ah.fst (io.thing B x _ _ _) hx;obtain ⟨k3,m3⟩:=hc2.set 0 (.string ⟨t.toArray⟩) (by simp);obtain ⟨S4,h4,m4⟩:=back _ _ _ k3 m3;exact ⟨rfl,S4,⟨(.slice aa x.sh.length ks,.slice ac x.cs.length kc,.slice am x.ms.length km),h4⟩,(Mv.grow hg S).trans m4⟩
theorem ui (w:World) (B l n cap p:Nat) (ad:Option Addr) (xs:List Value) (body vt vd t:ByteArray) (lp:Int) (ZZ:Ending->World->Prop) (hn:n < 20) (ht1:decide (0 < t.size/\t.size<=100)=true) (htz:t.size<=1000) (hlp:decide ((p:Int) < lp)=false) (hp:p<=1000) (hl:l < w.heap.size) (hB:B<=w.heap.size) (c3:w.cell? (zq l 3)=some (.slice ad n cap)) (f3:w.frozen? (zq l 3)=false) (ow:w.ownsRow B 98 2 (.slice ad n cap) n xs) (ne:(Value.slice ad n cap).ownBlock≠some l)
  (HV:Hid (QB 189 #[body,.string ⟨#[47,84,105,116,108,101]⟩,oz] w vt))
  (HS:Hid (∀ wx,af w wx->QB 225 #[vt] wx (.tuple #[t,true])))
  (HD:Hid (∀ wx,af w wx->QB 189 #[body,.string ⟨#[47,68,101,115,116]⟩,(1:Int)] wx vd))
  (HP:Hid (∀ wx,af w wx->QB 226 #[zp l,vd] wx (p:Int)))
  (HL:Hid (∀ wx,af w wx->QD 227 #[zp l] wx lp))
  (HZ:Hid (∀ v wx w7,af w wx->wx.grownBy w7 (Value.slice ad n cap).ownBlock->gq wx (Value.slice ad n cap).ownBlock B 98 2 (n+1) (xs++[.string t,.int .i64 (p:Int)]) v w7->ZZ (.returned true) (w7.setCell (zq l 3) v))):
  CP 192 #[zp l,body] w ZZ:=by
 have HT:=ai (fun wx=>jB wx t (by omega));rw [ht1] at HT;go_enter func192,ntmps192
 go_wp2_with fail
 refine HV.out.mono ?_;rintro e w1 ⟨rfl,hb1⟩;go_wp2_with fail
 refine (HS.out _ hb1).mono ?_;rintro e w2 ⟨rfl,hb2⟩;replace hb2:=af.trans hb1 hb2;go_wp2_with fail
 refine (HD.out _ hb2).mono ?_;rintro e w3 ⟨rfl,hb3⟩;replace hb3:=af.trans hb2 hb3;go_wp2_with fail
 refine (HP.out _ hb3).mono ?_;rintro e w4 ⟨rfl,hb4⟩;replace hb4:=af.trans hb3 hb4;clear HV HS HD HP hb1 hb2 hb3;replace c3:w4.cell? (zq l 3)=some (.slice ad n cap):=(Zc hb4 (p:=zq l 3) hl).trans c3;replace f3:w4.frozen? (zq l 3)=false:=(Below.frozen hb4 (p:=zq l 3) hl).trans f3;replace ow:w4.ownsRow B 98 2 (.slice ad n cap) n xs:=oY ow hb4;replace hB:B<=w4.heap.size:=ZU hB hb4.size;replace hl:l < w4.heap.size:=ZK hl hb4.size;have dn:((n:Int)==20)=false:=by simp;omega
 go_wp2_with fail
 refine (HT.out _).mono ?_;rintro e w5 ⟨rfl,rfl⟩;go_wp2_with fail
 refine (HL.out _ hb4).mono ?_;rintro e w6 ⟨rfl,qq,rfl⟩;clear HT HL;replace c3:(w5.drewN qq).cell? (zq l 3)=some (.slice ad n cap):=c3;replace f3:(w5.drewN qq).frozen? (zq l 3)=false:=f3;replace ow:(w5.drewN qq).ownsRow B 98 2 (.slice ad n cap) n xs:=ow;replace hB:B<=(w5.drewN qq).heap.size:=hB;replace hl:l < (w5.drewN qq).heap.size:=hl;replace hb4:af w (w5.drewN qq):=⟨hb4.os,hb4.tape,hb4.output,hb4.size,hb4.block⟩;generalize w5.drewN qq=w6 at c3 f3 ow hB hl hb4 ⊢;go_wp2_with (at_builtin;refine bQ rfl (.tmp 39) (.tmp 43) 27 rfl 98 (.agg #[.string ⟨#[]⟩,oz]) 2 24 Tryz.infoMk3 rfl (by omega) underlying27 B _ n xs rfl (ow.alloc _) (by simp;omega) ⟨w6,0,none⟩ 1 rfl [.string t,.int .i64 (p:Int)] rfl (zM w6 _ _) (by intro u hu;simp at hu;rcases hu with rfl | rfl <;> rfl) (by omega) (by omega) ?_)
 intro v7 w7 hO7 hg7 hat7;obtain ⟨hg8,ha8⟩:=vC hO7 hg7 hat7;have HX:=ai (HZ.out _ w6 w7 hb4 hg8 ha8);obtain ⟨ad7,cap7,hv7⟩:=ha8.form;subst hv7;have kb:=hg8.block l hl (fun e=>ne e.symm);have k1:=(ZQ (a:=zq l 3) kb).trans c3;have kf1:=(ZH (a:=zq l 3) kb).trans f3;clear kb c3 f3 ow hO7 hg7 hat7 HZ ha8 hg8;go_wp2
 first
  | exact HX.out
  | (go_ret;exact HX.out)
def jG (ms:List (ByteArray×Nat)):Nat:=match ms.getLast? with | some m=>m.2 | none=>0
theorem ue (w:World) (B l:Nat) (x:ip) (S:Bl) (hx:x.ms.length<=20) (h:cw B l x w S):
  QD 227 #[zp l] w (jG x.ms:Int):=by
 obtain ⟨aa,ks,ac,kc,am,km,h⟩:=h.open;obtain ⟨S1,S2,hc,⟨S3,S4,_,⟨S5,S6,_,hr,_⟩,_⟩,_⟩:=h;have c3:=hc.at 3 _ rfl;obtain ⟨ad,cap,he,hcap,hcap2,hcell⟩:=aW.lies (B:=B) (e:=98) (z:=2) hr
 cases he
 rcases List.eq_nil_or_concat x.ms with h0 | ⟨r,m,hrm⟩
 ·rw [h0] at c3;have:jG x.ms=0:=by rw [h0];rfl
  rw [this];exact sN w l km am c3
 ·have hlen:x.ms.length=r.length+1:=by rw [hrm];simp
  obtain ⟨g,rfl,hg,hcells⟩:=hcell (by omega);rw [hlen] at c3 hcap;have hl:jG x.ms=m.2:=by rw [hrm];simp [jG]
  rw [hl];have hx2:x.ms[r.length]? =some m:=by rw [hrm];simp
  exact sO w l g r.length km (by omega) hcap (m.2:Int) c3 (hcells _ _ (s_ x.ms r.length m hx2).2)
theorem wI (w:World) (B l n p:Nat) (x:ip) (S:Bl) (body:ByteArray) (t:List UInt8) (hp:vA body t n) (hsz:body.size<=2000000000) (ht1:0 < t.length/\t.length<=100) (hpx:p < x.sh.length) (hx:x.sh.length<=80) (hn:∀ z∈x.sh,z.1<=1000000) (hu:∀ (i:Nat) z,x.sh[i]? =some z->(z.1=n↔i=p)) (hms:x.ms.length < 20) (hle:jG x.ms<=p) (hB:B<=w.heap.size) (ht:bU B w) (hm:fH B w) (h:cw B l x w S):
  CP 192 #[zp l,body] w fun e w'=>e=.returned true/\∃ S',cw B l {x with ms:=x.ms++[(⟨t.toArray⟩,p)]} w' S'/\Mv S w S' w':=by
 have hL:=h;obtain ⟨aa,ks,ac,kc,am,km,h⟩:=h.open;have rot:∀ {A P Q R:As} {w:World} {S:Bl},ah A (ah P (ah Q R)) w S->ah A (ah R (ah P Q)) w S:=fun h=>ah.mapR h fun _ _ k=>ah.swap (ah.assocR k)
 obtain ⟨c3,ow,ne,f3,hl,_⟩:=mi (i:=3) (ah.thing (aW.thing _ _ _ _ _ _) (aW.thing _ _ _ _ _ _)) rfl (rot h);have hb:∀ wx,af w wx->B<=wx.heap.size/\bU B wx/\fH B wx:=fun wx hg=>⟨ZU hB hg.size,ht.on (YY hg hB),hm.on (YY hg hB)⟩
 refine ui w B l x.ms.length km p am (iz x.ms) body ⟨(bc t).toArray⟩ ⟨(Lib.itoa (n:Int)).toArray⟩ ⟨t.toArray⟩ (jG x.ms:Int) _ hms (by simp only [ae];exact Zt ht1) (by rw [ae];omega) (by simp;omega) (by omega) hl hB c3 f3 ow ne ?_ ?_ ?_ ?_ ?_ ?_
 ·have:=ex body kI 0 w hsz (by omega) hp.pl;rw [hp.i] at this;exact this
 ·intro wx hg;exact jY wx _ t ht1.2 (by simp) (by have:=hg.size;have:=hm.1;omega)
 ·intro wx hg;have:=ex body kD 1 wx hsz (by omega) hp.pl;rw [hp.d1] at this;exact this
 ·intro wx hg;obtain ⟨a,b,c⟩:=hb wx hg;exact ug wx B l n p x S hpx hx hn hu a b ((cw.thing B l x).grow hL hg)
 ·intro wx hg;exact ue wx B l x S (by omega) ((cw.thing B l x).grow hL hg)
 ·intro v wx w7 hg hgb ha;have hx:=(ah.thing (aS.thing _ _ _) (io.thing B x _ _ _)).grow h hg;obtain ⟨_,_,_,_,_,hgr⟩:=mi (i:=3) (ah.thing (aW.thing _ _ _ _ _ _) (aW.thing _ _ _ _ _ _)) rfl (rot hx);obtain ⟨S',h',m'⟩:=hgr _ _ v w7 hgb ha;refine ⟨rfl,S',⟨(.slice aa x.sh.length ks,.slice ac x.cs.length kc,v),?_⟩,(Mv.grow hg S).trans m'⟩;have h9:=ah.mapR h' fun _ _ k=>ah.assoc (ah.swap k)
  unfold io;dsimp only;have e:iz (x.ms++[(⟨t.toArray⟩,p)])=iz x.ms++[.string ⟨t.toArray⟩,.int .i64 (p:Int)]:=nf _ _;rw [e,ZY];exact h9
theorem Ds (w:World) (l cL:Nat) (body:ByteArray) (vf vt vd vi:ByteArray) (h1:vf.toList.isEmpty=true) (h2:(vt.toList==[47,80,97,103,101])=false) (h3:vd.toList.isEmpty=true) (h4:vi.toList.isEmpty=true)
  (HF:Hid (∀ wx,QB 189 #[body,.string ⟨#[47,70,105,108,116,101,114]⟩,oz] wx vf))
  (HT:Hid (∀ wx,QB 189 #[body,.string ⟨#[47,84,121,112,101]⟩,oz] wx vt))
  (HD:Hid (∀ wx,QB 189 #[body,.string ⟨#[47,68,101,115,116]⟩,oz] wx vd))
  (HI:Hid (∀ wx,QB 189 #[body,.string ⟨#[47,84,105,116,108,101]⟩,oz] wx vi)):
  QB 143 #[zp l,(cL:Int),body] w true:=by
 go_enter func143,ntmps143
 go_wp2_with fail
 refine (HF.out _).mono ?_;rintro e w1 ⟨rfl,hb1⟩;go_wp2_with fail
 refine (HT.out _).mono ?_;rintro e w2 ⟨rfl,hb2⟩;replace hb2:=af.trans hb1 hb2;go_wp2_with fail
 refine (HD.out _).mono ?_;rintro e w3 ⟨rfl,hb3⟩;replace hb3:=af.trans hb2 hb3;go_wp2_with fail
 refine (HI.out _).mono ?_;rintro e w4 ⟨rfl,hb4⟩;replace hb4:=af.trans hb3 hb4;clear HF HT HD HI;go_wp2;go_ret;exact ⟨rfl,hb4⟩
theorem wJ (w:World) (l cL:Nat) (body:ByteArray) (vf:ByteArray) (Z:Ending->World->Prop) (h1:vf.toList.isEmpty=false)
  (HF:Hid (∀ wx,QB 189 #[body,.string ⟨#[47,70,105,108,116,101,114]⟩,oz] wx vf))
  (HC:Hid (∀ wx,af w wx->CP 190 #[zp l,body] wx fun e w'=>(∃ v,e=.returned v)/\Z (.returned true) w')):
  CP 143 #[zp l,(cL:Int),body] w Z:=by
 go_enter func143,ntmps143
 go_wp2_with fail
 refine (HF.out _).mono ?_;rintro e w1 ⟨rfl,hb1⟩;go_wp2_with fail
 refine (HC.out _ hb1).mono ?_;rintro e w2 ⟨⟨v,rfl⟩,hZ⟩;clear HF HC;go_wp2
 first
  | exact hZ
  | (go_ret;exact hZ)
theorem Dt (w:World) (l cL:Nat) (body:ByteArray) (vf vt:ByteArray) (Z:Ending->World->Prop) (h1:vf.toList.isEmpty=true) (h2:(vt.toList==[47,80,97,103,101])=true)
  (HF:Hid (∀ wx,QB 189 #[body,.string ⟨#[47,70,105,108,116,101,114]⟩,oz] wx vf))
  (HT:Hid (∀ wx,QB 189 #[body,.string ⟨#[47,84,121,112,101]⟩,oz] wx vt))
  (HC:Hid (∀ wx,af w wx->CP 191 #[zp l,(cL:Int),body] wx fun e w'=>∃ v,e=.returned v/\Z (.returned v) w')):
  CP 143 #[zp l,(cL:Int),body] w Z:=by
 go_enter func143,ntmps143
 go_wp2_with fail
 refine (HF.out _).mono ?_;rintro e w1 ⟨rfl,hb1⟩;go_wp2_with fail
 refine (HT.out _).mono ?_;rintro e w2 ⟨rfl,hb2⟩;replace hb2:=af.trans hb1 hb2;go_wp2_with fail
 refine (HC.out _ hb2).mono ?_;rintro e w9 ⟨v,rfl,hZ⟩;clear HF HC;go_wp2
 first
  | exact hZ
  | (go_ret;exact hZ)
theorem Dq (w:World) (l cL:Nat) (body:ByteArray) (vf vt vd:ByteArray) (Z:Ending->World->Prop) (h1:vf.toList.isEmpty=true) (h2:(vt.toList==[47,80,97,103,101])=false) (h3:vd.toList.isEmpty=false)
  (HF:Hid (∀ wx,QB 189 #[body,.string ⟨#[47,70,105,108,116,101,114]⟩,oz] wx vf))
  (HT:Hid (∀ wx,QB 189 #[body,.string ⟨#[47,84,121,112,101]⟩,oz] wx vt))
  (HD:Hid (∀ wx,QB 189 #[body,.string ⟨#[47,68,101,115,116]⟩,oz] wx vd))
  (HC:Hid (∀ wx,af w wx->CP 192 #[zp l,body] wx fun e w'=>∃ v,e=.returned v/\Z (.returned v) w')):
  CP 143 #[zp l,(cL:Int),body] w Z:=by
 go_enter func143,ntmps143
 go_wp2_with fail
 refine (HF.out _).mono ?_;rintro e w1 ⟨rfl,hb1⟩;go_wp2_with fail
 refine (HT.out _).mono ?_;rintro e w2 ⟨rfl,hb2⟩;replace hb2:=af.trans hb1 hb2;go_wp2_with fail
 refine (HD.out _).mono ?_;rintro e w3 ⟨rfl,hb3⟩;replace hb3:=af.trans hb2 hb3;go_wp2_with fail
 refine (HC.out _ hb3).mono ?_;rintro e w9 ⟨v,rfl,hZ⟩;clear HF HC;go_wp2
 first
  | exact hZ
  | (go_ret;exact hZ)
theorem B4 (w:World) (l cL:Nat) (body:ByteArray) (vf vt vd vi:ByteArray) (Z:Ending->World->Prop) (h1:vf.toList.isEmpty=true) (h2:(vt.toList==[47,80,97,103,101])=false) (h3:vd.toList.isEmpty=true) (h4:vi.toList.isEmpty=false)
  (HF:Hid (∀ wx,QB 189 #[body,.string ⟨#[47,70,105,108,116,101,114]⟩,oz] wx vf))
  (HT:Hid (∀ wx,QB 189 #[body,.string ⟨#[47,84,121,112,101]⟩,oz] wx vt))
  (HD:Hid (∀ wx,QB 189 #[body,.string ⟨#[47,68,101,115,116]⟩,oz] wx vd))
  (HI:Hid (∀ wx,QB 189 #[body,.string ⟨#[47,84,105,116,108,101]⟩,oz] wx vi))
  (HC:Hid (∀ wx,af w wx->CP 193 #[zp l,body] wx fun e w'=>∃ v,e=.returned v/\Z (.returned v) w')):
  CP 143 #[zp l,(cL:Int),body] w Z:=by
 go_enter func143,ntmps143
 go_wp2_with fail
 refine (HF.out _).mono ?_;rintro e w1 ⟨rfl,hb1⟩;go_wp2_with fail
 refine (HT.out _).mono ?_;rintro e w2 ⟨rfl,hb2⟩;replace hb2:=af.trans hb1 hb2;go_wp2_with fail
 refine (HD.out _).mono ?_;rintro e w3 ⟨rfl,hb3⟩;replace hb3:=af.trans hb2 hb3;go_wp2_with fail
 refine (HI.out _).mono ?_;rintro e w4 ⟨rfl,hb4⟩;replace hb4:=af.trans hb3 hb4;go_wp2_with fail
 refine (HC.out _ hb4).mono ?_;rintro e w9 ⟨v,rfl,hZ⟩;clear HF HC;go_wp2
 first
  | exact hZ
  | (go_ret;exact hZ)
inductive um
 | no
 | con (Z:List UInt8)
 | pg (W H:Int)
 | mk (t:List UInt8) (n p:Nat)
 | ti (t:List UInt8)
def ip.eff (x:ip) (cL:Nat):um->ip
 | .no=>x
 | .con Z=>{x with cs:=x.cs++[Z]}
 | .pg W H=>{x with sh:=x.sh++[(cL,W,H)]}
 | .mk t _ p=>{x with ms:=x.ms++[(⟨t.toArray⟩,p)]}
 | .ti t=>{x with ti:=⟨t.toArray⟩}
def DE (b:List UInt8):um->Prop
 | .no=>∀ s:ByteArray,s.data.toList=b->sD s
 | .con Z=>∃ n,b=qw n Z
 | .pg W H=>(∀ s:ByteArray,s.data.toList=b->zw s W H)/\bG W 1 14400000/\bG H 1 14400000
 | .mk t n _=>∀ s:ByteArray,s.data.toList=b->vA s t n
 | .ti t=>∀ s:ByteArray,s.data.toList=b->sB s t
def GE (x:ip) (cL:Nat):um->Prop
 | .no=>True
 | .con _=>x.cs.length<=1000
 | .pg _ _=>x.sh.length < 80/\cL<=100000
 | .mk t n p=>(0 < t.length/\t.length<=100)/\p < x.sh.length/\x.sh.length<=80/\(∀ z∈x.sh,z.1<=1000000)/\(∀ (i:Nat) z,x.sh[i]? =some z->(z.1=n↔i=p))/\x.ms.length < 20/\jG x.ms<=p
 | .ti t=>t.length<=100
theorem jA {s:ByteArray} (h:s=⟨#[]⟩):s.toList.isEmpty=true:=by rw [h,Zm];rfl
theorem mL {c:UInt8} {r:List UInt8}:(⟨(c::r).toArray⟩:ByteArray).toList.isEmpty=false:=by rw [Zm];rfl
theorem Gt {s:ByteArray} (h:s≠kP):(s.toList==[47,80,97,103,101])=false:=by
 apply Bool.eq_false_iff.2;intro e;apply h;have:=beq_iff_eq.1 e;rw [Zm] at this;exact Zd (Array.toList_inj.1 this)
theorem EV (w:World) (B l cL:Nat) (x:ip) (S:Bl) (s:ByteArray) (b:List UInt8) (e:um) (hs:s.data.toList=b) (hsz:s.size<=2000000000) (hSay:DE b e) (hF:GE x cL e) (hB:B<=w.heap.size) (ht:bU B w) (hm:fH B w) (h:cw B l x w S):
  CP 143 #[zp l,(cL:Int),s] w fun e' w'=>e'=.returned true/\∃ S',cw B l (x.eff cL e) w' S'/\Mv S w S' w':=by
 have hg:∀ wx,af w wx->B<=wx.heap.size/\bU B wx/\fH B wx/\cw B l x wx S:=fun wx hg=>⟨ZU hB hg.size,ht.on (YY hg hB),hm.on (YY hg hB),(cw.thing B l x).grow h hg⟩
 cases e with
 | no=>
  have q:=hSay s hs;have V:=fun (key:ByteArray) wx=>ex s key 0 wx hsz (by omega) q.pl
  refine (Ds w l cL s _ _ _ _ (jA q.f) (Gt q.t) (jA q.d) (jA q.i) (V kF) (V kT) (V kD) (V kI)).mono ?_;rintro e' w' ⟨rfl,hb⟩;exact ⟨rfl,S,(cw.thing B l x).grow h hb,Mv.grow hb S⟩
 | con Z=>
  obtain ⟨n,hn⟩:=hSay;have q:=Fq n Z (hs.trans hn);refine wJ w l cL s _ _ ?_ (fun wx=>ex s kF 0 wx hsz (by omega) q.pl) ?_
  ·rw [q.f];exact mL (c:=47) (r:=[70,108,97,116,101,68,101,99,111,100,101])
  ·intro wx hgx;obtain ⟨a,_,c,d⟩:=hg wx hgx;refine (rU wx B l x S s n Z (hs.trans hn) hsz hF a c d).mono ?_;rintro e' w' ⟨hv,S',k,m⟩;exact ⟨hv,rfl,S',k,(Mv.grow hgx S).trans m⟩
 | pg W H=>
  obtain ⟨hp,hW,hH⟩:=hSay;have q:=hp s hs;have V:=fun (key:ByteArray) wx=>ex s key 0 wx hsz (by omega) q.pl
  refine Dt w l cL s _ _ _ (jA q.f) ?_ (V kF) (V kT) ?_
  ·rw [q.t,Zm];rfl
  ·intro wx hgx;obtain ⟨a,b',c,d⟩:=hg wx hgx;refine (uj wx B l cL x S s W H q hsz hW hH hF.1 hF.2 a b' c d).mono ?_;rintro e' w' ⟨rfl,S',k,m⟩;exact ⟨_,rfl,rfl,S',k,(Mv.grow hgx S).trans m⟩
 | mk t n p=>
  have q:=hSay s hs;have V:=fun (key:ByteArray) wx=>ex s key 0 wx hsz (by omega) q.pl
  obtain ⟨f1,f2,f3,f4,f5,f6,f7⟩:=hF;refine Dq w l cL s _ _ _ _ (jA q.f) (by rw [q.ty,Zm];rfl) ?_ (V kF) (V kT) (V kD) ?_
  ·rw [q.d];exact mL (c:=91) (r:=[])
  ·intro wx hgx;obtain ⟨a,b',c,d⟩:=hg wx hgx;refine (wI wx B l n p x S s t q hsz f1 f2 f3 f4 f5 f6 f7 a b' c d).mono ?_;rintro e' w' ⟨rfl,S',k,m⟩;exact ⟨_,rfl,rfl,S',k,(Mv.grow hgx S).trans m⟩
 | ti t=>
  have q:=hSay s hs;have V:=fun (key:ByteArray) wx=>ex s key 0 wx hsz (by omega) q.pl
  refine B4 w l cL s _ _ _ _ _ (jA q.f) (by rw [q.ty,Zm];rfl) (jA q.d) ?_ (V kF) (V kT) (V kD) (V kI) ?_
  ·rw [q.i];have e:bc t=40::(bH t++[41]):=rfl;rw [e];exact mL
  ·intro wx hgx;obtain ⟨a,_,c,d⟩:=hg wx hgx;refine (uk wx B l x S s t q hsz hF a c d).mono ?_;rintro e' w' ⟨rfl,S',k,m⟩;exact ⟨_,rfl,rfl,S',k,(Mv.grow hgx S).trans m⟩
def run:ip->Nat->List um->ip
 | x,_,[]=>x
 | x,n,e::r=>run (x.eff n e) (n+1) r
theorem ng:∀ (a b:List um) (x:ip) (n:Nat),run x n (a++b)=run (run x n a) (n+a.length) b
 | [],b,x,n=>rfl
 | e::a,b,x,n=>by
  simp only [ZE,run,ng a b,ZX];congr 1;omega
def nY:ip->Nat->List um->List (List UInt8)->Prop
 | _,_,[],[]=>True
 | x,n,e::es,b::bs=>DE b e/\GE x n e/\nY (x.eff n e) (n+1) es bs
 | _,_,_,_=>False
theorem jo:∀ (e1:List um) (b1:List (List UInt8)) (e2:List um) (b2:List (List UInt8)) (x:ip) (n:Nat),nY x n e1 b1->nY (run x n e1) (n+e1.length) e2 b2->nY x n (e1++e2) (b1++b2)
 | [],[],e2,b2,x,n,_,h=>h
 | [],b::b1,e2,b2,x,n,h,_=>h.elim
 | e::e1,[],e2,b2,x,n,h,_=>h.elim
 | e::e1,b::b1,e2,b2,x,n,⟨h1,h2,h3⟩,h=>⟨h1,h2,jo e1 b1 e2 b2 _ _ h3 (by simp only [run,ZX] at h;rw [show n+1+e1.length=n+(e1.length+1) by omega];exact h)⟩
theorem u6:∀ (es:List um) (bs:List (List UInt8)) (x:ip) (n:Nat),nY x n es bs->es.length=bs.length
 | [],[],_,_,_=>rfl
 | [],_::_,_,_,h=>h.elim
 | _::_,[],_,_,h=>h.elim
 | e::es,b::bs,x,n,h=>by simp [u6 es bs _ _ h.2.2]
theorem yA:∀ (es:List um) (bs:List (List UInt8)) (x:ip) (n j:Nat) (hj:j < bs.length) (hj':j < es.length),nY x n es bs->DE bs[j] es[j]/\GE (run x n (es.take j)) (n+j) es[j]
 | [],[],_,_,j,hj,_,_=>absurd hj (by simp)
 | [],_::_,_,_,_,_,_,h=>h.elim
 | _::_,[],_,_,_,_,_,h=>h.elim
 | e::es,b::bs,x,n,0,_,_,h=>⟨h.1,h.2.1⟩
 | e::es,b::bs,x,n,j+1,hj,hj',h=>by
  have:=yA es bs (x.eff n e) (n+1) j (by simpa using hj) (by simpa using hj') h.2.2;simp only [List.getElem_cons_succ,List.take_succ_cons,run];rw [show n+(j+1)=n+1+j by omega];exact this
theorem EM (es:List um) (x:ip) (n j:Nat) (hj:j < es.length):run x n (es.take (j+1))=(run x n (es.take j)).eff (n+j) es[j]:=by
 rw [Zv hj,ng,Ze,Yr (by omega)];rfl
def sG:List (List UInt8)->List um
 | []=>[]
 | Z::r=>.con Z::.no::sG r
theorem xm:∀ l,(sG l).length=2*l.length
 | []=>rfl
 | Z::r=>by simp only [sG,ZX,xm r];omega
theorem xn:∀ (Zs:List (List UInt8)) (x:ip) (n:Nat),run x n (sG Zs)={x with cs:=x.cs++Zs}
 | [],x,n=>by simp [sG,run]
 | Z::r,x,n=>by simp only [sG,run,ip.eff,xn r];simp
theorem Cb:∀ (Zs:List (List UInt8)) (i:Nat) (x:ip) (n:Nat),x.cs.length+Zs.length<=1000->nY x n (sG Zs) (kQ i Zs)
 | [],_,_,_,_=>trivial
 | Z::r,i,x,n,h=>by
  simp only [ZX] at h;refine ⟨⟨_,rfl⟩,(show x.cs.length<=1000 by omega),fun s hs=>Df _ hs,trivial,Cb r (i+1) _ _ ?_⟩;simp [ip.eff];omega
def Gk (zs:List (Int×Int)):List um:=zs.map fun z=>.pg z.1 z.2
def ri:Nat->List (Int×Int)->List (Nat×Int×Int)
 | _,[]=>[]
 | n,z::r=>(n,z.1,z.2)::ri (n+1) r
theorem nh:∀ (zs:List (Int×Int)) (n:Nat),(ri n zs).length=zs.length
 | [],_=>rfl
 | z::r,n=>by simp [ri,nh r]
theorem BS:∀ (zs:List (Int×Int)) (n i:Nat) y,(ri n zs)[i]? =some y->y.1=n+i
 | [],n,i,y,h=>by simp [ri] at h
 | z::r,n,0,y,h=>by simp [ri] at h;rw [<-h];rfl
 | z::r,n,i+1,y,h=>by
  have:=BS r (n+1) i y (by simpa [ri] using h);omega
theorem wE:∀ (zs:List (Int×Int)) (n:Nat),(ri n zs).map (·.2)=zs
 | [],_=>rfl
 | z::r,n=>by simp [ri,wE r]
theorem Cl:∀ (zs:List (Int×Int)) (x:ip) (n:Nat),run x n (Gk zs)={x with sh:=x.sh++ri n zs}
 | [],x,n=>by simp [Gk,run,ri]
 | z::r,x,n=>by
  have:=Cl r {x with sh:=x.sh++[(n,z.1,z.2)]} (n+1);show run {x with sh:=x.sh++[(n,z.1,z.2)]} (n+1) (Gk r)=_
  rw [this];simp [ri]
theorem EC (font p:Nat):∀ (zs:List (Int×Int)) (i:Nat) (x:ip) (n:Nat),x.sh.length+zs.length<=80->n+zs.length<=100000->(∀ z∈zs,bG z.1 1 14400000/\bG z.2 1 14400000)->nY x n (Gk zs) (ed font p i zs)
 | [],_,_,_,_,_,_=>trivial
 | z::r,i,x,n,h,hn,hz=>by
  simp only [ZX] at h hn;refine ⟨⟨fun s hs=>Ft font p i z hs,hz z (by simp)⟩,⟨by omega,by omega⟩,EC font p r (i+1) _ _ ?_ (by omega) (fun y hy=>hz y (by simp [hy]))⟩;simp [ip.eff];omega
def Gx (n:Nat):List um:=List.replicate n .no
theorem Ci:∀ (k:Nat) (x:ip) (n:Nat),run x n (Gx k)=x
 | 0,_,_=>rfl
 | k+1,x,n=>Ci k x (n+1)
theorem Em:∀ (bs:List (List UInt8)) (x:ip) (n:Nat),(∀ b∈bs,DE b .no)->nY x n (Gx bs.length) bs
 | [],_,_,_=>trivial
 | b::r,x,n,h=>⟨h b (by simp),trivial,Em r _ _ (fun c hc=>h c (by simp [hc]))⟩
theorem ys (p f c s:Nat):∀ b∈bS p f c s,DE b .no:=by
 induction c using Nat.strongRecOn generalizing f s with
 | _ c ih=>
  intro b hb;rw [bS] at hb;split at hb
  ·simp only [Zk,YQ,or_false] at hb;subst hb;exact fun s hs=>th _ _ _ _ hs
  ·rcases Zu.1 hb with hb | hb
   ·obtain ⟨g,_,rfl⟩:=YA.1 hb;exact fun s hs=>th _ _ _ _ hs
   ·exact ih _ (by omega) _ _ b hb
def FY (fp:Nat) (ms:List (List UInt8×Nat)):List um:=ms.map fun m=>.mk m.1 (fp+m.2) m.2
def FW (ms:List (List UInt8×Nat)):List (ByteArray×Nat):=ms.map fun m=>(⟨m.1.toArray⟩,m.2)
theorem Ch (fp:Nat):∀ (ms:List (List UInt8×Nat)) (x:ip) (n:Nat),run x n (FY fp ms)={x with ms:=x.ms++FW ms}
 | [],x,n=>by simp [FY,FW,run]
 | m::r,x,n=>by
  have:=Ch fp r {x with ms:=x.ms++[(⟨m.1.toArray⟩,m.2)]} (n+1);show run {x with ms:=x.ms++[(⟨m.1.toArray⟩,m.2)]} (n+1) (FY fp r)=_
  rw [this];simp [FW]
def pz:Nat->List (List UInt8×Nat)->Prop
 | _,[]=>True
 | p,m::r=>p<=m.2/\pz m.2 r
theorem xV (l:List (ByteArray×Nat)) (m:ByteArray×Nat):jG (l++[m])=m.2:=by simp [jG]
theorem Ei (fp all M:Nat) (zs:List (Int×Int)) (hz:zs.length<=80) (hfp:fp<=100000):∀ (ms:List (List UInt8×Nat)) (i:Nat) (x:ip) (n:Nat),x.sh=ri fp zs->x.ms.length+ms.length<=20->(∀ m∈ms,(0 < m.1.length/\m.1.length<=100)/\m.2 < zs.length)->pz (jG x.ms) ms->nY x n (FY fp ms) (bK all M fp i ms)
 | [],_,_,_,_,_,_,_=>trivial
 | m::r,i,x,n,hx,hl,hm,hs=>by
  simp only [ZX] at hl;obtain ⟨h1,h2⟩:=hm m (by simp);refine ⟨fun s hs=>Fs all M fp i m.1 m.2 hs,⟨h1,?_,?_,?_,?_,by omega,hs.1⟩,Ei fp all M zs hz hfp r (i+1) _ _ hx ?_ (fun y hy=>hm y (by simp [hy])) ?_⟩
  ·rw [hx,nh];exact h2
  ·rw [hx,nh];exact hz
  ·intro z hzz;rw [hx] at hzz;obtain ⟨k,hk⟩:=List.getElem?_of_mem hzz;have:=BS zs fp k z hk;have hk2:=(Zx.1 hk).1;rw [nh] at hk2;omega
  ·intro k z hk;rw [hx] at hk;have:=BS zs fp k z hk;omega
  ·simp [ip.eff];omega
  ·show pz (jG (x.ms++[(⟨m.1.toArray⟩,m.2)])) r
   rw [xV];exact hs.2
def xv (Zs:List (List UInt8)) (zs:List (Int×Int)) (ms:List (List UInt8×Nat)) (t:List UInt8):List um:=
 sG Zs++((([.no]++(Gk zs++Gx (bS zs.length (cK Zs+1) zs.length 1).length))++(if ms=[] then [] else .no::FY (cK Zs+1) ms))++((if t=[] then [] else [.ti t])++[.no]))
def Bh (Zs:List (List UInt8)) (zs:List (Int×Int)) (ms:List (List UInt8×Nat)) (t:List UInt8):ip:=⟨⟨t.toArray⟩,ri (cK Zs+1) zs,Zs,FW ms⟩
def qI:ip:=⟨⟨#[]⟩,[],[],[]⟩
theorem Fa (Zs:List (List UInt8)) (zs:List (Int×Int)) (ms:List (List UInt8×Nat)) (t:List UInt8) (hl:Zs.length=zs.length) (hz:zs.length<=80) (hzs:∀ z∈zs,bG z.1 1 14400000/\bG z.2 1 14400000) (hm:ms.length<=20) (hms:∀ m∈ms,(0 < m.1.length/\m.1.length<=100)/\m.2 < zs.length) (hso:pz 0 ms) (ht:t.length<=100):
  nY qI 1 (xv Zs zs ms t) (bX Zs zs ms t)/\run qI 1 (xv Zs zs ms t)=Bh Zs zs ms t:=by
 have hfn:cK Zs=2*zs.length+1:=by rw [cK,hl]
 have e1:1+(sG Zs).length=cK Zs:=by rw [xm,cK];omega
 have eAll:bX Zs zs ms t=kQ 0 Zs++((([nC]++(ed (cK Zs) zs.length 0 zs++bS zs.length (cK Zs+1) zs.length 1))++dd (cK Zs+(b_ (cK Zs) zs).length) (cK Zs+1) ms)++((if t=[] then [] else [vx t])++[vu (fJ (cK Zs) zs) (rI (cK Zs) zs ms)])):=by
  simp [bX,cI,dG,eG,b_]
 have r1:run qI 1 (sG Zs)={qI with cs:=Zs}:=by rw [xn];rfl
 have r2:∀ n,run {qI with cs:=Zs} n ([.no]++(Gk zs++Gx (bS zs.length (cK Zs+1) zs.length 1).length))=⟨⟨#[]⟩,ri (n+1) zs,Zs,[]⟩:=by
  intro n;rw [ng,ng,Ci,Cl];simp [run,ip.eff,qI]
 have r3:∀ n x,run x n (if ms=[] then [] else .no::FY (cK Zs+1) ms)={x with ms:=x.ms++FW ms}:=by
  intro n x;split
  ·next h=>subst h;simp [run,FW]
  ·show run (x.eff n .no) (n+1) (FY (cK Zs+1) ms)=_
   rw [Ch];rfl
 have r4:∀ n x,x.ti=⟨#[]⟩->run x n ((if t=[] then [] else [.ti t])++[.no])={x with ti:=⟨t.toArray⟩}:=by
  intro n x hx;split
  ·next h=>subst h;simp [run,ip.eff, <-hx]
  ·simp [run,ip.eff]
 constructor
 ·rw [eAll];unfold xv;refine jo _ _ _ _ _ _ (Cb Zs 0 qI 1 (by simp [qI];omega)) ?_;rw [r1,e1];refine jo _ _ _ _ _ _ (jo _ _ _ _ _ _ (jo [.no] [nC] _ _ _ _ ⟨fun s hs=>BH hs,trivial,trivial⟩ ?_) ?_) ?_
  ·refine jo _ _ _ _ _ _ (EC _ _ zs 0 _ _ ?_ ?_ hzs) (Em _ _ _ (ys _ _ _ _))
   ·simp [run,ip.eff,qI];omega
   ·simp;omega
  ·rw [r2];unfold dd;split
   ·trivial
   ·refine ⟨fun s hs=>BL _ _ hs,trivial,Ei (cK Zs+1) _ _ zs hz (by omega) ms 0 _ _ rfl ?_ hms hso⟩;simp [ip.eff];omega
  ·by_cases ht0:t=[]
   ·rw [ZN ht0,ZN ht0];exact ⟨fun s hs=>u7 _ _ hs,trivial,trivial⟩
   ·rw [ZO ht0,ZO ht0];exact ⟨fun s hs=>D7 t hs,ht,fun s hs=>u7 _ _ hs,trivial,trivial⟩
 ·unfold xv;obtain ⟨A,hA⟩:∃ A,[um.no]++(Gk zs++Gx (bS zs.length (cK Zs+1) zs.length 1).length)=A:=⟨_,rfl⟩;obtain ⟨M,hM⟩:∃ M,(if ms=[] then [] else um.no::FY (cK Zs+1) ms)=M:=⟨_,rfl⟩;obtain ⟨T,hT⟩:∃ T,(if t=[] then [] else [um.ti t])++[.no]=T:=⟨_,rfl⟩;rw [hA] at r2;rw [hM] at r3;rw [hT] at r4;rw [hA,hM,hT,ng (sG Zs) (A++M++T),r1,e1,ng (A++M) T,ng A M,r2,r3,r4 _ _ rfl];simp [Bh]
theorem yZ (w:World) (B:Nat) (s:ByteArray) (A l1 l2 l3 R nb tl:List UInt8) (hs:s.data.toList=A++((l1++10::(l2++10::(l3++10::R)))++([115,116,97,114,116,120,114,101,102,10]++(nb++10::tl)))) (h1:(10:UInt8) ∉ l1) (h2:(10:UInt8) ∉ l2) (h3:(10:UInt8) ∉ l3) (hn:(10:UInt8) ∉ nb) (hnl:nb.length<=18) (hat:Lib.atoi nb=some (A.length:Int))
  (hlast:Lib.lastIndex s.data.toList [115,116,97,114,116,120,114,101,102,10]=((A++(l1++10::(l2++10::(l3++10::R)))).length:Int)) (hsz:s.size<=2000000000) (hm:fH B w) (hB:B<=w.heap.size):
  QB 219 #[s] w (.tuple #[(A.length:Int),.string ⟨R.toArray⟩]):=by
 obtain ⟨T,hT⟩:∃ T,l1++10::(l2++10::(l3++10::R))=T:=⟨_,rfl⟩;rw [hT] at hs hlast;obtain ⟨E,hE⟩:∃ E,(A++T).length=E:=⟨_,rfl⟩;have hEl:E=A.length+T.length:=by rw [<-hE,ZY]
 have hsl:s.size=E+(10+(nb.length+1+tl.length)):=by rw [<-aP,hs,hEl];simp;omega
 have e1:(s.extract (E+10) s.size).data.toList=nb++10::tl:=by
  rw [Zg,YV];simp only [List.extract];have:s.data.toList=(A++T++[115,116,97,114,116,120,114,101,102,10])++(nb++10::tl):=by rw [hs];simp
  rw [this,List.drop_left' (by simp at hE ⊢;omega),Zy (by simp;omega)]
 have e2:(s.extract A.length E).data.toList=T:=by
  rw [Zg,YV];simp only [List.extract];rw [hs,List.drop_left,List.take_left' (by omega)]
 have HLa:=ai (Tryz.strings_LastIndex s ⟨#[115,116,97,114,116,120,114,101,102,10]⟩ (by omega) w);simp only [hlast,hE] at HLa;obtain ⟨m1,m2⟩:=hm;obtain ⟨m,hmc⟩:=m2;have HC1:=ai (Tryz.strings_Cut (s.extract (E+10) s.size) ⟨#[10]⟩ m w (by simp;omega) hmc);rw [e1] at HC1;simp only [vU 10 nb tl hn] at HC1;have HAt:=ai (fun q=>Tryz.strconv_Atoi ⟨nb.toArray⟩ (A.length:Int) (by rw [ae];omega) (by simpa using hat) (w.drewN q));have d1:¬ (E:Int) < 0:=by omega
 have HCT:Hid (∀ (a b:List UInt8),(10:UInt8) ∉ a->a.length+b.length < 2000000000->∀ wx,Below w w wx->CP 221 #[.string ⟨(a++10::b).toArray⟩,.string ⟨#[10]⟩] wx fun e w'=>e=.returned (.tuple #[.string ⟨a.toArray⟩,.string ⟨b.toArray⟩,true])/\∃ n,w'=wx.drewN n):=by
  intro a b ha hab wx hb;have:=Tryz.strings_Cut ⟨(a++10::b).toArray⟩ ⟨#[10]⟩ m wx (by rw [ae];simp;omega) ((hb.cell (p:=zp 1) (by show 1 < _;omega)).trans hmc);simpa only [vU 10 a b ha] using this
 have HT2:Hid (s.extract A.length E=⟨(l1++10::(l2++10::(l3++10::R))).toArray⟩):=by
  show _=_
  rw [hT];exact Zd (Array.toList_inj.1 (by rw [e2]))
 have hTl:T.length=l1.length+(1+(l2.length+(1+(l3.length+(1+R.length))))):=by rw [<-hT];simp;omega
 clear hlast hs e1 e2 hT hE hat;obtain ⟨al,hal⟩:∃ al,A.length=al:=⟨_,rfl⟩;rw [hal] at HAt HT2 hEl ⊢;clear hal hmc;have b1:E+10<=s.size:=by omega
 have b2:al<=E:=by omega
 obtain ⟨X,HX0,HX,HX3⟩:∃ X:Nat->List UInt8,Hid (X 0=l1++10::(l2++10::(l3++10::R)))/\Hid (∀ k,k < 3->∃ a,X k=a++10::X (k+1)/\(10:UInt8) ∉ a/\a.length+(X (k+1)).length < 2000000000)/\Hid (X 3=R):=by
  refine ⟨fun k=>match k with | 0=>l1++10::(l2++10::(l3++10::R)) | 1=>l2++10::(l3++10::R) | 2=>l3++10::R | _=>R,rfl,?_,rfl⟩;intro k hk
  match k,hk with
  | 0,_=>exact ⟨l1,rfl,h1,by simp;omega⟩
  | 1,_=>exact ⟨l2,rfl,h2,by simp;omega⟩
  | 2,_=>exact ⟨l3,rfl,h3,by show l3.length+R.length < _;omega⟩
 have HT3:Hid (s.extract al E=⟨(X 0).toArray⟩):=by show _=_;rw [HX0.out];exact HT2.out
 have dd1:decide ((E:Int) < 0)=false:=by simp
 have dd2:decide ((al:Int) < 0)=false:=by simp
 have dd3:decide (E < al)=false:=by simp;omega
 have dd4:decide ((E:Int) < (al:Int))=false:=by simp;omega
 clear hsl hTl hEl hnl hn h1 h2 h3 HT2 HX0;go_enter func219,ntmps219
 go_wp2_with fail
 refine HLa.out.mono ?_;rintro e w1 ⟨rfl,rfl⟩;clear HLa;go_wp2_with fail
 refine HC1.out.mono ?_;rintro e w2 ⟨rfl,q,rfl⟩;clear HC1;go_wp2_with fail
 refine (HAt.out q).mono ?_;rintro e w3 ⟨rfl,t3,rfl⟩;go_wp2_with fail
 have hb0:Below w1 w1 (Lib.bytesWorld (w1.drewN q) 5 t3):=by
  have h:=Lib.bytesWorld_below (w1.drewN q) 5 t3;exact ⟨h.os,h.tape,h.output,h.size,h.block⟩
 go_loopg [10,44] 5 (fun g x y wr=>∃ k:Nat,k<=3/\4 - k<=g/\x=.string ⟨(X k).toArray⟩/\y=.int .i64 (k:Int)/\Below w1 w1 wr)
 case atStart=>exact ⟨0,by omega,by omega,by rw [HT3.out],rfl,hb0⟩
 case round=>
  obtain ⟨k,hk,hg,rfl,rfl,hbr⟩:=hrel;by_cases h3:k < 3
  ·obtain ⟨a,ha,hna,hla⟩:=HX.out k h3;have HC:=ai (HCT.out a (X (k+1)) hna hla wr hbr);rw [ha];have d:(k:Int) < 3:=by omega
   clear ha hna hla;go_wp2_with fail
   refine HC.out.mono ?_;rintro e w5 ⟨rfl,n5,rfl⟩;go_wp2;go_roundg (gk - 1)
   case measure=>omega
   case rel=>exact ⟨k+1,by omega,by omega,rfl,by congr 1,⟨hbr.os,hbr.tape,hbr.output,hbr.size,hbr.block⟩⟩
  ·have e3:k=3:=by omega
   subst e3;go_wp2;go_ret2;exact ⟨by rw [HX3.out];rfl,hbr⟩
section
open Go.RowKit Go.Shelf
attribute [local go_sem] Oper.semAt_some
def nA (B:Nat) (w:World):Prop:=2 < B/\∃ ev,w.cell? ⟨2,0,none⟩=some ev/\(ev=.nilIface\/∃ te pe,ev=.iface te pe)
theorem nA.on {B:Nat} {w w':World} (h:nA B w) (hb:Below B w w'):nA B w':=by
 obtain ⟨h2,ev,hc,he⟩:=h;exact ⟨h2,ev,(hb.cell (p:=⟨2,0,none⟩) h2).trans hc,he⟩
def B_ (L:List Nat) (i:Nat) (args:Array Value) (i':Nat):Prop:=∃ h:i < L.length,i'=i+1/\args=#[.int .i64 ((L[i]:Nat):Int)]
theorem Dj (a b:List Nat):bR (a++b)=bR a++bR b:=by
 induction a with
 | nil=>rfl
 | cons x r ih=>simp only [ZE,bR,ih,ZS]
def FO:Value->Nat
 | .string r=>r.size
 | _=>0
theorem zE (B b:Nat) (s:ByteArray) (at_:Nat) (L:List Nat) (tr:List UInt8) (xi:World->Prop) (hpre:∀ w w',xi w->Below B w w'->xi w') (hpe:∀ w,xi w->nA B w)
  (HT:Hid (∀ W,xi W->B<=W.heap.size->QB 219 #[s] W (.tuple #[.int .i64 (at_:Int),.string ⟨(bR L++tr).toArray⟩])))
  (hrow:∀ n∈L,(gr n).length=10/\Lib.atoi (gr n)=some (n:Int)) (htl:20<=tr.length) (hno:Lib.atoi (tr.take 10)=none) (hsz:(bR L++tr).length<=2000000000):
  tO Fence.wide prog 218 #[zp b] B (aS B b [.string s]) xi 0 (fun _=>True) (B_ (L++[at_])) (fun i=>i=L.length+1):=by
 rintro l K Kx hK hKx _ W hp hBW hY S h0;have hCt:=aS.thing B b [.string s];obtain ⟨SC,kC,_,_⟩:=ah.fst (hK 0) h0;have c0:W.cell? ⟨b,0,none⟩=some (.string s):=kC.at 0 _ rfl;have HN:=ai (HT.out W hp hBW);have H0:=ai h0;have hge:=fun k=>(ah.thing hCt (hK 0)).ge (k:=k) h0
 clear h0 kC HT;refine callsIn_of_wp func218 rfl trivial ?_ rfl;show (Code.wpIn _ _ _ _ _ _ _)
 simp only [ntmps218,List.size_toArray,ZX,ZR,Nat.reduceAdd,Nat.reduceSub,Array.replicate_succ,Array.replicate_zero,List.push_toArray,List.append_toArray,Zq,ZE]
 gi_wp2
 refine ⟨trivial,rfl,(callsIn_wide.2 HN.out).mono ?_⟩;rintro e W1 ⟨rfl,hb1⟩;have HS0:=ai ((ah.thing hCt (hK 0)).grow H0.out hb1);have HM1:=ai (Mv.grow hb1 S);clear HN H0 hb1
 gi_wp2
 have HBA:∀ i,i < L.length+1->i < (L++[at_]).length:=fun i h=>by simp;omega
 gi_loopw [4] (fun v wr=>∃ (i:Nat) (S':Bl),i<=L.length/\v=.string ⟨(bR (L.drop i)++tr).toArray⟩/\ah (aS B b [.string s]) (K i) wr S'/\Mv S W S' wr) (fun v _=>FO v)
 case atStart=>exact ⟨0,S,by omega,rfl,HS0.out,HM1.out⟩
 case round=>
  obtain ⟨i,S',hi,rfl,hst,hmv⟩:=hrel;have hbw:Below B W wr:=hmv.below hge hBW;have hlen:(bR (L.drop i)++tr).length<=2000000000:=by
   have h1:bR L=bR (L.take i)++bR (L.drop i):=by rw [<-Dj,Yq]
   rw [h1] at hsz;simp only [ZY] at hsz ⊢;omega
  by_cases hlt:i < L.length
  ·obtain ⟨n,hn⟩:∃ n,L[i]=n:=⟨_,rfl⟩;obtain ⟨Y,hYe⟩:∃ Y,bR (L.drop (i+1))++tr=Y:=⟨_,rfl⟩;obtain ⟨ht10,hat⟩:=hrow n (by rw [<-hn];exact Yp hlt);have hX:bR (L.drop i)++tr=gr n++([32,48,48,48,48,48,32,110,32,10]++Y):=by
    rw [Zn hlt,hn, <-hYe];simp [bR,ux]
   rw [hX] at hlen ⊢;obtain ⟨X,hXX⟩:∃ X,X=(⟨(gr n++([32,48,48,48,48,48,32,110,32,10]++Y)).toArray⟩:ByteArray):=⟨_,rfl⟩;have hXs:X.size=20+Y.length:=by rw [hXX,ae];simp [ht10];omega
   have x1:X.extract 0 10=⟨(gr n).toArray⟩:=by
    refine Zd (Array.toList_inj.1 ?_);rw [hXX,Zg,YV];simp only [List.extract,List.drop_zero,Nat.sub_zero];rw [List.take_left' ht10]
   have x2:X.extract 20 X.size=⟨Y.toArray⟩:=by
    refine Zd (Array.toList_inj.1 ?_);rw [jF,hXX, <-ZS];exact List.drop_left' (by simp [ht10])
   have hXl:X.size<=2000000000:=by rw [hXX,ae];exact hlen
   have h20:20<=X.size:=by omega
   have HS:Hid (X.size=20+Y.length):=hXs;have CA:=ai (fun wx=>Tryz.strconv_Atoi ⟨(gr n).toArray⟩ (n:Int) (by rw [ae,ht10];omega) (by simpa using hat) wx);have d20:decide ((20:Int)<=(X.size:Int))=true:=by simp;omega
   rw [<-hXX];have HX2:=ai x2;clear hXX hXs hX hlen hat x2
   gi_wp2
   refine ⟨trivial,rfl,(callsIn_wide.2 (CA.out wr)).mono ?_⟩;rintro e w2 ⟨rfl,t2,rfl⟩;have hb2:Below wr wr (Lib.bytesWorld wr 5 t2):=Lib.bytesWorld_below wr 5 t2;obtain ⟨w2,hw2⟩:∃ w2,Lib.bytesWorld wr 5 t2=w2:=⟨_,rfl⟩;rw [hw2] at hb2 ⊢;clear hw2 CA;have hst2:=(ah.thing hCt (hK i)).grow hst hb2;have hmv2:=hmv.trans (Mv.grow hb2 S');obtain ⟨SK,kK,_,backK⟩:=ah.snd hCt hst2;have hLi:(L++[at_])[i]'(HBA i (by omega))=n:=by rw [List.getElem_append_left hlt];exact hn
   obtain ⟨fn,tmps,assign,body,hy,hR⟩:=hY i _ _ w2 SK ⟨HBA i (by omega),rfl,rfl⟩ kK (hmv2.below hge hBW);rw [hLi] at hy
   gi_wp2
   refine ⟨rfl,hR.mono ?_⟩;rintro e w3 (⟨rfl,SK3,kK3,mK3⟩ | ⟨rfl,SK3,kK3,mK3⟩)
   ·obtain ⟨S3,hst3,m3⟩:=backK _ _ _ kK3 mK3
    gi_wp2
    go_roundw
    case rel=>exact ⟨i+1,S3,by omega,by rw [HX2.out, <-hYe],hst3,hmv2.trans m3⟩
    case measure=>
     rw [HX2.out];show (⟨Y.toArray⟩:ByteArray).size < X.size
     rw [ae,HS.out];omega
   ·obtain ⟨S3,hst3,m3⟩:=backK _ _ _ kK3 mK3
    gi_wp2
    refine YT (results_none rfl _ _ _) rfl ?_;exact ⟨⟨_,rfl⟩,.inr ⟨S3,hst3,hmv2.trans m3⟩⟩
  ·have hil:i=L.length:=by omega
   subst hil;have hX:bR (L.drop L.length)++tr=tr:=by rw [List.drop_length];rfl
   rw [hX] at hlen ⊢;obtain ⟨X,hXX⟩:∃ X,X=(⟨tr.toArray⟩:ByteArray):=⟨_,rfl⟩;have hXs:X.size=tr.length:=by rw [hXX,ae]
   have x1:X.extract 0 10=⟨(tr.take 10).toArray⟩:=by
    refine Zd (Array.toList_inj.1 ?_);rw [hXX,Zg,YV];simp only [List.extract,List.drop_zero,Nat.sub_zero]
   have hXl:X.size<=2000000000:=by omega
   have h20:20<=X.size:=by omega
   obtain ⟨_,ev,hev,hsh⟩:=(hpe _ (hpre _ _ hp hbw));have CA:=ai (Tryz.strconv_Atoi_err ⟨(tr.take 10).toArray⟩ (by rw [ae,Ze];omega) (by simpa using hno) ev wr hev hsh);have d20:decide ((20:Int)<=(X.size:Int))=true:=by simp;omega
   rw [<-hXX];clear hXX hXs hX hlen
   gi_wp2
   refine ⟨trivial,rfl,(callsIn_wide.2 CA.out).mono ?_⟩;rintro e w2 ⟨N,rfl,_,_,hb2⟩;clear CA;have hst2:=(ah.thing hCt (hK L.length)).grow hst hb2;have hmv2:=hmv.trans (Mv.grow hb2 S');obtain ⟨SK,kK,_,backK⟩:=ah.snd hCt hst2;have hLi:(L++[at_])[L.length]'(HBA _ (by omega))=at_:=by simp
   obtain ⟨fn,tmps,assign,body,hy,hR⟩:=hY L.length _ _ w2 SK ⟨HBA _ (by omega),rfl,rfl⟩ kK (hmv2.below hge hBW);rw [hLi] at hy
   gi_wp2
   refine ⟨rfl,hR.mono ?_⟩;rintro e w3 (⟨rfl,SK3,kK3,mK3⟩ | ⟨rfl,SK3,kK3,mK3⟩)
   ·obtain ⟨S3,hst3,m3⟩:=backK _ _ _ kK3 mK3
    gi_wp2
    go_end0;exact ⟨⟨_,rfl⟩,.inl ⟨_,S3,rfl,hst3,hmv2.trans m3⟩⟩
   ·obtain ⟨S3,hst3,m3⟩:=backK _ _ _ kK3 mK3
    gi_wp2
    go_end0;exact ⟨⟨_,rfl⟩,.inr ⟨S3,hst3,hmv2.trans m3⟩⟩
end
section
open Go.RowKit Go.Shelf
attribute [local go_sem] Oper.semAt_some
theorem zB (s:ByteArray) (w:World):
  CP 187 #[s] w fun e W'=>e=.returned (.func (.func 218) #[] #[zp w.heap.size])/\W'=w.alloc (.cells #[s] 9):=by
 have hmf:∀ (fn:Fn) (first cap:Array Value) (w:World),(Instr.makeFunc fn first cap).run prog w=.ok (.func fn first cap) w:=fun _ _ _ _=>rfl
 go_enter func187,ntmps187
 go_wp2;go_ret;exact ⟨rfl,rfl⟩
theorem yw (s:ByteArray) (w:World):
  CP 142 #[s] w fun e W'=>e=.returned (.func (.func 186) #[] #[zp w.heap.size])/\W'=w.alloc (.cells #[s] 9):=by
 have hmf:∀ (fn:Fn) (first cap:Array Value) (w:World),(Instr.makeFunc fn first cap).run prog w=.ok (.func fn first cap) w:=fun _ _ _ _=>rfl
 go_enter func142,ntmps142
 go_wp2;go_ret;exact ⟨rfl,rfl⟩
def Cj (bods:List (List UInt8)) (j:Nat) (args:Array Value) (j':Nat):Prop:=∃ h:j < bods.length,j'=j+1/\args=#[.int .i64 ((j+1:Nat):Int),.string ⟨(bods[j]).toArray⟩]
def B9 (M:List Nat) (i:Nat):Nat:=if i=0 then 0 else M.getD (i - 1) 0
theorem yy (B b:Nat) (s:ByteArray) (M:List Nat) (bods:List (List UInt8)) (xi:World->Prop) (hpre:∀ w w',xi w->Below B w w'->xi w') (hM:M.length=bods.length+1) (hbl:bods.length<=1000000) (hsz:s.size<=2000000000)
  (hmono:∀ i (h:i < M.length),B9 M i<=M[i]/\M[i]<=s.size)
  (HQ:Hid (∀ b,tO Fence.wide prog 218 #[zp b] B (aS B b [.string s]) xi 0 (fun _=>True) (B_ M) (fun i=>i=bods.length+1)))
  (HBo:Hid (∀ i (h:i+1 < M.length) (h':i < bods.length) W,xi W->B<=W.heap.size->QB 188 #[.string (s.extract (B9 M (i+1)) M[i+1])] W (.string ⟨(bods[i]).toArray⟩))):
  tO Fence.wide prog 186 #[zp b] B (aS B b [.string s]) xi 0 (fun _=>True) (Cj bods) (fun j=>j=bods.length):=by
 rintro l K Kx hK hKx _ W hp hBW hY S h0;have hCt:=aS.thing B b [.string s];obtain ⟨SC,kC,_,_⟩:=ah.fst (hK 0) h0;have c0:W.cell? ⟨b,0,none⟩=some (.string s):=kC.at 0 _ rfl;have hge:=fun k=>(ah.thing hCt (hK 0)).ge (k:=k) h0
 have HO:=ai (zB s);have hblw:b < W.heap.size:=ZD W _ c0;obtain ⟨n,hn⟩:∃ n,W.heap.size=n:=⟨_,rfl⟩;obtain ⟨W3,hW3⟩:∃ W3,((W.alloc (Obj.cells #[Value.func (Fn.yield l) #[] #[]] 189)).alloc (Obj.cells #[Value.int IntKind.i64 0] 3)).alloc (Obj.cells #[Value.int IntKind.i64 0] 3)=W3:=⟨_,rfl⟩;have hb3:Below n W W3:=by
  rw [<-hW3, <-hn];exact (((ZT _ W).alloc (ZW _) _).alloc (by simp) _).alloc (by simp;omega) _
 have hz3:W3.heap.size=n+1+1+1:=by rw [<-hW3];simp [hn]
 have c3:W3.cell? ⟨b,0,none⟩=some (.string s):=(hb3.cell (p:=⟨b,0,none⟩) (by show b < n;omega)).trans c0;have bx3:∃ S3,Bx B n [[.func (.yield l) #[] #[]],[.int .i64 0],[.int .i64 0]] W3 S3:=by
  obtain ⟨S1,b1⟩:=(Bx.nil B W hBW).snoc [.func (.yield l) #[] #[]] 189 (by simp);obtain ⟨S2,b2⟩:=b1.snoc [.int .i64 0] 3 (by simp);obtain ⟨S3,b3⟩:=b2.snoc [.int .i64 0] 3 (by simp);rw [hn,hW3] at b3;exact ⟨S3,b3⟩
 obtain ⟨S3,b3⟩:=bx3;obtain ⟨a1,a2⟩:=ah.new (ah.thing hCt (hK 0)) h0 b3 (by rw [hn];exact hb3) (fun k e=>by rw [b3.1] at e;rw [hn];exact e.1);have hB3:B<=W3.heap.size:=by omega
 have hC4:=aS.alloc (B:=B) (vs:=[.string s]) (w:=W3) (t:=9) hB3;obtain ⟨a3,a4⟩:=ah.new (ah.thing (Bx.thing B _ _) (ah.thing hCt (hK 0))) a1 hC4 ((ZT _ _).alloc (ZW _) _) (fun k e=>Nat.le_of_eq (Eq.symm e));have a5:=a2.trans a4;have hB4:B<=(W3.alloc (Obj.cells #[Value.string s] 9)).heap.size:=by simp;omega
 have hbel4:Below B W (W3.alloc (Obj.cells #[Value.string s] 9)):=a5.below hge hBW;have HA:=ai a3;have HM:=ai a5;have HK0:=ai h0;clear a1 a2 a3 a4 a5 hC4 b3 h0;refine callsIn_of_wp_marks func186 rfl trivial ?_ rfl;simp only [ntmps186,List.size_toArray,ZX,ZR,Nat.reduceAdd,Nat.reduceSub,Array.replicate_succ,Array.replicate_zero,List.push_toArray,List.append_toArray,Zq,ZE];rw [<-hW3] at c3;have HW3:=ai hW3;have HN:=ai hn;have HZ3:=ai hz3;clear hW3 hn hz3
 gi_wp2
 refine ⟨trivial,rfl,(callsIn_wide.2 (HO.out _)).mono ?_⟩;rintro e W' ⟨rfl,rfl⟩;have hn:=HN.out;have hz3:=HZ3.out;have hW3:=HW3.out;rw [hW3] at c3 ⊢;rw [hz3] at HA HM ⊢;obtain ⟨W4,hW4⟩:∃ W4,W3.alloc (Obj.cells #[Value.string s] 9)=W4:=⟨_,rfl⟩;rw [hW4] at HA HM hB4 hbel4 ⊢;have hz4:n+1+1+1 < W4.heap.size:=by rw [<-hW4];simp;omega
 rw [hn];clear hW4 hW3 HO c3 c0 kC HN HZ3 HW3 hz3 hn
 gi_wp2
 refine ot (B:=B) rfl (fun _=>trivial) rfl rfl (enters_of func218 (by kernel_rfl) rfl) (HQ.out _) (fun W1 hb=>hpre _ _ (hpre _ _ hp hbel4) hb) (aS.thing _ _ _) ?hps
  (fun i=>ah (Bx B n [[.func (.yield l) #[] #[]],[.int .i64 (i:Int)],[.int .i64 (B9 M i:Int)]]) (ah (aS B b [.string s]) (K (i - 1))))
  (fun j W S=>∃ i:Nat,j=.ret/\ah (Bx B n [[.func (.yield l) #[] #[]],[.int .i64 (i:Int)],[.int .i64 (B9 M i:Int)]]) (ah (aS B b [.string s]) Kx) W S) ?hI ?hIx (fun a _ _ _=>trivial) hB4 HA.out ?round ?done ?stop
 case hps=>
  rintro a args a' ⟨_,_,rfl⟩;rfl
 case hI=>exact fun a=>ah.thing (Bx.thing _ _ _) (ah.thing hCt (hK _))
 case hIx=>exact fun j=>aJ.any fun i=>aJ.pure (ah.thing (Bx.thing _ _ _) (ah.thing hCt hKx))
 case round=>
  rintro l' i args i' W0 ⟨hi,rfl,rfl⟩
  gi_wp2
  refine ⟨trivial,?_⟩;rintro W5 S5 h5 hb5;obtain ⟨R1,bx,_,backB⟩:=ah.fst (ah.thing hCt (hK _)) h5;obtain ⟨R2,kc,_,_⟩:=ah.mid (Bx.thing _ _ _) (hK _) h5;obtain ⟨R3,kk,_,backK⟩:=ah.third (Bx.thing _ _ _) hCt h5;have y0:W5.cell? ⟨n,0,none⟩=some (.func (.yield l) #[] #[]):=bx.at 0 0 _ _ rfl rfl;have y1:W5.cell? ⟨n+1,0,none⟩=some (.int .i64 (i:Int)):=bx.at 1 0 _ _ rfl rfl;have y2:W5.cell? ⟨n+1+1,0,none⟩=some (.int .i64 (B9 M i:Int)):=bx.at 2 0 _ _ rfl rfl;have yb:W5.cell? ⟨b,0,none⟩=some (.string s):=kc.at 0 _ rfl;obtain ⟨hm1,hm2⟩:=hmono i hi;obtain ⟨nx,hnx⟩:∃ nx,M[i]=nx:=⟨_,rfl⟩;obtain ⟨av,hav⟩:∃ av,B9 M i=av:=⟨_,rfl⟩;have HB1:Hid (∀ (_:0 < i) (h2:i - 1 < bods.length) (W:World),xi W->B<=W.heap.size->QB 188 #[.string (s.extract (B9 M i) M[i])] W (.string ⟨(bods[i - 1]).toArray⟩)):=by
   intro h' h2;have:=HBo.out (i - 1) (by omega) h2;have e:i - 1+1=i:=by omega
   simp only [e] at this;exact this
  simp only [hnx,hav] at HB1 hm1 hm2 y2 ⊢;have ln0:n < W5.heap.size:=by have:=hb5.size;omega
  have ln1:n+1 < W5.heap.size:=by have:=hb5.size;omega
  have ln2:n+1+1 < W5.heap.size:=by have:=hb5.size;omega
  have lnb:b < W5.heap.size:=ZD W5 _ yb;have q1:decide (nx < av)=false:=by simp;omega
  have q2:decide (s.size < nx)=false:=by simp;omega
  have q3:decide ((nx:Int) < (av:Int))=false:=by simp;omega
  have q4:decide ((s.size:Int) < (nx:Int))=false:=by simp;omega
  have ln0:n < W5.heap.size:=by have:=hb5.size;omega
  have ln1:n+1 < W5.heap.size:=by have:=hb5.size;omega
  have ln2:n+1+1 < W5.heap.size:=by have:=hb5.size;omega
  have lnb:b < W5.heap.size:=ZD W5 _ yb;have q1:decide (nx < av)=false:=by simp;omega
  have q2:decide (s.size < nx)=false:=by simp;omega
  have q3:decide ((nx:Int) < (av:Int))=false:=by simp;omega
  have q4:decide ((s.size:Int) < (nx:Int))=false:=by simp;omega
  have ln0:n < W5.heap.size:=by have:=hb5.size;omega
  have ln1:n+1 < W5.heap.size:=by have:=hb5.size;omega
  have ln2:n+1+1 < W5.heap.size:=by have:=hb5.size;omega
  have lnb:b < W5.heap.size:=ZD W5 _ yb;have q1:decide (nx < av)=false:=by simp;omega
  have q2:decide (s.size < nx)=false:=by simp;omega
  have q3:decide ((nx:Int) < (av:Int))=false:=by simp;omega
  have q4:decide ((s.size:Int) < (nx:Int))=false:=by simp;omega
  by_cases h0i:i=0
  ·subst h0i
   gi_wp2
   refine qN (fun _=>trivial) 10 _ (ag [(0:Int),false,false,undef,undef,undef,undef,undef,undef,undef]) (by kernel_rfl) rfl (by kernel_rfl) (by kernel_rfl) aq ?_;simp only [TD];refine ⟨fun w1 hG hd=>?_,fun v0=>?_⟩
   ·clear hd;have cc:=(Zc hG (p:=⟨n+1,0,none⟩) ln1).trans y1
    gi_wp2
    exact RG
   simp only [TN];refine ⟨fun w1 hG hd=>?_,fun v1=>?_⟩
   ·have d0:v0=.int .i64 0:=hd ⟨0,.data⟩ (by simp) rfl;clear hd;subst d0
    gi_wp2
    exact RG
   simp only [TN];refine ⟨fun w1 hG hd=>?_,fun v2=>?_⟩
   ·have d1:v1=.bool false:=hd ⟨1,.data⟩ (by simp) rfl;clear hd;subst d1
    gi_wp2
    exact RG
   simp only [TN];refine ⟨fun w1 hG hd=>?_,fun v3=>?_⟩
   ·have d2:v2=.bool false:=hd ⟨2,.guard⟩ (by simp) rfl;clear hd;subst d2
    gi_wp2
    exact RG
   simp only [TN];refine ⟨fun w1 hG hd=>?_,fun v4=>?_⟩
   ·have d2:v2=.bool false:=hd ⟨2,.guard⟩ (by simp) rfl;clear hd;subst d2
    gi_wp2
    exact RG
   simp only [TN];refine ⟨fun w1 hG hd=>?_,fun v5=>?_⟩
   ·have d2:v2=.bool false:=hd ⟨2,.guard⟩ (by simp) rfl;clear hd;subst d2
    gi_wp2
    exact RG
   simp only [TN];refine ⟨fun w1 hG hd=>?_,fun v6=>?_⟩
   ·have d2:v2=.bool false:=hd ⟨2,.guard⟩ (by simp) rfl;clear hd;subst d2
    gi_wp2
    exact RG
   simp only [TN];refine ⟨fun w1 hG hd=>?_,fun v7=>?_⟩
   ·have d2:v2=.bool false:=hd ⟨2,.guard⟩ (by simp) rfl;clear hd;subst d2
    gi_wp2
    exact RG
   simp only [TN];refine ⟨fun w1 hG hd=>?_,fun v8=>?_⟩
   ·have d5:v5=undef:=hd ⟨5,.data⟩ (by simp) rfl;have d6:v6=undef:=hd ⟨6,.data⟩ (by simp) rfl;have d7:v7=undef:=hd ⟨7,.data⟩ (by simp) rfl;have d2:v2=.bool false:=hd ⟨2,.guard⟩ (by simp) rfl;clear hd;subst d5 d6 d7 d2
    gi_wp2
    exact RG
   simp only [TN];refine ⟨fun w1 hG hd=>?_,fun v9=>?_⟩
   ·have d8:v8=undef:=hd ⟨8,.data⟩ (by simp) rfl;have d2:v2=.bool false:=hd ⟨2,.guard⟩ (by simp) rfl;clear hd;subst d8 d2
    gi_wp2
    refine ⟨trivial,?_⟩
    gi_wp2
    exact RG
   simp only [TN];intro w1 hG hd;have d0:v0=.int .i64 0:=hd 0 (by omega);have d1:v1=.bool false:=hd 1 (by omega);have d2:v2=.bool false:=hd 2 (by omega);have d3:v3=undef:=hd 3 (by omega);have d4:v4=undef:=hd 4 (by omega);have d5:v5=undef:=hd 5 (by omega);have d6:v6=undef:=hd 6 (by omega);have d7:v7=undef:=hd 7 (by omega);have d8:v8=undef:=hd 8 (by omega);have d9:v9=undef:=hd 9 (by omega);subst d0 d1 d2 d3 d4 d5 d6 d7 d8 d9;clear hd;have h6:=(ah.thing (Bx.thing _ _ _) (ah.thing hCt (hK _))).grow h5 hG;obtain ⟨R6,bx6,_,backB6⟩:=ah.fst (ah.thing hCt (hK _)) h6;have z1:w1.cell? ⟨n+1,0,none⟩=some (.int .i64 0):=bx6.at 1 0 _ _ rfl rfl;have z2:w1.cell? ⟨n+1+1,0,none⟩=some (.int .i64 (av:Int)):=by rw [<-hav];exact bx6.at 2 0 _ _ rfl rfl
   have f1:w1.frozen? ⟨n+1,0,none⟩=false:=bx6.fz 1 0 (by simp);have f2:w1.frozen? ⟨n+1+1,0,none⟩=false:=bx6.fz 2 0 (by simp)
   gi_wp2
   refine ⟨(fun _ h=>nomatch h),?_⟩
   gi_wp2
   obtain ⟨b1,m1⟩:=bx6.set 1 0 _ (.int .i64 ((0+1:Nat):Int)) rfl (by simp);obtain ⟨b2,m2⟩:=b1.set 2 0 _ (.int .i64 (nx:Int)) rfl (by simp);obtain ⟨S7,h7,m7⟩:=backB6 _ _ _ b2 (m1.trans m2);refine ⟨S7,?_,(Mv.grow hG S5).trans m7⟩;have ea:B9 M (0+1)=nx:=by rw [<-hnx];simp [B9,hi]
   dsimp only;rw [ea];exact h7
  ·have hi1:i - 1 < bods.length:=by omega
   obtain ⟨bd,hbd⟩:∃ bd,bods[i - 1]=bd:=⟨_,rfl⟩;have HB2:Hid (∀ w1,af W5 w1->QB 188 #[.string (s.extract av nx)] w1 (.string ⟨bd.toArray⟩)):=by
    intro w1 hG;have:=HB1.out (by omega) hi1 w1 (hpre _ _ hp (hbel4.trans (hb5.trans (hG.mono (ZU hB4 hb5.size))))) (ZU hB4 (ZU hb5.size hG.size));rw [hbd] at this;exact this
   have p1:decide ((0:Int) < (i:Int))=true:=by simp;omega
   have p2:decide (0 < i)=true:=by simp;omega
   gi_wp2
   refine qN (fun _=>trivial) 10 _ (ag [.int .i64 (i:Int),true,true,.func (.yield l) #[] #[],.int .i64 (i:Int),s,.int .i64 (av:Int),.int .i64 (nx:Int),.string (s.extract av nx),.string ⟨bd.toArray⟩]) (by kernel_rfl) rfl (by kernel_rfl) (by kernel_rfl) aq ?_;simp only [TD];refine ⟨fun w1 hG hd=>?_,fun v0=>?_⟩
   ·clear hd;have cc:=(Zc hG (p:=⟨n+1,0,none⟩) ln1).trans y1
    gi_wp2
    exact RG
   simp only [TN];refine ⟨fun w1 hG hd=>?_,fun v1=>?_⟩
   ·have d0:v0=.int .i64 (i:Int):=hd ⟨0,.data⟩ (by simp) rfl;clear hd;subst d0
    gi_wp2
    exact RG
   simp only [TN];refine ⟨fun w1 hG hd=>?_,fun v2=>?_⟩
   ·have d1:v1=.bool true:=hd ⟨1,.data⟩ (by simp) rfl;clear hd;subst d1
    gi_wp2
    exact RG
   simp only [TN];refine ⟨fun w1 hG hd=>?_,fun v3=>?_⟩
   ·have d2:v2=.bool true:=hd ⟨2,.guard⟩ (by simp) rfl;clear hd;subst d2;have cc:=(Zc hG (p:=⟨n,0,none⟩) ln0).trans y0
    gi_wp2
    exact RG
   simp only [TN];refine ⟨fun w1 hG hd=>?_,fun v4=>?_⟩
   ·have d2:v2=.bool true:=hd ⟨2,.guard⟩ (by simp) rfl;clear hd;subst d2;have cc:=(Zc hG (p:=⟨n+1,0,none⟩) ln1).trans y1
    gi_wp2
    exact RG
   simp only [TN];refine ⟨fun w1 hG hd=>?_,fun v5=>?_⟩
   ·have d2:v2=.bool true:=hd ⟨2,.guard⟩ (by simp) rfl;clear hd;subst d2;have cc:=(Zc hG (p:=⟨b,0,none⟩) lnb).trans yb
    gi_wp2
    exact RG
   simp only [TN];refine ⟨fun w1 hG hd=>?_,fun v6=>?_⟩
   ·have d2:v2=.bool true:=hd ⟨2,.guard⟩ (by simp) rfl;clear hd;subst d2;have cc:=(Zc hG (p:=⟨n+1+1,0,none⟩) ln2).trans y2
    gi_wp2
    exact RG
   simp only [TN];refine ⟨fun w1 hG hd=>?_,fun v7=>?_⟩
   ·have d2:v2=.bool true:=hd ⟨2,.guard⟩ (by simp) rfl;clear hd;subst d2
    gi_wp2
    exact RG
   simp only [TN];refine ⟨fun w1 hG hd=>?_,fun v8=>?_⟩
   ·have d5:v5=.string s:=hd ⟨5,.data⟩ (by simp) rfl;have d6:v6=.int .i64 (av:Int):=hd ⟨6,.data⟩ (by simp) rfl;have d7:v7=.int .i64 (nx:Int):=hd ⟨7,.data⟩ (by simp) rfl;have d2:v2=.bool true:=hd ⟨2,.guard⟩ (by simp) rfl;clear hd;subst d5 d6 d7 d2
    gi_wp2
    exact RG
   simp only [TN];refine ⟨fun w1 hG hd=>?_,fun v9=>?_⟩
   ·have d8:v8=.string (s.extract av nx):=hd ⟨8,.data⟩ (by simp) rfl;have d2:v2=.bool true:=hd ⟨2,.guard⟩ (by simp) rfl;clear hd;subst d8 d2;have HX:=ai (HB2.out w1 hG)
    gi_wp2
    refine ⟨trivial,rfl,(CallsIn.inRound l' (callsIn_wide.2 HX.out)).mono ?_⟩;rintro e w2 ⟨rfl,hB2⟩
    gi_wp2
    exact ⟨rfl,hB2⟩
   simp only [TN];intro w1 hG hd;have d0:v0=.int .i64 (i:Int):=hd 0 (by omega);have d1:v1=.bool true:=hd 1 (by omega);have d2:v2=.bool true:=hd 2 (by omega);have d3:v3=.func (.yield l) #[] #[]:=hd 3 (by omega);have d4:v4=.int .i64 (i:Int):=hd 4 (by omega);have d5:v5=.string s:=hd 5 (by omega);have d6:v6=.int .i64 (av:Int):=hd 6 (by omega);have d7:v7=.int .i64 (nx:Int):=hd 7 (by omega);have d8:v8=.string (s.extract av nx):=hd 8 (by omega);have d9:v9=.string ⟨bd.toArray⟩:=hd 9 (by omega);subst d0 d1 d2 d3 d4 d5 d6 d7 d8 d9;clear hd;have h6:=(ah.thing (Bx.thing _ _ _) (ah.thing hCt (hK _))).grow h5 hG;obtain ⟨R6,kk6,_,backK6⟩:=ah.third (Bx.thing _ _ _) hCt h6;have hbw:Below B W w1:=hbel4.trans (hb5.trans (hG.mono (ZU hB4 hb5.size)));obtain ⟨fn,tmps,assign,body,hy,hR⟩:=hY (i - 1) _ _ w1 R6 ⟨hi1,rfl,rfl⟩ kk6 hbw;have ei:i - 1+1=i:=by omega
   rw [ei,hbd] at hy;rw [ei] at hR
   gi_wp2
   refine ⟨rfl,RoundIn.mono hR ?_⟩;rintro e w2 (⟨rfl,SK3,kK3,mK3⟩ | ⟨rfl,SK3,kK3,mK3⟩)
   ·obtain ⟨S8,h8,m8⟩:=backK6 _ _ _ kK3 mK3;obtain ⟨R9,bx6,_,backB6⟩:=ah.fst (ah.thing hCt (hK _)) h8;have z1:w2.cell? ⟨n+1,0,none⟩=some (.int .i64 (i:Int)):=bx6.at 1 0 _ _ rfl rfl;have z2:w2.cell? ⟨n+1+1,0,none⟩=some (.int .i64 (av:Int)):=by rw [<-hav];exact bx6.at 2 0 _ _ rfl rfl
    have f1:w2.frozen? ⟨n+1,0,none⟩=false:=bx6.fz 1 0 (by simp);have f2:w2.frozen? ⟨n+1+1,0,none⟩=false:=bx6.fz 2 0 (by simp);have hil:i<=1000000000:=by omega
    gi_wp2
    obtain ⟨b1,m1⟩:=bx6.set 1 0 _ (.int .i64 ((i+1:Nat):Int)) rfl (by simp);obtain ⟨b2,m2⟩:=b1.set 2 0 _ (.int .i64 (nx:Int)) rfl (by simp);obtain ⟨S7,h7,m7⟩:=backB6 _ _ _ b2 (m1.trans m2);refine ⟨S7,?_,((Mv.grow hG S5).trans m8).trans m7⟩;have ea:B9 M (i+1)=nx:=by rw [<-hnx];simp [B9,hi]
    dsimp only;rw [ea];exact h7
   ·obtain ⟨S8,h8,m8⟩:=backK6 _ _ _ kK3 mK3
    gi_wp2
    refine ⟨S8,⟨i,rfl,?_⟩,(Mv.grow hG S5).trans m8⟩;exact h8
 case done=>
  rintro D i W6 S6 rfl hs hm;obtain ⟨T3,k3,_,back3⟩:=ah.snd (ah.thing (aS.thing _ _ _) (ah.thing (Bx.thing _ _ _) (ah.thing hCt (hK _)))) hs
  gi_wp2
  obtain ⟨p6,m6⟩:=k3.put (.deferred none);obtain ⟨T7,k7,m7⟩:=back3 _ _ _ p6 m6;obtain ⟨T8,k8,m8⟩:=ah.drop k7;obtain ⟨T9,k9,m9⟩:=ah.drop (ah.swap k8);obtain ⟨T10,k10,m10⟩:=ah.drop (ah.swap k9);refine ⟨by simp,.inl ⟨_,_,rfl,run_takeDeferred k3.2.2,?_⟩⟩;refine ⟨_,results_none rfl _ _ _,⟨_,rfl⟩,.inl ⟨_,T10,rfl,k10,?_⟩⟩;exact ((((HM.out.trans hm).trans m7).trans m8).trans m9).trans m10
 case stop=>
  rintro D c W6 S6 hs hm;obtain ⟨T3,k3,_,back3⟩:=ah.snd (ah.thing (aS.thing _ _ _) (aJ.any fun i=>aJ.pure (ah.thing (Bx.thing _ _ _) (ah.thing hCt hKx)))) hs;obtain ⟨p6,m6⟩:=k3.put (.deferred none);obtain ⟨T7,k7,m7⟩:=back3 _ _ _ p6 m6;obtain ⟨T8,k8,m8⟩:=ah.drop k7;obtain ⟨T9,⟨i,rfl,k9⟩,m9⟩:=ah.drop (ah.swap k8);obtain ⟨T10,k10,m10⟩:=ah.drop (ah.swap k9)
  gi_wp2
  refine ⟨by simp,.inl ⟨_,_,rfl,run_takeDeferred k3.2.2,?_⟩⟩;refine ⟨_,results_none rfl _ _ _,⟨_,rfl⟩,.inr ⟨T10,k10,?_⟩⟩;exact ((((HM.out.trans hm).trans m7).trans m8).trans m9).trans m10
end
section
open Go.RowKit Go.Shelf
attribute [local go_sem] Oper.semAt_some
def Gd (n:Nat) (p:Value) (l:List Value) (k:Nat) (v:Value) (w:World):Prop:=
 if k=12 then n < w.heap.size/\w.cell? n=some p/\∀ o,w.frozen? (zq n o)=false else v=l.getD k undef
theorem Ge {n:Nat} {p:Value} {l:List Value} {m:Nat} (k:Nat) (v:Value) (w w':World) (_:k < m) (h:Gd n p l k v w) (g:af w w'):Gd n p l k v w':=by
 unfold Gd at h ⊢;split at h
 ·next hk=>
  rw [ZN hk];exact ⟨ZK h.1 g.size,(Zc g (p:=n) h.1).trans h.2.1,fun o=>(Below.frozen g (p:=zq n o) h.1).trans (h.2.2 o)⟩
 ·next hk=>rw [ZO hk];exact h
theorem Fx {n:Nat} {p:Value} {l:List Value} {m:Nat} (k:Nat) (v:Value) (w w':World) (_:k < m) (hk:k≠12) (h:Gd n p l k v w) (_:w.grownBy w' (some n)):Gd n p l k v w':=by
 unfold Gd at h ⊢;rw [ZO hk] at h ⊢;exact h
theorem CL (w:World) (n o:Nat) (v:Value):w.grownBy (w.setCell (zq n o) v) (some n):=
 ⟨rfl,rfl,rfl,by simp [World.setCell],fun k hk hn=>YX _ _ _ _ (fun e=>hn (by rw [e]))⟩
theorem ua (w:World) (s:ByteArray) (bods:List (List UInt8)) (st:Nat->ip) (xi:World->Prop) (hp:xi w) (hpre:∀ w',Below w w w'->xi w') (hst0:st 0=⟨⟨#[]⟩,[],[],[]⟩) (hend:(st bods.length).sh.length=(st bods.length).cs.length) (hend2:(st bods.length).cs.length<=1000)
  (HQ:Hid (∀ b,tO Fence.wide prog 186 #[zp b] w.heap.size (aS w.heap.size b [.string s]) xi 0 (fun _=>True) (Cj bods) (fun j=>j=bods.length)))
  (HTk:Hid (∀ j l W S (h:j < bods.length),Below w w W->cw w.heap.size l (st j) W S->CP 143 #[zp l,((j+1:Nat):Int),.string ⟨(bods[j]).toArray⟩] W fun e w'=>e=.returned true/\∃ S',cw w.heap.size l (st (j+1)) w' S'/\Mv S W S' w')):
  CP 96 #[s] w fun e w'=>∃ l,e=.returned (.tuple #[zp l,true])/\∃ S',cw w.heap.size l (st bods.length) w' S'/\Below w w w':=by
 have HO:=ai (yw s);refine (callsIn_wide (n:=0)).1 ?_;refine callsIn_of_wp_marks func96 rfl trivial ?_ rfl;simp only [ntmps96,List.size_toArray,ZX,ZR,Nat.reduceAdd,Nat.reduceSub,Array.replicate_succ,Array.replicate_zero,List.push_toArray,List.append_toArray,Zq,ZE]
 gi_wp2
 refine ⟨trivial,rfl,(callsIn_wide.2 (HO.out _)).mono ?_⟩;rintro e W' ⟨rfl,rfl⟩
 gi_wp2
 clear HO;have st0:∃ S,ah (aS w.heap.size (w.heap.size+1+1+1+1) [.string s]) (ah (aS w.heap.size (w.heap.size+1+1+1) [.pointer (some ⟨w.heap.size+1+1,0,none⟩)]) (ah (cw w.heap.size (w.heap.size+1+1) (st 0)) (Bx w.heap.size w.heap.size [[.pointer none],[.bool false]]))) (((((w.alloc (Obj.cells #[Value.pointer none] 143)).alloc (Obj.cells #[Value.bool false] 4)).alloc (Obj.cells #[Value.string {data:=#[]},Value.slice none 0 0,Value.slice none 0 0,Value.slice none 0 0] 148)).alloc (Obj.cells #[Value.pointer (some {block:=w.heap.size+1+1,off:=0})] 143)).alloc (Obj.cells #[Value.string s] 9)) S/\(∀ k,S k->w.heap.size<=k):=by
  obtain ⟨S1,b1⟩:=(Bx.nil w.heap.size w (by omega)).snoc [.pointer none] 143 (by simp);obtain ⟨S2,b2⟩:=b1.snoc [.bool false] 4 (by simp);obtain ⟨S3,h3,hS3⟩:=cw.new (B:=w.heap.size) (w:=(w.alloc (Obj.cells #[Value.pointer none] 143)).alloc (Obj.cells #[Value.bool false] 4)) (by simp;omega);obtain ⟨a1,_⟩:=ah.new (Bx.thing _ _ _) b2 h3 ((ZT _ _).alloc (ZW _) _) (fun k e=>Nat.le_of_eq (hS3 k e).symm);have hc3:=aS.alloc (B:=w.heap.size) (vs:=[.pointer (some ⟨w.heap.size+1+1,0,none⟩)]) (w:=((w.alloc (Obj.cells #[Value.pointer none] 143)).alloc (Obj.cells #[Value.bool false] 4)).alloc (Obj.cells #[Value.string {data:=#[]},Value.slice none 0 0,Value.slice none 0 0,Value.slice none 0 0] 148)) (t:=143) (by simp;omega);obtain ⟨a2,_⟩:=ah.new (ah.thing (cw.thing _ _ _) (Bx.thing _ _ _)) a1 hc3 ((ZT _ _).alloc (ZW _) _) (fun k e=>Nat.le_of_eq (Eq.symm e));have hc4:=aS.alloc (B:=w.heap.size) (vs:=[.string s]) (w:=(((w.alloc (Obj.cells #[Value.pointer none] 143)).alloc (Obj.cells #[Value.bool false] 4)).alloc (Obj.cells #[Value.string {data:=#[]},Value.slice none 0 0,Value.slice none 0 0,Value.slice none 0 0] 148)).alloc (Obj.cells #[Value.pointer (some {block:=w.heap.size+1+1,off:=0})] 143)) (t:=9) (by simp;omega);obtain ⟨a3,_⟩:=ah.new (ah.thing (aS.thing _ _ _) (ah.thing (cw.thing _ _ _) (Bx.thing _ _ _))) a2 hc4 ((ZT _ _).alloc (ZW _) _) (fun k e=>Nat.le_of_eq (Eq.symm e));simp only [World.size_alloc,Zq,ZE] at a3;have hge:=fun k=>(ah.thing (aS.thing w.heap.size _ _) (ah.thing (aS.thing _ _ _) (ah.thing (cw.thing _ _ _) (Bx.thing _ _ _)))).ge (k:=k) a3
  rw [hst0];exact ⟨_,a3,hge⟩
 have hbel:Below w w (((((w.alloc (Obj.cells #[Value.pointer none] 143)).alloc (Obj.cells #[Value.bool false] 4)).alloc (Obj.cells #[Value.string {data:=#[]},Value.slice none 0 0,Value.slice none 0 0,Value.slice none 0 0] 148)).alloc (Obj.cells #[Value.pointer (some {block:=w.heap.size+1+1,off:=0})] 143)).alloc (Obj.cells #[Value.string s] 9)):=(((((ZT _ w).alloc (ZW _) _).alloc (by simp) _).alloc (by simp;omega) _).alloc (by simp;omega) _).alloc (by simp;omega) _;obtain ⟨S0,st0,hge⟩:=st0;obtain ⟨W5,hW5⟩:∃ W5,(((((w.alloc (Obj.cells #[Value.pointer none] 143)).alloc (Obj.cells #[Value.bool false] 4)).alloc (Obj.cells #[Value.string {data:=#[]},Value.slice none 0 0,Value.slice none 0 0,Value.slice none 0 0] 148)).alloc (Obj.cells #[Value.pointer (some {block:=w.heap.size+1+1,off:=0})] 143)).alloc (Obj.cells #[Value.string s] 9))=W5:=⟨_,rfl⟩;rw [hW5] at st0 hbel ⊢;clear hW5;generalize hn:w.heap.size=n at*;have HNN:=ai hn;clear hn;have hn5:n<=W5.heap.size:=by
  obtain ⟨S1,S2,k,_⟩:=st0;have:=k.2.2.1;omega
 refine ot (B:=n) rfl (fun _=>trivial) rfl rfl (enters_of func186 (by kernel_rfl) rfl) (HQ.out _) (fun W1 hb=>hpre _ (hbel.trans hb)) (aS.thing _ _ _) ?hps
  (fun j=>ah (aS n (n+1+1+1) [.pointer (some ⟨n+1+1,0,none⟩)]) (ah (cw n (n+1+1) (st j)) (Bx n n [[.pointer none],[.bool false]])))
  (fun _ _ _=>False) ?hI (fun _=>⟨fun h=>h.elim,fun h=>h.elim,fun h=>h.elim⟩) (fun a _ _ _=>trivial) hn5 st0 ?round ?done (fun _ _ _ _ h _=>by obtain ⟨_,_,⟨_,_,_,h,_⟩,_⟩:=h;exact h.elim)
 case hps=>
  rintro a args a' ⟨_,_,rfl⟩;rfl
 case hI=>exact fun a=>ah.thing (aS.thing _ _ _) (ah.thing (cw.thing _ _ _) (Bx.thing _ _ _))
 case round=>
  rintro l' j args j' W0 ⟨hj,rfl,rfl⟩
  gi_wp2
  refine ⟨trivial,?_⟩;rintro W6 S6 h6 hb6;obtain ⟨R1,kc,_,_⟩:=ah.fst (ah.thing (cw.thing _ _ _) (Bx.thing _ _ _)) h6;obtain ⟨R2,kl,_,backL⟩:=ah.mid (aS.thing _ _ _) (Bx.thing _ _ _) h6;have y0:W6.cell? (zp (n+1+1+1))=zp (n+1+1):=kc.at 0 _ rfl;have HC:=ai (HTk.out j (n+1+1) W6 R2 hj (hbel.trans hb6) kl)
  gi_wp2
  refine ⟨trivial,rfl,(CallsIn.inRound l' (callsIn_wide.2 HC.out)).mono ?_⟩;rintro e W7 ⟨rfl,R3,kl7,m7⟩;obtain ⟨S8,h8,m8⟩:=backL _ _ _ kl7 m7;clear HC
  gi_wp2
  exact ⟨S8,h8,m8⟩
 case done=>
  rintro D j W6 S6 rfl hs hm;have hI:=fun a=>ah.thing (aS.thing n (n+1+1+1) [.pointer (some ⟨n+1+1,0,none⟩)]) (ah.thing (cw.thing n (n+1+1) (st a)) (Bx.thing n n [[.pointer none],[.bool false]]))
  obtain ⟨T1,k1,_,back1⟩:=ah.fst (Ob.thing _ _ _) hs;obtain ⟨T2,k2,_,back2⟩:=ah.snd (aS.thing _ _ _) k1;obtain ⟨T3,kc,_,_⟩:=ah.fst (ah.thing (cw.thing _ _ _) (Bx.thing _ _ _)) k2;obtain ⟨T4,kl,_,_⟩:=ah.mid (aS.thing _ _ _) (Bx.thing _ _ _) k2;obtain ⟨T5,kb,_,back5⟩:=ah.third (aS.thing _ _ _) (cw.thing _ _ _) k2;obtain ⟨aa,ks,ac,kc2,am,km,kl2⟩:=cw.open kl;obtain ⟨T6,hl6,_,_⟩:=ah.fst (io.thing _ _ _ _ _) kl2;have y0:W6.cell? (zp (n+1+1+1))=zp (n+1+1):=kc.at 0 _ rfl;have y1:W6.cell? (zq (n+1+1) 1)=some (.slice aa (st bods.length).cs.length ks):=by rw [<-hend];exact hl6.at 1 _ rfl
  have y2:W6.cell? (zq (n+1+1) 2)=some (.slice ac (st bods.length).cs.length kc2):=hl6.at 2 _ rfl;have b0:W6.cell? n=some (.pointer none):=kb.at 0 0 _ _ rfl rfl;have b1:W6.cell? (zp (n+1))=false:=kb.at 1 0 _ _ rfl rfl;have HF0:Hid (∀ o,W6.frozen? (zq n o)=false):=fun o=>kb.fz 0 o (by simp)
  have f1:W6.frozen? (zp (n+1))=false:=kb.fz 1 0 (by simp);obtain ⟨N,hN⟩:∃ N,(st bods.length).cs.length=N:=⟨_,rfl⟩;rw [hN] at y1 y2 hend2;clear hend hN
  gi_wp2
  refine wpIn_wide.2 ?_;refine cW 13 _ 12 (fun w w'=>w.grownBy w' (some n)) (Gd n (zp (n+1+1)) [.pointer (some ⟨n+1+1,0,none⟩),.pointer (some ⟨n+1+1,0,none⟩),.pointer (some ⟨n+1+1,0,none⟩),.pointer (some ⟨n+1+1,1,none⟩),.slice aa N ks,.int .i64 (N:Int),.pointer (some ⟨n+1+1,0,none⟩),.pointer (some ⟨n+1+1,0,none⟩),.pointer (some ⟨n+1+1,2,none⟩),.slice ac N kc2,.int .i64 (N:Int),.bool true,undef]) (by kernel_rfl) rfl (by kernel_rfl) (lT _) (fun _ _ _=>lV) (fun _ _ _=>fE) Ge Fx ?_;simp only [TD];refine ⟨aB (by decide) fun w1 hG hd=>?_,fun v0=>?_⟩
  ·clear hd;have cc:=(ZQ (a:=zp (n+1+1+1)) (hG.block (n+1+1+1) (ZD W6 _ y0) (by simp;try omega))).trans y0;go_wp2;exact RG
  simp only [TN];refine ⟨aB (by decide) fun w1 hG hd=>?_,fun v1=>?_⟩
  ·clear hd;have cc:=(ZQ (a:=zp (n+1+1+1)) (hG.block (n+1+1+1) (ZD W6 _ y0) (by simp;try omega))).trans y0;go_wp2;exact RG
  simp only [TN];refine ⟨aB (by decide) fun w1 hG hd=>?_,fun v2=>?_⟩
  ·have d1:v1=.pointer (some ⟨n+1+1,0,none⟩):=hd ⟨1,.data⟩ (by simp) rfl;clear hd;subst d1;go_wp2;exact RG
  simp only [TN];refine ⟨aB (by decide) fun w1 hG hd=>?_,fun v3=>?_⟩
  ·have d2:v2=.pointer (some ⟨n+1+1,0,none⟩):=hd ⟨2,.data⟩ (by simp) rfl;clear hd;subst d2;go_wp2;exact RG
  simp only [TN];refine ⟨aB (by decide) fun w1 hG hd=>?_,fun v4=>?_⟩
  ·have d3:v3=.pointer (some ⟨n+1+1,1,none⟩):=hd ⟨3,.data⟩ (by simp) rfl;clear hd;subst d3;have cc:=(ZQ (a:=zq (n+1+1) 1) (hG.block (n+1+1) (ZD W6 _ y1) (by simp;try omega))).trans y1;go_wp2;exact RG
  simp only [TN];refine ⟨aB (by decide) fun w1 hG hd=>?_,fun v5=>?_⟩
  ·have d4:v4=.slice aa N ks:=hd ⟨4,.data⟩ (by simp) rfl;clear hd;subst d4;go_wp2;exact RG
  simp only [TN];refine ⟨aB (by decide) fun w1 hG hd=>?_,fun v6=>?_⟩
  ·clear hd;have cc:=(ZQ (a:=zp (n+1+1+1)) (hG.block (n+1+1+1) (ZD W6 _ y0) (by simp;try omega))).trans y0;go_wp2;exact RG
  simp only [TN];refine ⟨aB (by decide) fun w1 hG hd=>?_,fun v7=>?_⟩
  ·have d6:v6=.pointer (some ⟨n+1+1,0,none⟩):=hd ⟨6,.data⟩ (by simp) rfl;clear hd;subst d6;go_wp2;exact RG
  simp only [TN];refine ⟨aB (by decide) fun w1 hG hd=>?_,fun v8=>?_⟩
  ·have d7:v7=.pointer (some ⟨n+1+1,0,none⟩):=hd ⟨7,.data⟩ (by simp) rfl;clear hd;subst d7;go_wp2;exact RG
  simp only [TN];refine ⟨aB (by decide) fun w1 hG hd=>?_,fun v9=>?_⟩
  ·have d8:v8=.pointer (some ⟨n+1+1,2,none⟩):=hd ⟨8,.data⟩ (by simp) rfl;clear hd;subst d8;have cc:=(ZQ (a:=zq (n+1+1) 2) (hG.block (n+1+1) (ZD W6 _ y2) (by simp;try omega))).trans y2;go_wp2;exact RG
  simp only [TN];refine ⟨aB (by decide) fun w1 hG hd=>?_,fun v10=>?_⟩
  ·have d9:v9=.slice ac N kc2:=hd ⟨9,.data⟩ (by simp) rfl;clear hd;subst d9;go_wp2;exact RG
  simp only [TN];refine ⟨aB (by decide) fun w1 hG hd=>?_,fun v11=>?_⟩
  ·have d5:v5=.int .i64 (N:Int):=hd ⟨5,.data⟩ (by simp) rfl;have d10:v10=.int .i64 (N:Int):=hd ⟨10,.data⟩ (by simp) rfl;clear hd;subst d5 d10;go_wp2;exact RG
  simp only [TN];refine ⟨dO rfl fun w1 hG hd=>?_,fun v12=>?_⟩
  ·have d0:v0=.pointer (some ⟨n+1+1,0,none⟩):=hd ⟨0,.data⟩ (by simp) rfl;clear hd;subst d0;have cc:=(Zc hG (p:=n) (ZD W6 _ b0)).trans b0;have ff:∀ o,w1.frozen? (zq n o)=false:=fun o=>(Below.frozen hG (p:=zq n o) (ZD W6 ⟨n,0,none⟩ b0)).trans (HF0.out o)
   have f0:=ff 0;have ln:=ZD w1 _ cc;go_wp2;exact ⟨⟨by simp [World.setCell];omega,World.cell?_setCell_same' _ _ _ (by rw [cc];rfl),fun o=>by rw [ZL];exact ff o⟩,CL _ _ _ _⟩
  simp only [TN];intro w7 hG hd;obtain ⟨q1,q2,q3⟩:n < w7.heap.size/\w7.cell? n=zp (n+1+1)/\∀ o,w7.frozen? (zq n o)=false:=hd 12 (by omega);have d11:v11=.bool true:=hd 11 (by omega);subst d11;have hS5:T5=fun k=>n<=k/\k < n+[[Value.pointer none],[Value.bool false]].length:=kb.1
  have kb7:Bx n n [[.pointer (some ⟨n+1+1,0,none⟩)],[.bool false]] w7 T5:=by
   refine ⟨hS5,ZW _,ZU kb.2.2.1 hG.size,fun i us hi=>?_⟩
   match i,hi with
   | 0,hi=>
    simp at hi;subst hi;refine ⟨fun j v hv=>?_,fun o=>q3 o⟩
    match j,hv with
    | 0,hv=>simp at hv;subst hv;exact q2
    | (j+1),hv=>simp at hv
   | 1,hi=>
    have e:=hG.block (n+1) (ZD W6 _ b1) (by simp);obtain ⟨r1,r2⟩:=kb.2.2.2 1 us (by simpa using hi);exact ⟨fun j v hv=>(ZQ (a:=zq (n+1) j) e).trans (r1 j v hv),fun o=>(ZH (a:=zq (n+1) o) e).trans (r2 o)⟩
   | (i+2),hi=>simp at hi
  have m7:Mv T5 W6 T5 w7:=⟨⟨hG.os,hG.tape,hG.output,hG.size,fun k hk hs=>hG.block k hk (fun e=>hs (by rw [hS5];cases e;exact ⟨ZW _,by simp⟩))⟩,fun _ h=>.inl h⟩;have z1:w7.cell? (zp (n+1))=false:=kb7.at 1 0 _ _ rfl rfl;have g1:w7.frozen? (zp (n+1))=false:=kb7.fz 1 0 (by simp);clear hd y0 y1 y2 b0 b1 f1 HF0;go_wp2
  gi_wp2
  obtain ⟨b',m'⟩:=kb7.set 1 0 _ (.bool true) rfl (by simp);obtain ⟨U1,u1,n1⟩:=back5 _ _ _ b' (m7.trans m');obtain ⟨U2,u2,n2⟩:=back2 _ _ _ u1 n1;obtain ⟨U3,u3,n3⟩:=back1 _ _ _ u2 n2;obtain ⟨T7,k7,_,back7⟩:=ah.snd (ah.thing (aS.thing _ _ _) (ah.thing (aS.thing _ _ _) (ah.thing (cw.thing _ _ _) (Bx.thing _ _ _)))) u3;obtain ⟨p8,m8⟩:=k7.put (.deferred none);obtain ⟨T8,k8,m9⟩:=back7 _ _ _ p8 m8;obtain ⟨T9,k9,_⟩:=ah.drop k8;obtain ⟨T10,k10,_⟩:=ah.drop (ah.swap k9);obtain ⟨T11,k11,_⟩:=ah.drop (ah.swap k10);obtain ⟨T12,k12,_⟩:=ah.drop k11;obtain ⟨T13,k13,_⟩:=ah.drop (ah.swap k11);have e1:((w7.setCell (zp (n+1)) true).putObj D (.deferred none)).cell? n=zp (n+1+1):=k13.at 0 0 _ _ rfl rfl;have e2:((w7.setCell (zp (n+1)) true).putObj D (.deferred none)).cell? (zp (n+1))=true:=k13.at 1 0 _ _ rfl rfl;refine ⟨by simp,.inl ⟨_,_,rfl,run_takeDeferred k7.2.2,?_⟩⟩;refine ⟨.tuple #[zp (n+1+1),true],?_,n+1+1,rfl,T12,?_,?_⟩
  ·simp [results,f96,go_sem,e1,e2]
  ·rw [HNN.out];exact k12
  ·rw [HNN.out];exact hbel.trans (((hm.trans n3).trans m9).below hge hn5)
end
theorem sU (x y z u:Int):aG [x,y,z,u]=bJ x++([32]++(bJ y++([32]++(bJ z++([32]++(bJ u++[32])))))):=by simp [aG]
theorem x' (x y z:Int):aG [x,y,z]=bJ x++([32]++(bJ y++([32]++(bJ z++[32])))):=by simp [aG]
theorem FK (s:ByteArray) (o:bj) (r':List UInt8) (ho:o.near) (hk:o.k=3) (hs:s.data.toList=o.text++r') (hr:r'=[]\/8<=r'.length):
  DD s 0 ([0,0,0,0,0,0,0,0,0],0,[]) 219 (.agg #[o.a,o.b,o.c,o.d,o.e]):=by
 obtain ⟨⟨a1,a2⟩,⟨b1,b2⟩,⟨c1,c2⟩,⟨d1,d2⟩,⟨e1,e2⟩,_⟩:=ho;have ht:o.text=[]++(bJ o.e++([32]++([103]++([32]++(bJ o.a++([32]++(bJ o.b++([32]++(bJ o.c++([32]++(bJ o.d++([32]++([114,101]++([32]++([102]++([10])))))))))))))))):=by
  unfold bj.text;rw [ZO (by omega),ZO (by omega),ZN hk,jf,sU];simp only [ZS,Zq];rfl
 have hA:ir o.text:=by
  rw [ht];exact (.mk (by decide) (.mk (aZ _) (.mk (by decide) (.mk (by decide) (.mk (by decide) (.mk (aZ _) (.mk (by decide) (.mk (aZ _) (.mk (by decide) (.mk (aZ _) (.mk (by decide) (.mk (aZ _) (.mk (by decide) (.mk (by decide) (.mk (by decide) (.mk (by decide) (by decide)))))))))))))))))
 rw [ht] at hs hA;have hd:s.data.toList.drop 0=_:=hs;refine dq o.e hr hd hA Fm ⟨32,_,rfl,by decide⟩ e1 e2 (by omega) rfl fun p1 h1 y1=>?_
 refine df 103 [] hr h1 y1 dI (by decide) ⟨32,_,rfl,by decide⟩ (by decide) (by decide) (by decide) (by decide) (by decide) (by decide) rfl fun p2 h2 y2=>?_
 refine dq o.a hr h2 y2 dI ⟨32,_,rfl,by decide⟩ a1 a2 (by omega) rfl fun p3 h3 y3=>?_
 refine dq o.b hr h3 y3 dI ⟨32,_,rfl,by decide⟩ b1 b2 (by omega) rfl fun p4 h4 y4=>?_
 refine dq o.c hr h4 y4 dI ⟨32,_,rfl,by decide⟩ c1 c2 (by omega) rfl fun p5 h5 y5=>?_
 refine dq o.d hr h5 y5 dI ⟨32,_,rfl,by decide⟩ d1 d2 (by omega) rfl fun p6 h6 y6=>?_
 refine df 114 [101] hr h6 y6 dI (by decide) ⟨32,_,rfl,by decide⟩ (by decide) (by decide) (by decide) (by decide) (by decide) (by decide) rfl fun p7 h7 y7=>?_
 exact wB hr h7 y7 dI (by simp) (by decide) (fun d p e=>by cases e;decide) fun hF=>.rect hF.tok
theorem FL (s:ByteArray) (o:bj) (r':List UInt8) (ho:o.near) (hk:o.k=1) (hs:s.data.toList=o.text++r') (hr:r'=[]\/8<=r'.length):
  DD s 0 ([0,0,0,0,0,0,0,0,0],0,[]) 215 (.agg #[o.a,o.b,o.c,.string ⟨o.s.data.toList.toArray⟩]):=by
 obtain ⟨⟨a1,a2⟩,⟨b1,b2⟩,⟨c1,c2⟩,⟨d1,d2⟩,⟨e1,e2⟩,_,_,_,hsz⟩:=ho;have hl:o.s.data.toList.length<=100:=by rw [aP];exact hsz hk
 have ht:o.text=[]++([66,84]++([32]++([47,70,49]++([32]++(bJ o.c++([32]++([84,102]++([32]++(bJ o.a++([32]++(bJ o.b++([32]++([84,100]++([32]++(bc o.s.data.toList++([32]++([84,106]++([32]++([69,84]++([10])))))))))))))))))))):=by
  unfold bj.text;rw [ZN hk,jf,lu];simp only [ZS,Zq];rfl
 have hA:ir o.text:=by
  rw [ht];exact (.mk (by decide) (.mk (by decide) (.mk (by decide) (.mk (by decide) (.mk (by decide) (.mk (aZ _) (.mk (by decide) (.mk (by decide) (.mk (by decide) (.mk (aZ _) (.mk (by decide) (.mk (aZ _) (.mk (by decide) (.mk (by decide) (.mk (by decide) (.mk (py _) (.mk (by decide) (.mk (by decide) (.mk (by decide) (.mk (by decide) (by decide)))))))))))))))))))))
 rw [ht] at hs hA;have hd:s.data.toList.drop 0=_:=hs;refine df 66 [84] hr hd hA Fm (by decide) ⟨32,_,rfl,by decide⟩ (by decide) (by decide) (by decide) (by decide) (by decide) (by decide) rfl fun p1 h1 y1=>?_
 refine df 47 [70,49] hr h1 y1 dI (by decide) ⟨32,_,rfl,by decide⟩ (by decide) (by decide) (by decide) (by decide) (by decide) (by decide) rfl fun p2 h2 y2=>?_
 refine dq o.c hr h2 y2 dI ⟨32,_,rfl,by decide⟩ c1 c2 (by omega) rfl fun p3 h3 y3=>?_
 refine df 84 [102] hr h3 y3 dI (by decide) ⟨32,_,rfl,by decide⟩ (by decide) (by decide) (by decide) (by decide) (by decide) (by decide) rfl fun p4 h4 y4=>?_
 refine dq o.a hr h4 y4 dI ⟨32,_,rfl,by decide⟩ a1 a2 (by omega) rfl fun p5 h5 y5=>?_
 refine dq o.b hr h5 y5 dI ⟨32,_,rfl,by decide⟩ b1 b2 (by omega) rfl fun p6 h6 y6=>?_
 refine df 84 [100] hr h6 y6 dI (by decide) ⟨32,_,rfl,by decide⟩ (by decide) (by decide) (by decide) (by decide) (by decide) (by decide) rfl fun p7 h7 y7=>?_
 refine Gm o.s.data.toList hr h7 y7 dI hl rfl fun p8 h8 y8=>?_
 refine df 84 [106] hr h8 y8 dI (by decide) ⟨32,_,rfl,by decide⟩ (by decide) (by decide) (by decide) (by decide) (by decide) (by decide) rfl fun p9 h9 y9=>?_
 exact wB hr h9 y9 dI (by simp) (by decide) (fun d p e=>by cases e;decide) fun hF=>.text hF.tok
theorem sR (c:Int) (h:0<=c):bJ (1000*c)=Lib.itoa c:=by
 unfold bJ;have e1:(1000*c).natAbs / 1000=c.natAbs:=by omega
 have e2:(1000*c).natAbs % 1000=0:=by omega
 rw [ZO (by omega),e1,e2];have e3:((c.natAbs:Nat):Int)=c:=by omega
 rw [e3];show []++Lib.itoa c++[]=_
 simp
theorem EH (s:ByteArray) (o:bj) (r':List UInt8) (ho:o.is) (hk:o.k=4) (hs:s.data.toList=o.text++r'):
  DD s 0 ([0,0,0,0,0,0,0,0,0],0,[]) 135 (.agg #[o.a,o.b,o.c,o.d,o.co,o.ro,o.s]):=by
 obtain ⟨⟨a1',a2'⟩,⟨b1',b2'⟩,hh⟩:=ho;obtain ⟨_,⟨c1',c2'⟩,⟨d1',d2'⟩,⟨co1,co2⟩,⟨ro1,ro2⟩,_,hsz⟩:o.k=4/\bG o.c 1 14400000/\bG o.d 1 14400000/\bG o.co 1 64/\bG o.ro 1 64/\o.e=0/\(o.s.size:Int)=o.co*o.ro:=by
  rcases hh with h | h | h | h
  ·exact absurd h.1 (by omega)
  ·exact absurd h.1 (by omega)
  ·exact absurd h.1 (by omega)
  ·exact h
 have a1:-100000000<=o.a:=by omega
 have a2:o.a<=100000000:=by omega
 have b1:-100000000<=o.b:=by omega
 have b2:o.b<=100000000:=by omega
 have c1:-100000000<=o.c:=by omega
 have c2:o.c<=100000000:=by omega
 have d1:-100000000<=o.d:=by omega
 have d2:o.d<=100000000:=by omega
 have hpos:1<=o.s.size:=by
  have:0 < o.co*o.ro:=Int.mul_pos (by omega) (by omega);omega
 obtain ⟨R,hR⟩:∃ R,[32]++(o.s.data.toList++([10,69,73,32,81,10]++r'))=R:=⟨_,rfl⟩;have hRl:8<=R.length:=by rw [<-hR];simp only [ZY,aP,ZX,ZR];omega
 have hr:R=[]\/8<=R.length:=.inr hRl;obtain ⟨Y,hY⟩:∃ Y,[]++([113]++([32]++(bJ o.c++([32]++(bJ 0++([32]++(bJ 0++([32]++(bJ o.d++([32]++(bJ o.a++([32]++(bJ o.b++([32]++([99,109]++([32]++([66,73]++([32]++([47,87]++([32]++(bJ (1000*o.co)++([32]++([47,72]++([32]++(bJ (1000*o.ro)++([32]++([47,67,83]++([32]++([47,71]++([32]++([47,66,80,67]++([32]++(bJ 8000++([32]++([73,68]++([]))))))))))))))))))))))))))))))))))))=Y:=⟨_,rfl⟩;have hs2:s.data.toList=Y++R:=by
  rw [hs, <-hY, <-hR,sR o.co (by omega),sR o.ro (by omega)];unfold bj.text;rw [ZO (by omega),ZO (by omega),ZO (by omega),jf,x'];have e0:bJ 0=[48]:=by decide+kernel
  have e8:bJ 8000=[56]:=by decide+kernel
  rw [e0,e8];simp only [ZS,Zq,ZE]
 have hA:ir Y:=by
  rw [<-hY];exact (.mk (by decide) (.mk (by decide) (.mk (by decide) (.mk (aZ _) (.mk (by decide) (.mk (aZ _) (.mk (by decide) (.mk (aZ _) (.mk (by decide) (.mk (aZ _) (.mk (by decide) (.mk (aZ _) (.mk (by decide) (.mk (aZ _) (.mk (by decide) (.mk (by decide) (.mk (by decide) (.mk (by decide) (.mk (by decide) (.mk (by decide) (.mk (by decide) (.mk (aZ _) (.mk (by decide) (.mk (by decide) (.mk (by decide) (.mk (aZ _) (.mk (by decide) (.mk (by decide) (.mk (by decide) (.mk (by decide) (.mk (by decide) (.mk (by decide) (.mk (by decide) (.mk (aZ _) (.mk (by decide) (.mk (by decide) (by decide)))))))))))))))))))))))))))))))))))))
 rw [<-hY] at hs2 hA;have hd:s.data.toList.drop 0=_:=hs2;refine df 113 [] hr hd hA Fm (by decide) ⟨32,_,rfl,by decide⟩ (by decide) (by decide) (by decide) (by decide) (by decide) (by decide) rfl fun p1 h1 y1=>?_
 refine dq o.c hr h1 y1 dI ⟨32,_,rfl,by decide⟩ c1 c2 (by omega) rfl fun p2 h2 y2=>?_
 refine dq 0 hr h2 y2 dI ⟨32,_,rfl,by decide⟩ (by decide) (by decide) (by omega) rfl fun p3 h3 y3=>?_
 refine dq 0 hr h3 y3 dI ⟨32,_,rfl,by decide⟩ (by decide) (by decide) (by omega) rfl fun p4 h4 y4=>?_
 refine dq o.d hr h4 y4 dI ⟨32,_,rfl,by decide⟩ d1 d2 (by omega) rfl fun p5 h5 y5=>?_
 refine dq o.a hr h5 y5 dI ⟨32,_,rfl,by decide⟩ a1 a2 (by omega) rfl fun p6 h6 y6=>?_
 refine dq o.b hr h6 y6 dI ⟨32,_,rfl,by decide⟩ b1 b2 (by omega) rfl fun p7 h7 y7=>?_
 refine df 99 [109] hr h7 y7 dI (by decide) ⟨32,_,rfl,by decide⟩ (by decide) (by decide) (by decide) (by decide) (by decide) (by decide) rfl fun p8 h8 y8=>?_
 refine df 66 [73] hr h8 y8 dI (by decide) ⟨32,_,rfl,by decide⟩ (by decide) (by decide) (by decide) (by decide) (by decide) (by decide) rfl fun p9 h9 y9=>?_
 refine df 47 [87] hr h9 y9 dI (by decide) ⟨32,_,rfl,by decide⟩ (by decide) (by decide) (by decide) (by decide) (by decide) (by decide) rfl fun p10 h10 y10=>?_
 refine dq (1000*o.co) hr h10 y10 dI ⟨32,_,rfl,by decide⟩ (by omega) (by omega) (by omega) rfl fun p11 h11 y11=>?_
 refine df 47 [72] hr h11 y11 dI (by decide) ⟨32,_,rfl,by decide⟩ (by decide) (by decide) (by decide) (by decide) (by decide) (by decide) rfl fun p12 h12 y12=>?_
 refine dq (1000*o.ro) hr h12 y12 dI ⟨32,_,rfl,by decide⟩ (by omega) (by omega) (by omega) rfl fun p13 h13 y13=>?_
 refine df 47 [67,83] hr h13 y13 dI (by decide) ⟨32,_,rfl,by decide⟩ (by decide) (by decide) (by decide) (by decide) (by decide) (by decide) rfl fun p14 h14 y14=>?_
 refine df 47 [71] hr h14 y14 dI (by decide) ⟨32,_,rfl,by decide⟩ (by decide) (by decide) (by decide) (by decide) (by decide) (by decide) rfl fun p15 h15 y15=>?_
 refine df 47 [66,80,67] hr h15 y15 dI (by decide) ⟨32,_,rfl,by decide⟩ (by decide) (by decide) (by decide) (by decide) (by decide) (by decide) rfl fun p16 h16 y16=>?_
 refine dq 8000 hr h16 y16 dI ⟨32,_,rfl,by decide⟩ (by decide) (by decide) (by omega) rfl fun p17 h17 y17=>?_
 refine wB hr h17 y17 dI (by simp) (by decide) (fun d p e=>by rw [<-hR] at e;cases e;decide) fun hF=>?_
 have hbh:=hF.behind;have hnx:=hF.nxt;have hle:(s.data.toList.drop (gR s p17)).length=s.size - gR s p17:=by rw [Za,aP]
 rw [hnx] at hle;have hb:(s.extract (gR s p17) s.size).extract 1 (1+o.s.size)=o.s:=by
  refine Zd (Array.toList_inj.1 ?_);rw [Zg,YV];simp only [List.extract,Xv];rw [hbh, <-hR];simp only [Zq,ZE,List.drop_succ_cons,List.drop_zero];rw [<-aP o.s,List.take_left]
 have q1:1000*o.co / 1000=o.co:=by omega
 have q2:1000*o.ro / 1000=o.ro:=by omega
 have hI:=E3.image (s:=s) (a:=p17) (n0:=o.c) (n1:=0) (n2:=0) (n3:=o.d) (n4:=o.a) (n5:=o.b) (n6:=1000*o.co) (n7:=1000*o.ro) (n8:=8000) (k:=9) (z:=o.s.size) (tx:=[]) hF.tok (by omega) (by omega) (by omega) (by omega) (by rw [q1,q2];exact hsz.symm) (by rw [<-hR] at hle;simp only [ZY,aP,ZX,ZR] at hle;omega) (by omega) (by omega) (by omega) (by omega) (by simp [br];omega) (by simp [br];omega);rw [hb,q1,q2] at hI;exact hI
end Go.Proofs.YtbklfkpjoinofaaGreatDoor
