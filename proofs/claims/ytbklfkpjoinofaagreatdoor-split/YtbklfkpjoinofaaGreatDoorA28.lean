import Derived.Test.YtbklfkpjoinofaaGreatDoorA25
set_option linter.all false
set_option maxRecDepth 100000
set_option maxHeartbeats 8000000
namespace Go.Proofs.YtbklfkpjoinofaaGreatDoor
open Go.RowKit Go.Proofs.Tryz
theorem zC (w:World) (Wp:Value) (B Rb Fb Pg n cap N capz:Nat) (ad adz:Option Addr) (s:ByteArray) (ms:List Value) (Z:Ending->World->Prop) (hs:s.size<=100) (h1:decide (0 < s.size/\s.size<=100)=true) (hn:n < 20) (hN:N<=1000) (r1:w.cell? (zq Rb 1)=zp Fb) (r2:w.cell? (zq Rb 2)=zp Pg) (r5:w.cell? (zq Rb 5)=some (.slice ad n cap)) (f5:w.frozen? (zq Rb 5)=false) (z2:w.cell? (zq Fb 2)=some (.slice adz N capz)) (hRb:Rb < w.heap.size) (hFb:Fb < w.heap.size) (hB:B<=w.heap.size) (ow:w.ownsRow B 98 2 (.slice ad n cap) n ms) (ne:(Value.slice ad n cap).ownBlock≠some Rb) (neF:(Value.slice ad n cap).ownBlock≠some Fb)
  (HR:Hid (QD 47 #[Wp] w (.tuple #[zp Rb,oz])))
  (HZ:Hid (∀ v w7,w.grownBy w7 (Value.slice ad n cap).ownBlock->gq w (Value.slice ad n cap).ownBlock B 98 2 (n+1) (ms++[.string s,.int .i64 ((N:Int) - 1)]) v w7->Z (.returned (0:Int)) (w7.setCell (zq Rb 5) v))):
  CP 39 #[Wp,s] w Z:=by
 have HM:=ai (fun wx=>jB wx s (by omega));rw [h1] at HM;have d2:decide (20<=(n:Int))=false:=by simp;omega
 go_enter func39,ntmps39
 go_wp2_with fail
 refine HR.out.mono ?_;rintro e w1 ⟨rfl,qn,rfl⟩;go_wp2_with fail
 refine (HM.out _).mono ?_;rintro e w1 ⟨rfl,rfl⟩;go_wp2_with fail
 replace r1:(w.drewN qn).cell? (zq Rb 1)=zp Fb:=r1;replace r5:(w.drewN qn).cell? (zq Rb 5)=some (.slice ad n cap):=r5;replace f5:(w.drewN qn).frozen? (zq Rb 5)=false:=f5;replace z2:(w.drewN qn).cell? (zq Fb 2)=some (.slice adz N capz):=z2;replace hRb:Rb < (w.drewN qn).heap.size:=hRb;replace hFb:Fb < (w.drewN qn).heap.size:=hFb;replace hB:B<=(w.drewN qn).heap.size:=hB;replace ow:(w.drewN qn).ownsRow B 98 2 (.slice ad n cap) n ms:=ow;have HZ9:Hid (∀ v w7,(w.drewN qn).grownBy w7 (Value.slice ad n cap).ownBlock->gq (w.drewN qn) (Value.slice ad n cap).ownBlock B 98 2 (n+1) (ms++[.string s,.int .i64 ((N:Int) - 1)]) v w7->Z (.returned (0:Int)) (w7.setCell (zq Rb 5) v)):=fun v w7 hg ha=>HZ.out v w7 ⟨hg.os,hg.tape,hg.output,hg.size,hg.block⟩ ha
 clear HZ r2 HR HM;generalize w.drewN qn=wa at r1 r5 f5 z2 hRb hFb hB ow HZ9 ⊢;refine cW 16 _ 15 (fun w w'=>w.grownBy w' (Value.slice ad n cap).ownBlock) (pK wa [.pointer (some ⟨Rb,0,none⟩),.pointer (some ⟨Rb,0,none⟩),.pointer (some ⟨Rb,0,none⟩),.pointer (some ⟨Rb,5,none⟩),.slice ad n cap,.string s,.string s,.pointer (some ⟨Rb,0,none⟩),.pointer (some ⟨Rb,0,none⟩),.pointer (some ⟨Rb,1,none⟩),.pointer (some ⟨Fb,0,none⟩),.int .i64 (N:Int),.int .i64 ((N:Int) - 1),.agg #[s,((N:Int) - 1:Int)],undef,undef] 14 15 [.string s,.int .i64 ((N:Int) - 1)] (Value.slice ad n cap).ownBlock B 98 2 (n+1) (ms++[.string s,.int .i64 ((N:Int) - 1)])) (by kernel_rfl) rfl (by kernel_rfl) (lT _) (fun _ _ _=>lV) (fun _ _ _=>fE) pZ kE ?_;simp only [TD];refine ⟨aB (by decide) fun w1 hG hd=>?_,fun v0=>?_⟩
 ·clear hd;go_wp2;exact RG
 simp only [TN];refine ⟨aB (by decide) fun w1 hG hd=>?_,fun v1=>?_⟩
 ·clear hd;go_wp2;exact RG
 simp only [TN];refine ⟨aB (by decide) fun w1 hG hd=>?_,fun v2=>?_⟩
 ·have d1:v1=.pointer (some ⟨Rb,0,none⟩):=hd ⟨1,.data⟩ (by simp) rfl;clear hd;subst d1;go_wp2;exact RG
 simp only [TN];refine ⟨aB (by decide) fun w1 hG hd=>?_,fun v3=>?_⟩
 ·have d2:v2=.pointer (some ⟨Rb,0,none⟩):=hd ⟨2,.data⟩ (by simp) rfl;clear hd;subst d2;go_wp2;exact RG
 simp only [TN];refine ⟨aB (by decide) fun w1 hG hd=>?_,fun v4=>?_⟩
 ·have d3:v3=.pointer (some ⟨Rb,5,none⟩):=hd ⟨3,.data⟩ (by simp) rfl;clear hd;subst d3;have c:=(ZQ (a:=zq Rb 5) (hG.block Rb hRb (fun e=>ne e.symm))).trans r5;go_wp2;exact RG
 simp only [TN];refine ⟨aB (by decide) fun w1 hG hd=>?_,fun v5=>?_⟩
 ·clear hd;go_wp2;exact RG
 simp only [TN];refine ⟨aB (by decide) fun w1 hG hd=>?_,fun v6=>?_⟩
 ·have d5:v5=.string s:=hd ⟨5,.data⟩ (by simp) rfl;clear hd;subst d5;have HX:=ai (qv w1 s (by omega));go_wp2_with fail
  refine HX.out.mono ?_;rintro e w2 ⟨rfl,hB2⟩;go_wp2;exact ⟨rfl,hB2⟩
 simp only [TN];refine ⟨aB (by decide) fun w1 hG hd=>?_,fun v7=>?_⟩
 ·clear hd;go_wp2;exact RG
 simp only [TN];refine ⟨aB (by decide) fun w1 hG hd=>?_,fun v8=>?_⟩
 ·have d7:v7=.pointer (some ⟨Rb,0,none⟩):=hd ⟨7,.data⟩ (by simp) rfl;clear hd;subst d7;go_wp2;exact RG
 simp only [TN];refine ⟨aB (by decide) fun w1 hG hd=>?_,fun v9=>?_⟩
 ·have d8:v8=.pointer (some ⟨Rb,0,none⟩):=hd ⟨8,.data⟩ (by simp) rfl;clear hd;subst d8;go_wp2;exact RG
 simp only [TN];refine ⟨aB (by decide) fun w1 hG hd=>?_,fun v10=>?_⟩
 ·have d9:v9=.pointer (some ⟨Rb,1,none⟩):=hd ⟨9,.data⟩ (by simp) rfl;clear hd;subst d9;have c:=(ZQ (a:=zq Rb 1) (hG.block Rb hRb (fun e=>ne e.symm))).trans r1;go_wp2;exact RG
 simp only [TN];refine ⟨aB (by decide) fun w1 hG hd=>?_,fun v11=>?_⟩
 ·have d10:v10=.pointer (some ⟨Fb,0,none⟩):=hd ⟨10,.data⟩ (by simp) rfl;clear hd;subst d10;have HX:=ai (kG w1 Fb N capz adz ((ZQ (a:=zq Fb 2) (hG.block Fb hFb (fun e=>neF e.symm))).trans z2) (by omega));go_wp2_with fail
  refine HX.out.mono ?_;rintro e w2 ⟨rfl,rfl⟩;go_wp2;exact RG
 simp only [TN];refine ⟨aB (by decide) fun w1 hG hd=>?_,fun v12=>?_⟩
 ·have d11:v11=.int .i64 (N:Int):=hd ⟨11,.data⟩ (by simp) rfl;clear hd;subst d11;go_wp2;exact RG
 simp only [TN];refine ⟨aB (by decide) fun w1 hG hd=>?_,fun v13=>?_⟩
 ·have d6:v6=.string s:=hd ⟨6,.data⟩ (by simp) rfl;have d12:v12=.int .i64 ((N:Int) - 1):=hd ⟨12,.data⟩ (by simp) rfl;clear hd;subst d6 d12;go_wp2;exact RG
 simp only [TN];refine ⟨aB (by decide) fun w1 hG hd=>?_,fun v14=>?_⟩
 ·have d13:v13=.agg #[s,((N:Int) - 1:Int)]:=hd ⟨13,.data⟩ (by simp) rfl;clear hd;subst d13;go_wp2;exact ⟨jI _ _ (fun k hk=>ZK (ow.lt k hk).2 (World.grownBy.size hG)),(ZT _ _).alloc (ZW _) _⟩
 simp only [TN];refine ⟨dO rfl fun w1 hG hd=>?_,fun v15=>?_⟩
 ·have d4:v4=.slice ad n cap:=hd ⟨4,.data⟩ (by simp) rfl;have d14:pO _ _ v14 w1:=hd ⟨14,.data⟩ (by simp) rfl;clear hd;subst d4;exact nJ rfl (.tmp 37) (.tmp 47) 27 rfl 98 (.agg #[.string ⟨#[]⟩,oz]) 2 24 Tryz.infoMk rfl (by omega) underlying27 B (Value.slice ad n cap) n (ms) rfl ow hB hG v14 rfl [.string s,.int .i64 ((N:Int) - 1)] d14 rfl (by intro u hu;simp at hu;rcases hu with rfl | rfl <;> rfl) (by omega) (by omega) ⟨_,rfl,by simp [Act.put]⟩
 simp only [TN];intro w7 hG hd;have d0:v0=.pointer (some ⟨Rb,0,none⟩):=hd 0 (by omega);have d15:gq _ _ _ _ _ _ _ v15 w7:=hd 15 (by omega);subst d0;obtain ⟨ad7,cap7,hv7⟩:=d15.form;subst hv7;have HX:=ai (HZ9.out _ w7 hG d15);have hb:=hG.block Rb hRb (fun e=>ne e.symm);have k2:=(ZQ (a:=zq Rb 5) hb).trans r5;have kf:=(ZH (a:=zq Rb 5) hb).trans f5;clear hd HZ9 d15 hG hb r1 r5 z2 ow f5;go_wp2_with fail
 first
  | exact HX.out
  | (go_ret;exact HX.out)
theorem xt (w:World) (Wp:Value) (Rb:Nat) (K A X C D E Co Ro:Int) (t:ByteArray) (v:Value) (HR:Hid (∀ wx,Below w w wx->QD 77 #[Wp] wx (.tuple #[zp Rb,oz]))) (HF:Hid (∀ wx,Below w w wx->QB 93 #[.agg #[K,A,X,C,D,E,Co,Ro,t]] wx (.tuple #[.nilIface,false]))):
  QB 42 #[Wp,.agg #[K,A,X,C,D,E,Co,Ro,t]] w (1:Int):=by
 go_enter func42,ntmps42
 go_wp2_with fail
 refine (HR.out _ ((ZT _ w).alloc (ZW _) _)).mono ?_;rintro e w1 ⟨rfl,qn,rfl⟩;go_wp2_with fail
 refine (HF.out _ (aY ((ZT _ w).alloc (ZW _) _))).mono ?_;rintro e w0 ⟨rfl,b0⟩;have b9:Below w w w0:=(aY ((ZT _ w).alloc (ZW _) _)).trans (b0.mono (by show w.heap.size<=(w.alloc _).heap.size;simp));have HB:=ai b9;clear b0 b9;go_wp2;go_ret;exact ⟨rfl,HB.out⟩
theorem tU (w:World) (Wp:Value) (Rb:Nat) (K A X C D E Co Ro:Int) (t:ByteArray) (Pg:Nat) (T:TypeId) (x:Value) (n m:Nat) (hn:n<=1000000000) (hm:m<=1048576) (hRb:Rb < w.heap.size) (r2:w.cell? (zq Rb 2)=zp Pg) (HR:Hid (∀ wx,Below w w wx->QD 77 #[Wp] wx (.tuple #[zp Rb,oz]))) (HF:Hid (∀ wx,Below w w wx->QB 93 #[.agg #[K,A,X,C,D,E,Co,Ro,t]] wx (.tuple #[.iface T x,true]))) (HS:Hid (∀ wx,Below w w wx->QB 88 #[.iface T x] wx (n:Int))) (HM:Hid (∀ wx,Below w w wx->QE 90 #[zp Pg] wx (m:Int))) (hl:m < n):
  QB 42 #[Wp,.agg #[K,A,X,C,D,E,Co,Ro,t]] w (3:Int):=by
 go_enter func42,ntmps42
 go_wp2_with fail
 refine (HR.out _ ((ZT _ w).alloc (ZW _) _)).mono ?_;rintro e w1 ⟨rfl,qn,rfl⟩;go_wp2_with fail
 refine (HF.out _ (aY ((ZT _ w).alloc (ZW _) _))).mono ?_;rintro e w0 ⟨rfl,b0⟩;have b9:Below w w w0:=(aY ((ZT _ w).alloc (ZW _) _)).trans (b0.mono (by show w.heap.size<=(w.alloc _).heap.size;simp));have dl:decide ((m:Int) < (n:Int))=true:=by simp;omega
 have HB9:Hid (∀ (w1:World),af w0 w1->Below w w w1):=fun w1 hG=>b9.trans (hG.mono b9.size)
 clear b0 b9;go_wp2_with fail
 refine ap 8 _ (ag [.iface T x,(n:Int),zp Rb,zp Rb,zq Rb 2,zp Pg,(m:Int),true]) (by kernel_rfl) rfl (by kernel_rfl) aq ?_;simp only [TD]
 iterate 5
  refine ⟨fun w1 hG hd=>?_,fun v=>?_⟩
  ·try (have d:=hd _ ⟨ZB _⟩ rfl;simp only [ag,GD] at d;subst d)
   clear hd;go_wp2_with fail
   first
    | exact RG
    | (refine (HS.out w1 (HB9.out w1 hG)).mono ?_;rintro e w2 ⟨rfl,hB2⟩;go_wp2;exact ⟨rfl,hB2⟩)
  simp only [TN]
 refine ⟨fun w1 hG hd=>?_,fun v5=>?_⟩
 ·have d4:=hd ⟨4,.data⟩ (by simp) rfl;simp only [ag,GD] at d4;clear hd;subst d4;have c:=(HB9.out w1 hG).cell (p:=zq Rb 2) hRb;rw [r2] at c;go_wp2;exact RG
 simp only [TN];refine ⟨fun w1 hG hd=>?_,fun v6=>?_⟩
 ·have d5:=hd ⟨5,.data⟩ (by simp) rfl;simp only [ag,GD] at d5;clear hd;subst d5;have HX:=ai (HM.out w1 (HB9.out w1 hG));go_wp2_with fail
  refine HX.out.mono ?_;rintro e w2 ⟨rfl,rfl⟩;go_wp2;exact RG
 simp only [TN];refine ⟨fun w1 hG hd=>?_,fun v7=>?_⟩
 ·have d1:=hd ⟨1,.data⟩ (by simp) rfl;have d6:=hd ⟨6,.data⟩ (by simp) rfl;simp only [ag,GD] at d1 d6;clear hd;subst d1 d6;go_wp2;exact RG
 simp only [TN];intro w2 hG hd;have d7:=hd 7 (by omega);simp only [ag,GD] at d7;subst d7;have hB2:=HB9.out w2 hG;clear hd HB9 hG;have HB:=ai hB2;clear hB2;go_wp2;go_ret;exact ⟨rfl,HB.out⟩
theorem zU (w:World) (Wp:Value) (Rb:Nat) (K A X C D E Co Ro:Int) (t:ByteArray) (Pg:Nat) (T:TypeId) (x:Value) (n m:Nat) (hn:n<=1000000000) (hm:m<=1048576) (hRb:Rb < w.heap.size) (r2:w.cell? (zq Rb 2)=zp Pg) (HR:Hid (∀ wx,Below w w wx->QD 77 #[Wp] wx (.tuple #[zp Rb,oz]))) (HF:Hid (∀ wx,Below w w wx->QB 93 #[.agg #[K,A,X,C,D,E,Co,Ro,t]] wx (.tuple #[.iface T x,true]))) (HS:Hid (∀ wx,Below w w wx->QB 88 #[.iface T x] wx (n:Int))) (HM:Hid (∀ wx,Below w w wx->QE 90 #[zp Pg] wx (m:Int))) (hl:n<=m) (f:FuncId) (et:TypeId) (ev:Value) (Z:Ending->World->Prop) (hmw:∀ wx,(method 465 T x "Write").run prog wx=.ok (f,x) wx) (hnw:∀ wx,(nilAhead 465 T x "Write").run prog wx=.ok (some false) wx) (hew:∀ args wx,(callFunc f args).run prog wx=.ok (.enter f args) wx)
  (HW:Hid (∀ wx,Below w w wx->CP f #[x,.iface 91 (zp Pg)] wx fun e w'=>(e=.returned .nilIface/\Z (.returned (0:Int)) w')\/(e=.returned (.iface et ev)/\Z (.returned (4:Int)) w'))):
  CP 42 #[Wp,.agg #[K,A,X,C,D,E,Co,Ro,t]] w Z:=by
 go_enter func42,ntmps42
 go_wp2_with fail
 refine (HR.out _ ((ZT _ w).alloc (ZW _) _)).mono ?_;rintro e w1 ⟨rfl,qn,rfl⟩;go_wp2_with fail
 refine (HF.out _ (aY ((ZT _ w).alloc (ZW _) _))).mono ?_;rintro e w0 ⟨rfl,b0⟩;have b9:Below w w w0:=(aY ((ZT _ w).alloc (ZW _) _)).trans (b0.mono (by show w.heap.size<=(w.alloc _).heap.size;simp));have dl:decide ((m:Int) < (n:Int))=false:=by simp;omega
 have dl2:¬ m < n:=by omega
 have HB9:Hid (∀ (w1:World),af w0 w1->Below w w w1):=fun w1 hG=>b9.trans (hG.mono b9.size)
 clear b0 b9;go_wp2_with fail
 refine ap 8 _ (ag [.iface T x,(n:Int),zp Rb,zp Rb,zq Rb 2,zp Pg,(m:Int),false]) (by kernel_rfl) rfl (by kernel_rfl) aq ?_;simp only [TD]
 iterate 5
  refine ⟨fun w1 hG hd=>?_,fun v=>?_⟩
  ·try (have d:=hd _ ⟨ZB _⟩ rfl;simp only [ag,GD] at d;subst d)
   clear hd;go_wp2_with fail
   first
    | exact RG
    | (refine (HS.out w1 (HB9.out w1 hG)).mono ?_;rintro e w2 ⟨rfl,hB2⟩;go_wp2;exact ⟨rfl,hB2⟩)
  simp only [TN]
 refine ⟨fun w1 hG hd=>?_,fun v5=>?_⟩
 ·have d4:=hd ⟨4,.data⟩ (by simp) rfl;simp only [ag,GD] at d4;clear hd;subst d4;have c:=(HB9.out w1 hG).cell (p:=zq Rb 2) hRb;rw [r2] at c;go_wp2;exact RG
 simp only [TN];refine ⟨fun w1 hG hd=>?_,fun v6=>?_⟩
 ·have d5:=hd ⟨5,.data⟩ (by simp) rfl;simp only [ag,GD] at d5;clear hd;subst d5;have HX:=ai (HM.out w1 (HB9.out w1 hG));go_wp2_with fail
  refine HX.out.mono ?_;rintro e w2 ⟨rfl,rfl⟩;go_wp2;exact RG
 simp only [TN];refine ⟨fun w1 hG hd=>?_,fun v7=>?_⟩
 ·have d1:=hd ⟨1,.data⟩ (by simp) rfl;have d6:=hd ⟨6,.data⟩ (by simp) rfl;simp only [ag,GD] at d1 d6;clear hd;subst d1 d6;go_wp2;exact RG
 simp only [TN];intro w2 hG hd;have d7:=hd 7 (by omega);simp only [ag,GD] at d7;subst d7;have hB2:=HB9.out w2 hG;clear hd HB9 hG;have HB9:Hid (∀ (w1:World),af w2 w1->Below w w w1):=fun w1 hG=>hB2.trans (hG.mono hB2.size)
 clear hB2 HS HM HF HR;go_wp2_with fail
 refine ap 9 _ (ag [.iface T x,zp Rb,zp Rb,zq Rb 2,zp Pg,.iface 91 (zp Pg),.func (.method "Write") #[.iface T x] #[],.func (.method "Write") #[.iface T x] #[],.iface T x]) (by kernel_rfl) rfl (by kernel_rfl) aq ?_;simp only [TD]
 iterate 4
  refine ⟨fun w1 hG hd=>?_,fun v=>?_⟩
  ·try (have d:=hd _ ⟨ZB _⟩ rfl;simp only [ag,GD] at d;subst d)
   clear hd;go_wp2;exact RG
  simp only [TN]
 refine ⟨fun w1 hG hd=>?_,fun v4=>?_⟩
 ·have d3:=hd ⟨3,.data⟩ (by simp) rfl;simp only [ag,GD] at d3;clear hd;subst d3;have c:=(HB9.out w1 hG).cell (p:=zq Rb 2) hRb;rw [r2] at c;go_wp2;exact RG
 simp only [TN]
 iterate 4
  refine ⟨fun w1 hG hd=>?_,fun v=>?_⟩
  ·try (have d:=hd _ ⟨ZB _⟩ rfl;simp only [ag,GD] at d;subst d)
   clear hd;go_wp2;exact RG
  simp only [TN]
 intro w3 hG hd;have d0:=hd 0 (by omega);have d5:=hd 5 (by omega);have d8:=hd 8 (by omega);simp only [ag,GD] at d0 d5 d8;subst d0 d5 d8;have HX:=ai (HW.out w3 (HB9.out w3 hG));clear hd HB9 hG HW;go_wp2_with fail
 refine HX.out.mono ?_;rintro e w4 (⟨rfl,hZ⟩ | ⟨rfl,hZ⟩)
 ·have HSN:=ai (mK w4);clear HX;go_wp2_with fail
  refine HSN.out.mono ?_;rintro e w5 ⟨rfl,rfl⟩;go_wp2_with fail
  first
   | exact hZ
   | (go_ret;exact hZ)
 ·have HSN:=ai (mY w4 et ev);clear HX;go_wp2_with fail
  refine HSN.out.mono ?_;rintro e w5 ⟨rfl,rfl⟩;go_wp2_with fail
  first
   | exact hZ
   | (go_ret;exact hZ)
theorem vG (w:World) (Wp:Value) (Rb:Nat) (K A X C D E Co Ro:Int) (t:ByteArray) (HR:Hid (∀ wx,Below w w wx->QD 77 #[Wp] wx (.tuple #[zp Rb,oz]))) (HF:Hid (∀ wx,Below w w wx->QB 87 #[.agg #[K,A,X,C,D,E,Co,Ro,t]] wx (.tuple #[.agg #[(0:Int),(0:Int),(0:Int),(0:Int),(0:Int),(0:Int)],false]))):
  QB 40 #[Wp,.agg #[K,A,X,C,D,E,Co,Ro,t]] w (1:Int):=by
 go_enter func40,ntmps40
 go_wp2_with fail
 refine (HR.out _ ((ZT _ w).alloc (ZW _) _)).mono ?_;rintro e w1 ⟨rfl,qn,rfl⟩;go_wp2_with fail
 refine (HF.out _ (aY ((ZT _ w).alloc (ZW _) _))).mono ?_;rintro e w0 ⟨rfl,b0⟩;have b9:Below w w w0:=(aY ((ZT _ w).alloc (ZW _) _)).trans (b0.mono (by show w.heap.size<=(w.alloc _).heap.size;simp));have HB:=ai (b9.alloc b9.size (.cells #[oz,oz,oz,oz,oz,oz] 130));clear b0 b9;go_wp2;go_ret;exact ⟨rfl,HB.out⟩
theorem qX (w:World) (Wp:Value) (Rb:Nat) (K A X C D E Co Ro:Int) (t:ByteArray) (Pg n m k:Nat) (hn:n<=1000000) (hm:m<=1048576) (hk:k<=4096) (hkk:Hid (Co*Ro=(k:Int))) (h0:0<=Co) (h1:Co<=64) (h2:0<=Ro) (h3:Ro<=64) (hRb:Rb < w.heap.size) (r2:w.cell? (zq Rb 2)=zp Pg) (HR:Hid (∀ wx,Below w w wx->QD 77 #[Wp] wx (.tuple #[zp Rb,oz]))) (HF:Hid (∀ wx,Below w w wx->QB 87 #[.agg #[K,A,X,C,D,E,Co,Ro,t]] wx (.tuple #[.agg #[A,X,C,D,Co,Ro],true]))) (HS:Hid (∀ wx,Below w w wx->QB 88 #[.iface 135 (.agg #[A,X,C,D,Co,Ro,.string ⟨#[]⟩])] wx (n:Int))) (HM:Hid (∀ wx,Below w w wx->QE 90 #[zp Pg] wx (m:Int))) (hl:m < n+k):
  QB 40 #[Wp,.agg #[K,A,X,C,D,E,Co,Ro,t]] w (3:Int):=by
 go_enter func40,ntmps40
 go_wp2_with fail
 refine (HR.out _ ((ZT _ w).alloc (ZW _) _)).mono ?_;rintro e w1 ⟨rfl,qn,rfl⟩;go_wp2_with fail
 refine (HF.out _ (aY ((ZT _ w).alloc (ZW _) _))).mono ?_;rintro e w0 ⟨rfl,b0⟩;have b9:Below w w w0:=(aY ((ZT _ w).alloc (ZW _) _)).trans (b0.mono (by show w.heap.size<=(w.alloc _).heap.size;simp));have dl:decide ((m:Int) < (n:Int)+(k:Int))=true:=by simp;omega
 have dl2:(m:Int) < (n:Int)+(k:Int):=by omega
 obtain ⟨bf,hbf⟩:∃ x,x=w0.heap.size:=⟨_,rfl⟩;have HFB:Hid (∀ (w1:World),af (w0.alloc (.cells #[A,X,C,D,Co,Ro] 130)) w1->w1.heap[bf]? =some (.cells #[A,X,C,D,Co,Ro] 130 (0,0))):=fun w1 hG=>by rw [hbf];exact (hG.block w0.heap.size (by simp)).trans (ZF w0 _)
 have HB9:Hid (∀ (w1:World),af (w0.alloc (.cells #[A,X,C,D,Co,Ro] 130)) w1->Below w w w1):=fun w1 hG=>(b9.alloc b9.size _).trans (hG.mono (by have:=b9.size;simp;omega))
 have HY:=ai (fun wx=>dC wx A X C D Co Ro h0 h1 h2 h3);rw [hkk.out] at HY;clear b0 b9;go_wp2_with fail
 rw [<-hbf];clear hbf;refine ap 13 _ (ag [.agg #[A,X,C,D,Co,Ro],.agg #[A,X,C,D,Co,Ro,.string ⟨#[]⟩],.iface 135 (.agg #[A,X,C,D,Co,Ro,.string ⟨#[]⟩]),(n:Int),.agg #[A,X,C,D,Co,Ro],(k:Int),((n:Int)+(k:Int):Int),zp Rb,zp Rb,zq Rb 2,zp Pg,(m:Int),true]) (by kernel_rfl) rfl (by kernel_rfl) aq ?_;simp only [TD];refine ⟨fun w1 hG hd=>?_,fun v0=>?_⟩
 ·clear hd;refine Zi rfl 130 (.tmp 7) rfl bf rfl 130 _ (0,0) _ (HFB.out _ hG) underlying130 rfl (by kernel_rfl) ?_;refine YN ?_;exact ⟨rfl,rfl,rfl,af.refl _⟩
 simp only [TN]
 iterate 3
  refine ⟨fun w1 hG hd=>?_,fun v=>?_⟩
  ·try (have d:=hd _ ⟨ZB _⟩ rfl;simp only [ag,GD] at d;subst d)
   clear hd;go_wp2_with fail
   first
    | exact RG
    | (refine (HS.out w1 (HB9.out w1 hG)).mono ?_;rintro e w2 ⟨rfl,hB2⟩;go_wp2;exact ⟨rfl,hB2⟩)
  simp only [TN]
 refine ⟨fun w1 hG hd=>?_,fun v4=>?_⟩
 ·clear hd;refine Zi rfl 130 (.tmp 7) rfl bf rfl 130 _ (0,0) _ (HFB.out _ hG) underlying130 rfl (by kernel_rfl) ?_;refine YN ?_;exact ⟨rfl,rfl,rfl,af.refl _⟩
 simp only [TN]
 iterate 5
  refine ⟨fun w1 hG hd=>?_,fun v=>?_⟩
  ·try (have d:=hd _ ⟨ZB _⟩ rfl;simp only [ag,GD] at d;subst d)
   try (have d:=hd _ ⟨.tail _ (.head _)⟩ rfl;simp only [ag,GD] at d;subst d)
   clear hd;go_wp2_with fail
   first
    | exact RG
    | (refine (HY.out w1).mono ?_;rintro e w2 ⟨rfl,hB2⟩;go_wp2;exact ⟨rfl,hB2⟩)
  simp only [TN]
 refine ⟨fun w1 hG hd=>?_,fun v10=>?_⟩
 ·have d9:=hd ⟨9,.data⟩ (by simp) rfl;simp only [ag,GD] at d9;clear hd;subst d9;have c:=(HB9.out w1 hG).cell (p:=zq Rb 2) hRb;rw [r2] at c;go_wp2;exact RG
 simp only [TN];refine ⟨fun w1 hG hd=>?_,fun v11=>?_⟩
 ·have d10:=hd ⟨10,.data⟩ (by simp) rfl;simp only [ag,GD] at d10;clear hd;subst d10;have HX:=ai (HM.out w1 (HB9.out w1 hG));go_wp2_with fail
  refine HX.out.mono ?_;rintro e w2 ⟨rfl,rfl⟩;go_wp2;exact RG
 simp only [TN];refine ⟨fun w1 hG hd=>?_,fun v12=>?_⟩
 ·have d6:=hd ⟨6,.data⟩ (by simp) rfl;have d11:=hd ⟨11,.data⟩ (by simp) rfl;simp only [ag,GD] at d6 d11;clear hd;subst d6 d11;go_wp2;exact RG
 simp only [TN];intro w2 hG hd;have d12:=hd 12 (by omega);simp only [ag,GD] at d12;subst d12;have hB2:=HB9.out w2 hG;have hfb:=HFB.out w2 hG;clear hd HB9 HFB hG;have HB:=ai hB2;clear hB2 hfb;go_wp2;go_ret;exact ⟨rfl,HB.out⟩
theorem yn (w:World) (Wp:Value) (Rb:Nat) (K A X C D E Co Ro:Int) (t:ByteArray) (Pg n m k:Nat) (hn:n<=1000000) (hm:m<=1048576) (hk:k<=4096) (hkk:Hid (Co*Ro=(k:Int))) (h0:0<=Co) (h1:Co<=64) (h2:0<=Ro) (h3:Ro<=64) (hRb:Rb < w.heap.size) (r2:w.cell? (zq Rb 2)=zp Pg) (HR:Hid (∀ wx,Below w w wx->QD 77 #[Wp] wx (.tuple #[zp Rb,oz]))) (HF:Hid (∀ wx,Below w w wx->QB 87 #[.agg #[K,A,X,C,D,E,Co,Ro,t]] wx (.tuple #[.agg #[A,X,C,D,Co,Ro],true]))) (HS:Hid (∀ wx,Below w w wx->QB 88 #[.iface 135 (.agg #[A,X,C,D,Co,Ro,.string ⟨#[]⟩])] wx (n:Int))) (HM:Hid (∀ wx,Below w w wx->QE 90 #[zp Pg] wx (m:Int))) (hl:n+k<=m) (Z:Ending->World->Prop) (HI:Hid (∀ wx,Below w w wx->CP 91 #[zp Rb,.agg #[A,X,C,D,Co,Ro]] wx fun e w'=>∃ v,e=.returned v/\Z (.returned v) w')):
  CP 40 #[Wp,.agg #[K,A,X,C,D,E,Co,Ro,t]] w Z:=by
 go_enter func40,ntmps40
 go_wp2_with fail
 refine (HR.out _ ((ZT _ w).alloc (ZW _) _)).mono ?_;rintro e w1 ⟨rfl,qn,rfl⟩;go_wp2_with fail
 refine (HF.out _ (aY ((ZT _ w).alloc (ZW _) _))).mono ?_;rintro e w0 ⟨rfl,b0⟩;have b9:Below w w w0:=(aY ((ZT _ w).alloc (ZW _) _)).trans (b0.mono (by show w.heap.size<=(w.alloc _).heap.size;simp));have dl:decide ((m:Int) < (n:Int)+(k:Int))=false:=by simp;omega
 have dl2:¬ (m:Int) < (n:Int)+(k:Int):=by omega
 obtain ⟨bf,hbf⟩:∃ x,x=w0.heap.size:=⟨_,rfl⟩;have HFB:Hid (∀ (w1:World),af (w0.alloc (.cells #[A,X,C,D,Co,Ro] 130)) w1->w1.heap[bf]? =some (.cells #[A,X,C,D,Co,Ro] 130 (0,0))):=fun w1 hG=>by rw [hbf];exact (hG.block w0.heap.size (by simp)).trans (ZF w0 _)
 have HB9:Hid (∀ (w1:World),af (w0.alloc (.cells #[A,X,C,D,Co,Ro] 130)) w1->Below w w w1):=fun w1 hG=>(b9.alloc b9.size _).trans (hG.mono (by have:=b9.size;simp;omega))
 have HY:=ai (fun wx=>dC wx A X C D Co Ro h0 h1 h2 h3);rw [hkk.out] at HY;clear b0 b9;go_wp2_with fail
 rw [<-hbf];clear hbf;refine ap 13 _ (ag [.agg #[A,X,C,D,Co,Ro],.agg #[A,X,C,D,Co,Ro,.string ⟨#[]⟩],.iface 135 (.agg #[A,X,C,D,Co,Ro,.string ⟨#[]⟩]),(n:Int),.agg #[A,X,C,D,Co,Ro],(k:Int),((n:Int)+(k:Int):Int),zp Rb,zp Rb,zq Rb 2,zp Pg,(m:Int),false]) (by kernel_rfl) rfl (by kernel_rfl) aq ?_;simp only [TD];refine ⟨fun w1 hG hd=>?_,fun v0=>?_⟩
 ·clear hd;refine Zi rfl 130 (.tmp 7) rfl bf rfl 130 _ (0,0) _ (HFB.out _ hG) underlying130 rfl (by kernel_rfl) ?_;refine YN ?_;exact ⟨rfl,rfl,rfl,af.refl _⟩
 simp only [TN]
 iterate 3
  refine ⟨fun w1 hG hd=>?_,fun v=>?_⟩
  ·try (have d:=hd _ ⟨ZB _⟩ rfl;simp only [ag,GD] at d;subst d)
   clear hd;go_wp2_with fail
   first
    | exact RG
    | (refine (HS.out w1 (HB9.out w1 hG)).mono ?_;rintro e w2 ⟨rfl,hB2⟩;go_wp2;exact ⟨rfl,hB2⟩)
  simp only [TN]
 refine ⟨fun w1 hG hd=>?_,fun v4=>?_⟩
 ·clear hd;refine Zi rfl 130 (.tmp 7) rfl bf rfl 130 _ (0,0) _ (HFB.out _ hG) underlying130 rfl (by kernel_rfl) ?_;refine YN ?_;exact ⟨rfl,rfl,rfl,af.refl _⟩
 simp only [TN]
 iterate 5
  refine ⟨fun w1 hG hd=>?_,fun v=>?_⟩
  ·try (have d:=hd _ ⟨ZB _⟩ rfl;simp only [ag,GD] at d;subst d)
   try (have d:=hd _ ⟨.tail _ (.head _)⟩ rfl;simp only [ag,GD] at d;subst d)
   clear hd;go_wp2_with fail
   first
    | exact RG
    | (refine (HY.out w1).mono ?_;rintro e w2 ⟨rfl,hB2⟩;go_wp2;exact ⟨rfl,hB2⟩)
  simp only [TN]
 refine ⟨fun w1 hG hd=>?_,fun v10=>?_⟩
 ·have d9:=hd ⟨9,.data⟩ (by simp) rfl;simp only [ag,GD] at d9;clear hd;subst d9;have c:=(HB9.out w1 hG).cell (p:=zq Rb 2) hRb;rw [r2] at c;go_wp2;exact RG
 simp only [TN];refine ⟨fun w1 hG hd=>?_,fun v11=>?_⟩
 ·have d10:=hd ⟨10,.data⟩ (by simp) rfl;simp only [ag,GD] at d10;clear hd;subst d10;have HX:=ai (HM.out w1 (HB9.out w1 hG));go_wp2_with fail
  refine HX.out.mono ?_;rintro e w2 ⟨rfl,rfl⟩;go_wp2;exact RG
 simp only [TN];refine ⟨fun w1 hG hd=>?_,fun v12=>?_⟩
 ·have d6:=hd ⟨6,.data⟩ (by simp) rfl;have d11:=hd ⟨11,.data⟩ (by simp) rfl;simp only [ag,GD] at d6 d11;clear hd;subst d6 d11;go_wp2;exact RG
 simp only [TN];intro w2 hG hd;have d12:=hd 12 (by omega);simp only [ag,GD] at d12;subst d12;have hB2:=HB9.out w2 hG;have hfb:=HFB.out w2 hG;clear hd HB9 HFB hG;have HX:=ai (HI.out w2 hB2);have HFF:=ai hfb;clear hB2 hfb;go_wp2_with (refine Zi rfl 130 (.tmp 7) rfl bf rfl 130 _ (0,0) _ HFF.out underlying130 rfl (by kernel_rfl) ?_)
 refine HX.out.mono ?_;rintro e w3 ⟨v,rfl,hZ⟩;go_wp2_with fail
 first
  | exact hZ
  | (go_ret;exact hZ)
theorem lI (w:World) (Rb Pg k:Nat) (A X C D Co Ro:Int) (et:TypeId) (ev:Value) (Z:Ending->World->Prop) (hkk:Hid (Co*Ro=(k:Int))) (h0:0<=Co) (h1:Co<=64) (h2:0<=Ro) (h3:Ro<=64) (hRb:Rb < w.heap.size) (r2:w.cell? (zq Rb 2)=zp Pg) (o3:Int) (r3:w.cell? (zq Rb 3)=o3) (f3:w.frozen? (zq Rb 3)=false)
  (HB:Hid (∀ w1 wx,Below w w w1->af (w1.setCell (zq Rb 3) (k:Int)) wx->CP 132 #[.agg #[A,X,C,D,Co,Ro],.iface 91 (zp Pg)] wx fun e w'=>(e=.returned .nilIface/\Z (.returned (0:Int)) w')\/(e=.returned (.iface et ev)/\Z (.returned (4:Int)) w'))):
  CP 91 #[zp Rb,.agg #[A,X,C,D,Co,Ro]] w Z:=by
 have HY:=ai (fun wx=>dC wx A X C D Co Ro h0 h1 h2 h3);rw [hkk.out] at HY;go_enter func91,ntmps91
 go_wp2_with fail
 refine (HY.out _).mono ?_;rintro e w1 ⟨rfl,b1⟩;have b9:Below w w w1:=((ZT _ w).alloc (ZW _) _).trans (b1.mono (by simp));have hfb:w1.heap[w.heap.size]? =some (.cells #[A,X,C,D,Co,Ro] 130 (0,0)):=(b1.block w.heap.size (by simp)).trans (ZF w _);have hz1:w.heap.size < w1.heap.size:=by have:=b1.size;simp at this;omega
 have k2:=(b9.cell (p:=zq Rb 2) hRb).trans r2;have k3:=(b9.cell (p:=zq Rb 3) hRb).trans r3;have kf3:=(ZH (a:=zq Rb 3) (b9.block Rb hRb)).trans f3;obtain ⟨w3,hw3⟩:∃ w3,w3=w1.setCell (zq Rb 3) (k:Int):=⟨_,rfl⟩;have HBX:Hid (∀ wx,af w3 wx->_):=fun wx hg=>HB.out w1 wx b9 (by rw [<-hw3];exact hg)
 have r23:w3.cell? (zq Rb 2)=zp Pg:=by rw [hw3,ZV _ _ _ _ (by simp)];exact k2
 have hR3:Rb < w3.heap.size:=by rw [hw3];simp [World.setCell];omega
 have HFB:Hid (∀ (w4:World),af w3 w4->w4.heap[w.heap.size]? =some (.cells #[A,X,C,D,Co,Ro] 130 (0,0))):=fun w4 hG=>(hG.block w.heap.size (by rw [hw3];simp [World.setCell];omega)).trans (by rw [hw3];exact (Yu w1 ⟨Rb,3,none⟩ w.heap.size _ (by simp;omega)).trans hfb)
 have HW3:=ai hw3;clear hw3 b1 b9 hfb k2 HB HY;go_wp2_with fail
 rw [<-HW3.out];clear HW3 k3 kf3;refine ap 6 _ (ag [.agg #[A,X,C,D,Co,Ro],zp Rb,zp Rb,zq Rb 2,zp Pg,.iface 91 (zp Pg)]) (by kernel_rfl) rfl (by kernel_rfl) aq ?_;simp only [TD];refine ⟨fun w1 hG hd=>?_,fun v0=>?_⟩
 ·clear hd;refine Zi rfl 130 (.tmp 3) rfl w.heap.size rfl 130 _ (0,0) _ (HFB.out _ hG) underlying130 rfl (by kernel_rfl) ?_;refine YN ?_;exact ⟨rfl,rfl,rfl,af.refl _⟩
 simp only [TN]
 iterate 5
  refine ⟨fun w1 hG hd=>?_,fun v=>?_⟩
  ·have c1:=(hG.cell (p:=zq Rb 2) hR3).trans r23
   try (have d:=hd _ ⟨ZB _⟩ rfl;simp only [ag,GD] at d;subst d)
   clear hd;go_wp2;exact RG
  simp only [TN]
 intro w4 hG hd;have d0:=hd 0 (by omega);have d5:=hd 5 (by omega);simp only [ag,GD] at d0 d5;subst d0 d5;have HX:=ai (HBX.out w4 hG);clear hd HFB hG HBX;go_wp2_with fail
 refine HX.out.mono ?_;rintro e w4 (⟨rfl,hZ⟩ | ⟨rfl,hZ⟩)
 ·have HSN:=ai (mK w4);clear HX;go_wp2_with fail
  refine HSN.out.mono ?_;rintro e w5 ⟨rfl,rfl⟩;go_wp2_with fail
  first
   | exact hZ
   | (go_ret;exact hZ)
 ·have HSN:=ai (mY w4 et ev);clear HX;go_wp2_with fail
  refine HSN.out.mono ?_;rintro e w5 ⟨rfl,rfl⟩;go_wp2_with fail
  first
   | exact hZ
   | (go_ret;exact hZ)
theorem qu (w:World) (Rb T Fb n cap:Nat) (ad:Option Addr) (ti:ByteArray) (et:TypeId) (ev:Value) (G1 G2:World->Prop) (Z:Ending->World->Prop) (hRb:Rb < w.heap.size) (r1:w.cell? (zq Rb 1)=zp Fb) (r4:w.cell? (zq Rb 4)=ti) (r5:w.cell? (zq Rb 5)=some (.slice ad n cap))
  (HE:Hid (∀ wx,af w wx->CP 95 #[zp Fb,ti,.slice ad n cap] wx fun e w'=>(e=.returned .nilIface/\G1 w')\/(e=.returned (.iface et ev)/\G2 w')))
  (H1:Hid (∀ w1,G1 w1->w1.cell? Rb=some (.pointer (some ⟨T,0,none⟩))/\w1.there Rb 0 6/\Z (.returned (0:Int)) (w1.setCells Rb 0 [.pointer (some ⟨T,0,none⟩),.pointer none,.pointer none,.int .i64 0,.string ⟨#[]⟩,.slice none 0 0])))
  (H2:Hid (∀ w1,G2 w1->w1.cell? Rb=some (.pointer (some ⟨T,0,none⟩))/\w1.there Rb 0 6/\Z (.returned (4:Int)) (w1.setCells Rb 0 [.pointer (some ⟨T,0,none⟩),.pointer none,.pointer none,.int .i64 0,.string ⟨#[]⟩,.slice none 0 0]))):
  CP 48 #[zp Rb] w Z:=by
 go_enter func48,ntmps48
 go_wp2_with fail
 refine ap 12 _ (ag [zp Rb,zp Rb,zq Rb 1,zp Fb,zp Rb,zp Rb,zq Rb 4,ti,zp Rb,zp Rb,zq Rb 5,.slice ad n cap]) (by kernel_rfl) rfl (by kernel_rfl) aq ?_;simp only [TD]
 iterate 12
  refine ⟨fun w1 hG hd=>?_,fun v=>?_⟩
  ·have c1:=(hG.cell (p:=zq Rb 1) hRb).trans r1;have c2:=(hG.cell (p:=zq Rb 4) hRb).trans r4;have c3:=(hG.cell (p:=zq Rb 5) hRb).trans r5
   try (have d:=hd _ ⟨ZB _⟩ rfl;simp only [ag,GD] at d;subst d)
   clear hd;go_wp2;exact RG
  simp only [TN]
 intro w1 hG hd;have d3:=hd 3 (by omega);have d7:=hd 7 (by omega);have d11:=hd 11 (by omega);simp only [ag,GD] at d3 d7 d11;subst d3 d7 d11;have HX:=ai (HE.out w1 hG);clear hd hG HE r1 r4 r5;go_wp2_with fail
 refine HX.out.mono ?_;rintro e w4 (⟨rfl,g⟩ | ⟨rfl,g⟩)
 ·obtain ⟨a0,ht,hZ⟩:=H1.out w4 g;have HT:=ai ht;obtain ⟨w6,hw6⟩:∃ w6,w6=w4.setCells Rb 0 [.pointer (some ⟨T,0,none⟩),.pointer none,.pointer none,.int .i64 0,.string ⟨#[]⟩,.slice none 0 0]:=⟨_,rfl⟩;rw [<-hw6] at hZ;have HW6:=ai hw6;have HZ:=ai hZ;have HSN:=ai (mK w6);clear HX ht hZ g hw6;go_wp2_with (refine wpList_store_mid rfl 93 (.tmp 23) (.tmp 22) rfl Rb 0 _ rfl rfl HT.out (by kernel_rfl) (by kernel_rfl) ?_;rw [<-HW6.out];clear HW6)
  refine HSN.out.mono ?_;rintro e w5 ⟨rfl,rfl⟩;go_wp2_with fail
  first
   | exact HZ.out
   | (go_ret;exact HZ.out)
 ·obtain ⟨a0,ht,hZ⟩:=H2.out w4 g;have HT:=ai ht;obtain ⟨w6,hw6⟩:∃ w6,w6=w4.setCells Rb 0 [.pointer (some ⟨T,0,none⟩),.pointer none,.pointer none,.int .i64 0,.string ⟨#[]⟩,.slice none 0 0]:=⟨_,rfl⟩;rw [<-hw6] at hZ;have HW6:=ai hw6;have HZ:=ai hZ;have HSN:=ai (mY w6 et ev);clear HX ht hZ g hw6;go_wp2_with (refine wpList_store_mid rfl 93 (.tmp 23) (.tmp 22) rfl Rb 0 _ rfl rfl HT.out (by kernel_rfl) (by kernel_rfl) ?_;rw [<-HW6.out];clear HW6)
  refine HSN.out.mono ?_;rintro e w5 ⟨rfl,rfl⟩;go_wp2_with fail
  first
   | exact HZ.out
   | (go_ret;exact HZ.out)
end Go.Proofs.YtbklfkpjoinofaaGreatDoor
