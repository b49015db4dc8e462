import Derived.Test.YtbklfkpjoinofaaGreatDoorA24
import Derived.Test.YtbklfkpjoinofaaGreatDoorA25
set_option linter.all false
set_option maxRecDepth 100000
set_option maxHeartbeats 8000000
namespace Go.Proofs.YtbklfkpjoinofaaGreatDoor
open Go.RowKit Go.Proofs.Tryz
theorem zC (w:World) (Wp:Value) (B Rb Fb Pg n cap N capz:Nat) (ad adz:Option Addr) (s:ByteArray) (ms:List Value) (Z:Ending->World->Prop) (hs:s.size<=100) (h1:decide (0 < s.size/\s.size<=100)=true) (hn:n < 20) (hN:N<=1000) (r1:w.cell? (zq Rb 1)=zp Fb) (r2:w.cell? (zq Rb 2)=zp Pg) (r5:w.cell? (zq Rb 5)=some (.slice ad n cap)) (f5:w.frozen? (zq Rb 5)=false) (z2:w.cell? (zq Fb 2)=some (.slice adz N capz)) (hRb:Rb < w.heap.size) (hFb:Fb < w.heap.size) (hB:B<=w.heap.size) (ow:w.ownsRow B 98 2 (.slice ad n cap) n ms) (ne:(Value.slice ad n cap).ownBlock≠some Rb) (neF:(Value.slice ad n cap).ownBlock≠some Fb)
  (HR:Hid (QD 47 #[Wp] w (.tuple #[zp Rb,oz])))
  (HZ:Hid (∀ v w7,w.grownBy w7 (Value.slice ad n cap).ownBlock->gq w (Value.slice ad n cap).ownBlock B 98 2 (n+1) (ms++[.string s,.int .i64 ((N:Int) - 1)]) v w7->Z (.returned (0:Int)) (w7.setCell (zq Rb 5) v))):
  CP 39 #[Wp,s] w Z:=by
 have HM:=ai (fun wx=>jB wx s (by omega));rw [h1] at HM;have d2:decide (20<=(n:Int))=false:=by simp;omega
 go_enter func39,ntmps39
 go_wp2_with fail
 refine HR.out.mono ?_;rintro e w1 ⟨rfl,qn,rfl⟩;go_wp2_with fail
 refine (HM.out _).mono ?_;rintro e w1 ⟨rfl,rfl⟩;go_wp2_with fail
 replace r1:(w.drewN qn).cell? (zq Rb 1)=zp Fb:=r1;replace r5:(w.drewN qn).cell? (zq Rb 5)=some (.slice ad n cap):=r5;replace f5:(w.drewN qn).frozen? (zq Rb 5)=false:=f5;replace z2:(w.drewN qn).cell? (zq Fb 2)=some (.slice adz N capz):=z2;replace hRb:Rb < (w.drewN qn).heap.size:=hRb;replace hFb:Fb < (w.drewN qn).heap.size:=hFb;replace hB:B<=(w.drewN qn).heap.size:=hB;replace ow:(w.drewN qn).ownsRow B 98 2 (.slice ad n cap) n ms:=ow;have HZ9:Hid (∀ v w7,(w.drewN qn).grownBy w7 (Value.slice ad n cap).ownBlock->gq (w.drewN qn) (Value.slice ad n cap).ownBlock B 98 2 (n+1) (ms++[.string s,.int .i64 ((N:Int) - 1)]) v w7->Z (.returned (0:Int)) (w7.setCell (zq Rb 5) v)):=fun v w7 hg ha=>HZ.out v w7 ⟨hg.os,hg.tape,hg.output,hg.size,hg.block⟩ ha
 clear HZ r2 HR HM;generalize w.drewN qn=wa at r1 r5 f5 z2 hRb hFb hB ow HZ9 ⊢;refine cW 16 _ 15 (fun w w'=>w.grownBy w' (Value.slice ad n cap).ownBlock) (pK wa [.pointer (some ⟨Rb,0,none⟩),.pointer (some ⟨Rb,0,none⟩),.pointer (some ⟨Rb,0,none⟩),.pointer (some ⟨Rb,5,none⟩),.slice ad n cap,.string s,.string s,.pointer (some ⟨Rb,0,none⟩),.pointer (some ⟨Rb,0,none⟩),.pointer (some ⟨Rb,1,none⟩),.pointer (some ⟨Fb,0,none⟩),.int .i64 (N:Int),.int .i64 ((N:Int) - 1),.agg #[s,((N:Int) - 1:Int)],undef,undef] 14 15 [.string s,.int .i64 ((N:Int) - 1)] (Value.slice ad n cap).ownBlock B 98 2 (n+1) (ms++[.string s,.int .i64 ((N:Int) - 1)])) (by kernel_rfl) rfl (by kernel_rfl) (lT _) (fun _ _ _=>lV) (fun _ _ _=>fE) pZ jy ?_;simp only [TD];refine ⟨aB (by decide) fun w1 hG hd=>?_,fun v0=>?_⟩
 ·clear hd;go_wp2;exact RG
 simp only [TN];refine ⟨aB (by decide) fun w1 hG hd=>?_,fun v1=>?_⟩
 ·clear hd;go_wp2;exact RG
 simp only [TN];refine ⟨aB (by decide) fun w1 hG hd=>?_,fun v2=>?_⟩
 ·have d1:v1=.pointer (some ⟨Rb,0,none⟩):=hd ⟨1,.data⟩ (by simp) rfl;clear hd;subst d1;go_wp2;exact RG
 simp only [TN];refine ⟨aB (by decide) fun w1 hG hd=>?_,fun v3=>?_⟩
 ·have d2:v2=.pointer (some ⟨Rb,0,none⟩):=hd ⟨2,.data⟩ (by simp) rfl;clear hd;subst d2;go_wp2;exact RG
 simp only [TN];refine ⟨aB (by decide) fun w1 hG hd=>?_,fun v4=>?_⟩
 ·have d3:v3=.pointer (some ⟨Rb,5,none⟩):=hd ⟨3,.data⟩ (by simp) rfl;clear hd;subst d3;have c:=(ZR (a:=zq Rb 5) (hG.block Rb hRb (fun e=>ne e.symm))).trans r5;go_wp2;exact RG
 simp only [TN];refine ⟨aB (by decide) fun w1 hG hd=>?_,fun v5=>?_⟩
 ·clear hd;go_wp2;exact RG
 simp only [TN];refine ⟨aB (by decide) fun w1 hG hd=>?_,fun v6=>?_⟩
 ·have d5:v5=.string s:=hd ⟨5,.data⟩ (by simp) rfl;clear hd;subst d5;have HX:=ai (nY w1 s (by omega));go_wp2_with fail
  refine HX.out.mono ?_;rintro e w2 ⟨rfl,hB2⟩;go_wp2;exact ⟨rfl,hB2⟩
 simp only [TN];refine ⟨aB (by decide) fun w1 hG hd=>?_,fun v7=>?_⟩
 ·clear hd;go_wp2;exact RG
 simp only [TN];refine ⟨aB (by decide) fun w1 hG hd=>?_,fun v8=>?_⟩
 ·have d7:v7=.pointer (some ⟨Rb,0,none⟩):=hd ⟨7,.data⟩ (by simp) rfl;clear hd;subst d7;go_wp2;exact RG
 simp only [TN];refine ⟨aB (by decide) fun w1 hG hd=>?_,fun v9=>?_⟩
 ·have d8:v8=.pointer (some ⟨Rb,0,none⟩):=hd ⟨8,.data⟩ (by simp) rfl;clear hd;subst d8;go_wp2;exact RG
 simp only [TN];refine ⟨aB (by decide) fun w1 hG hd=>?_,fun v10=>?_⟩
 ·have d9:v9=.pointer (some ⟨Rb,1,none⟩):=hd ⟨9,.data⟩ (by simp) rfl;clear hd;subst d9;have c:=(ZR (a:=zq Rb 1) (hG.block Rb hRb (fun e=>ne e.symm))).trans r1;go_wp2;exact RG
 simp only [TN];refine ⟨aB (by decide) fun w1 hG hd=>?_,fun v11=>?_⟩
 ·have d10:v10=.pointer (some ⟨Fb,0,none⟩):=hd ⟨10,.data⟩ (by simp) rfl;clear hd;subst d10;have HX:=ai (kG w1 Fb N capz adz ((ZR (a:=zq Fb 2) (hG.block Fb hFb (fun e=>neF e.symm))).trans z2) (by omega));go_wp2_with fail
  refine HX.out.mono ?_;rintro e w2 ⟨rfl,rfl⟩;go_wp2;exact RG
 simp only [TN];refine ⟨aB (by decide) fun w1 hG hd=>?_,fun v12=>?_⟩
 ·have d11:v11=.int .i64 (N:Int):=hd ⟨11,.data⟩ (by simp) rfl;clear hd;subst d11;go_wp2;exact RG
 simp only [TN];refine ⟨aB (by decide) fun w1 hG hd=>?_,fun v13=>?_⟩
 ·have d6:v6=.string s:=hd ⟨6,.data⟩ (by simp) rfl;have d12:v12=.int .i64 ((N:Int) - 1):=hd ⟨12,.data⟩ (by simp) rfl;clear hd;subst d6 d12;go_wp2;exact RG
 simp only [TN];refine ⟨aB (by decide) fun w1 hG hd=>?_,fun v14=>?_⟩
 ·have d13:v13=.agg #[s,((N:Int) - 1:Int)]:=hd ⟨13,.data⟩ (by simp) rfl;clear hd;subst d13;go_wp2;exact ⟨jI _ _ (fun k hk=>ZK (ow.lt k hk).2 (World.grownBy.size hG)),(ZQ _ _).alloc (ZV _) _⟩
 simp only [TN];refine ⟨dO rfl fun w1 hG hd=>?_,fun v15=>?_⟩
 ·have d4:v4=.slice ad n cap:=hd ⟨4,.data⟩ (by simp) rfl;have d14:pO _ _ v14 w1:=hd ⟨14,.data⟩ (by simp) rfl;clear hd;subst d4;exact nJ rfl (.tmp 37) (.tmp 47) 27 rfl 98 (.agg #[.string ⟨#[]⟩,oz]) 2 24 Tryz.infoMk rfl (by omega) underlying27 B (Value.slice ad n cap) n (ms) rfl ow hB hG v14 rfl [.string s,.int .i64 ((N:Int) - 1)] d14 rfl (by intro u hu;simp at hu;rcases hu with rfl | rfl <;> rfl) (by omega) (by omega) ⟨_,rfl,by simp [Act.put]⟩
 simp only [TN];intro w7 hG hd;have d0:v0=.pointer (some ⟨Rb,0,none⟩):=hd 0 (by omega);have d15:gq _ _ _ _ _ _ _ v15 w7:=hd 15 (by omega);subst d0;obtain ⟨ad7,cap7,hv7⟩:=d15.form;subst hv7;have HX:=ai (HZ9.out _ w7 hG d15);have hb:=hG.block Rb hRb (fun e=>ne e.symm);have k2:=(ZR (a:=zq Rb 5) hb).trans r5;have kf:=(ZH (a:=zq Rb 5) hb).trans f5;clear hd HZ9 d15 hG hb r1 r5 z2 ow f5;go_wp2_with fail
 first
  | exact HX.out
  | (go_ret;exact HX.out)
theorem xt (w:World) (Wp:Value) (Rb:Nat) (K A X C D E Co Ro:Int) (t:ByteArray) (v:Value) (HR:Hid (∀ wx,Below w w wx->QD 77 #[Wp] wx (.tuple #[zp Rb,oz]))) (HF:Hid (∀ wx,Below w w wx->QB 93 #[.agg #[K,A,X,C,D,E,Co,Ro,t]] wx (.tuple #[.nilIface,false]))):
  QB 42 #[Wp,.agg #[K,A,X,C,D,E,Co,Ro,t]] w (1:Int):=by
 go_enter func42,ntmps42
 go_wp2_with fail
 refine (HR.out _ ((ZQ _ w).alloc (ZV _) _)).mono ?_;rintro e w1 ⟨rfl,qn,rfl⟩;go_wp2_with fail
 refine (HF.out _ (aY ((ZQ _ w).alloc (ZV _) _))).mono ?_;rintro e w0 ⟨rfl,b0⟩;have b9:Below w w w0:=(aY ((ZQ _ w).alloc (ZV _) _)).trans (b0.mono (by show w.heap.size<=(w.alloc _).heap.size;simp));have HB:=ai b9;clear b0 b9;go_wp2;go_ret;exact ⟨rfl,HB.out⟩
theorem tU (w:World) (Wp:Value) (Rb:Nat) (K A X C D E Co Ro:Int) (t:ByteArray) (Pg:Nat) (T:TypeId) (x:Value) (n m:Nat) (hn:n<=1000000000) (hm:m<=1048576) (hRb:Rb < w.heap.size) (r2:w.cell? (zq Rb 2)=zp Pg) (HR:Hid (∀ wx,Below w w wx->QD 77 #[Wp] wx (.tuple #[zp Rb,oz]))) (HF:Hid (∀ wx,Below w w wx->QB 93 #[.agg #[K,A,X,C,D,E,Co,Ro,t]] wx (.tuple #[.iface T x,true]))) (HS:Hid (∀ wx,Below w w wx->QB 88 #[.iface T x] wx (n:Int))) (HM:Hid (∀ wx,Below w w wx->QE 90 #[zp Pg] wx (m:Int))) (hl:m < n):
  QB 42 #[Wp,.agg #[K,A,X,C,D,E,Co,Ro,t]] w (3:Int):=by
 go_enter func42,ntmps42
 go_wp2_with fail
 refine (HR.out _ ((ZQ _ w).alloc (ZV _) _)).mono ?_;rintro e w1 ⟨rfl,qn,rfl⟩;go_wp2_with fail
 refine (HF.out _ (aY ((ZQ _ w).alloc (ZV _) _))).mono ?_;rintro e w0 ⟨rfl,b0⟩;have b9:Below w w w0:=(aY ((ZQ _ w).alloc (ZV _) _)).trans (b0.mono (by show w.heap.size<=(w.alloc _).heap.size;simp));have dl:decide ((m:Int) < (n:Int))=true:=by simp;omega
 have HB9:Hid (∀ (w1:World),af w0 w1->Below w w w1):=fun w1 hG=>b9.trans (hG.mono b9.size)
 clear b0 b9;go_wp2_with fail
 refine ap 8 _ (ag [.iface T x,(n:Int),zp Rb,zp Rb,zq Rb 2,zp Pg,(m:Int),true]) (by kernel_rfl) rfl (by kernel_rfl) aq ?_;simp only [TD]
 iterate 5
  refine ⟨fun w1 hG hd=>?_,fun v=>?_⟩
  ·try (have d:=hd _ ⟨Zy _⟩ rfl;simp only [ag,GD] at d;subst d)
   clear hd;go_wp2_with fail
   first
    | exact RG
    | (refine (HS.out w1 (HB9.out w1 hG)).mono ?_;rintro e w2 ⟨rfl,hB2⟩;go_wp2;exact ⟨rfl,hB2⟩)
  simp only [TN]
 refine ⟨fun w1 hG hd=>?_,fun v5=>?_⟩
 ·have d4:=hd ⟨4,.data⟩ (by simp) rfl;simp only [ag,GD] at d4;clear hd;subst d4;have c:=(HB9.out w1 hG).cell (p:=zq Rb 2) hRb;rw [r2] at c;go_wp2;exact RG
 simp only [TN];refine ⟨fun w1 hG hd=>?_,fun v6=>?_⟩
 ·have d5:=hd ⟨5,.data⟩ (by simp) rfl;simp only [ag,GD] at d5;clear hd;subst d5;have HX:=ai (HM.out w1 (HB9.out w1 hG));go_wp2_with fail
  refine HX.out.mono ?_;rintro e w2 ⟨rfl,rfl⟩;go_wp2;exact RG
 simp only [TN];refine ⟨fun w1 hG hd=>?_,fun v7=>?_⟩
 ·have d1:=hd ⟨1,.data⟩ (by simp) rfl;have d6:=hd ⟨6,.data⟩ (by simp) rfl;simp only [ag,GD] at d1 d6;clear hd;subst d1 d6;go_wp2;exact RG
 simp only [TN];intro w2 hG hd;have d7:=hd 7 (by omega);simp only [ag,GD] at d7;subst d7;have hB2:=HB9.out w2 hG;clear hd HB9 hG;have HB:=ai hB2;clear hB2;go_wp2;go_ret;exact ⟨rfl,HB.out⟩
theorem zU (w:World) (Wp:Value) (Rb:Nat) (K A X C D E Co Ro:Int) (t:ByteArray) (Pg:Nat) (T:TypeId) (x:Value) (n m:Nat) (hn:n<=1000000000) (hm:m<=1048576) (hRb:Rb < w.heap.size) (r2:w.cell? (zq Rb 2)=zp Pg) (HR:Hid (∀ wx,Below w w wx->QD 77 #[Wp] wx (.tuple #[zp Rb,oz]))) (HF:Hid (∀ wx,Below w w wx->QB 93 #[.agg #[K,A,X,C,D,E,Co,Ro,t]] wx (.tuple #[.iface T x,true]))) (HS:Hid (∀ wx,Below w w wx->QB 88 #[.iface T x] wx (n:Int))) (HM:Hid (∀ wx,Below w w wx->QE 90 #[zp Pg] wx (m:Int))) (hl:n<=m) (f:FuncId) (et:TypeId) (ev:Value) (Z:Ending->World->Prop) (hmw:∀ wx,(method 465 T x "Write").run prog wx=.ok (f,x) wx) (hnw:∀ wx,(nilAhead 465 T x "Write").run prog wx=.ok (some false) wx) (hew:∀ args wx,(callFunc f args).run prog wx=.ok (.enter f args) wx)
  (HW:Hid (∀ wx,Below w w wx->CP f #[x,.iface 91 (zp Pg)] wx fun e w'=>(e=.returned .nilIface/\Z (.returned (0:Int)) w')\/(e=.returned (.iface et ev)/\Z (.returned (4:Int)) w'))):
  CP 42 #[Wp,.agg #[K,A,X,C,D,E,Co,Ro,t]] w Z:=by
 go_enter func42,ntmps42
 go_wp2_with fail
 refine (HR.out _ ((ZQ _ w).alloc (ZV _) _)).mono ?_;rintro e w1 ⟨rfl,qn,rfl⟩;go_wp2_with fail
 refine (HF.out _ (aY ((ZQ _ w).alloc (ZV _) _))).mono ?_;rintro e w0 ⟨rfl,b0⟩;have b9:Below w w w0:=(aY ((ZQ _ w).alloc (ZV _) _)).trans (b0.mono (by show w.heap.size<=(w.alloc _).heap.size;simp));have dl:decide ((m:Int) < (n:Int))=false:=by simp;omega
 have dl2:¬ m < n:=by omega
 have HB9:Hid (∀ (w1:World),af w0 w1->Below w w w1):=fun w1 hG=>b9.trans (hG.mono b9.size)
 clear b0 b9;go_wp2_with fail
 refine ap 8 _ (ag [.iface T x,(n:Int),zp Rb,zp Rb,zq Rb 2,zp Pg,(m:Int),false]) (by kernel_rfl) rfl (by kernel_rfl) aq ?_;simp only [TD]
 iterate 5
  refine ⟨fun w1 hG hd=>?_,fun v=>?_⟩
  ·try (have d:=hd _ ⟨Zy _⟩ rfl;simp only [ag,GD] at d;subst d)
   clear hd;go_wp2_with fail
   first
    | exact RG
    | (refine (HS.out w1 (HB9.out w1 hG)).mono ?_;rintro e w2 ⟨rfl,hB2⟩;go_wp2;exact ⟨rfl,hB2⟩)
  simp only [TN]
 refine ⟨fun w1 hG hd=>?_,fun v5=>?_⟩
 ·have d4:=hd ⟨4,.data⟩ (by simp) rfl;simp only [ag,GD] at d4;clear hd;subst d4;have c:=(HB9.out w1 hG).cell (p:=zq Rb 2) hRb;rw [r2] at c;go_wp2;exact RG
 simp only [TN];refine ⟨fun w1 hG hd=>?_,fun v6=>?_⟩
 ·have d5:=hd ⟨5,.data⟩ (by simp) rfl;simp only [ag,GD] at d5;clear hd;subst d5;have HX:=ai (HM.out w1 (HB9.out w1 hG));go_wp2_with fail
  refine HX.out.mono ?_;rintro e w2 ⟨rfl,rfl⟩;go_wp2;exact RG
 simp only [TN];refine ⟨fun w1 hG hd=>?_,fun v7=>?_⟩
 ·have d1:=hd ⟨1,.data⟩ (by simp) rfl;have d6:=hd ⟨6,.data⟩ (by simp) rfl;simp only [ag,GD] at d1 d6;clear hd;subst d1 d6;go_wp2;exact RG
 simp only [TN];intro w2 hG hd;have d7:=hd 7 (by omega);simp only [ag,GD] at d7;subst d7;have hB2:=HB9.out w2 hG;clear hd HB9 hG;have HB9:Hid (∀ (w1:World),af w2 w1->Below w w w1):=fun w1 hG=>hB2.trans (hG.mono hB2.size)
 clear hB2 HS HM HF HR;go_wp2_with fail
 refine ap 9 _ (ag [.iface T x,zp Rb,zp Rb,zq Rb 2,zp Pg,.iface 91 (zp Pg),.func (.method "Write") #[.iface T x] #[],.func (.method "Write") #[.iface T x] #[],.iface T x]) (by kernel_rfl) rfl (by kernel_rfl) aq ?_;simp only [TD]
 iterate 4
  refine ⟨fun w1 hG hd=>?_,fun v=>?_⟩
  ·try (have d:=hd _ ⟨Zy _⟩ rfl;simp only [ag,GD] at d;subst d)
   clear hd;go_wp2;exact RG
  simp only [TN]
 refine ⟨fun w1 hG hd=>?_,fun v4=>?_⟩
 ·have d3:=hd ⟨3,.data⟩ (by simp) rfl;simp only [ag,GD] at d3;clear hd;subst d3;have c:=(HB9.out w1 hG).cell (p:=zq Rb 2) hRb;rw [r2] at c;go_wp2;exact RG
 simp only [TN]
 iterate 4
  refine ⟨fun w1 hG hd=>?_,fun v=>?_⟩
  ·try (have d:=hd _ ⟨Zy _⟩ rfl;simp only [ag,GD] at d;subst d)
   clear hd;go_wp2;exact RG
  simp only [TN]
 intro w3 hG hd;have d0:=hd 0 (by omega);have d5:=hd 5 (by omega);have d8:=hd 8 (by omega);simp only [ag,GD] at d0 d5 d8;subst d0 d5 d8;have HX:=ai (HW.out w3 (HB9.out w3 hG));clear hd HB9 hG HW;go_wp2_with fail
 refine HX.out.mono ?_;rintro e w4 (⟨rfl,hZ⟩ | ⟨rfl,hZ⟩)
 ·have HSN:=ai (mK w4);clear HX;go_wp2_with fail
  refine HSN.out.mono ?_;rintro e w5 ⟨rfl,rfl⟩;go_wp2_with fail
  first
   | exact hZ
   | (go_ret;exact hZ)
 ·have HSN:=ai (mY w4 et ev);clear HX;go_wp2_with fail
  refine HSN.out.mono ?_;rintro e w5 ⟨rfl,rfl⟩;go_wp2_with fail
  first
   | exact hZ
   | (go_ret;exact hZ)
theorem qu (w:World) (Rb T Fb n cap:Nat) (ad:Option Addr) (ti:ByteArray) (et:TypeId) (ev:Value) (G1 G2:World->Prop) (Z:Ending->World->Prop) (hRb:Rb < w.heap.size) (r1:w.cell? (zq Rb 1)=zp Fb) (r4:w.cell? (zq Rb 4)=ti) (r5:w.cell? (zq Rb 5)=some (.slice ad n cap))
  (HE:Hid (∀ wx,af w wx->CP 95 #[zp Fb,ti,.slice ad n cap] wx fun e w'=>(e=.returned .nilIface/\G1 w')\/(e=.returned (.iface et ev)/\G2 w')))
  (H1:Hid (∀ w1,G1 w1->w1.cell? Rb=some (.pointer (some ⟨T,0,none⟩))/\w1.there Rb 0 6/\Z (.returned (0:Int)) (w1.setCells Rb 0 [.pointer (some ⟨T,0,none⟩),.pointer none,.pointer none,.int .i64 0,.string ⟨#[]⟩,.slice none 0 0])))
  (H2:Hid (∀ w1,G2 w1->w1.cell? Rb=some (.pointer (some ⟨T,0,none⟩))/\w1.there Rb 0 6/\Z (.returned (4:Int)) (w1.setCells Rb 0 [.pointer (some ⟨T,0,none⟩),.pointer none,.pointer none,.int .i64 0,.string ⟨#[]⟩,.slice none 0 0]))):
  CP 48 #[zp Rb] w Z:=by
 go_enter func48,ntmps48
 go_wp2_with fail
 refine ap 12 _ (ag [zp Rb,zp Rb,zq Rb 1,zp Fb,zp Rb,zp Rb,zq Rb 4,ti,zp Rb,zp Rb,zq Rb 5,.slice ad n cap]) (by kernel_rfl) rfl (by kernel_rfl) aq ?_;simp only [TD]
 iterate 12
  refine ⟨fun w1 hG hd=>?_,fun v=>?_⟩
  ·have c1:=(hG.cell (p:=zq Rb 1) hRb).trans r1;have c2:=(hG.cell (p:=zq Rb 4) hRb).trans r4;have c3:=(hG.cell (p:=zq Rb 5) hRb).trans r5
   try (have d:=hd _ ⟨Zy _⟩ rfl;simp only [ag,GD] at d;subst d)
   clear hd;go_wp2;exact RG
  simp only [TN]
 intro w1 hG hd;have d3:=hd 3 (by omega);have d7:=hd 7 (by omega);have d11:=hd 11 (by omega);simp only [ag,GD] at d3 d7 d11;subst d3 d7 d11;have HX:=ai (HE.out w1 hG);clear hd hG HE r1 r4 r5;go_wp2_with fail
 refine HX.out.mono ?_;rintro e w4 (⟨rfl,g⟩ | ⟨rfl,g⟩)
 ·obtain ⟨a0,ht,hZ⟩:=H1.out w4 g;have HT:=ai ht;obtain ⟨w6,hw6⟩:∃ w6,w6=w4.setCells Rb 0 [.pointer (some ⟨T,0,none⟩),.pointer none,.pointer none,.int .i64 0,.string ⟨#[]⟩,.slice none 0 0]:=⟨_,rfl⟩;rw [<-hw6] at hZ;have HW6:=ai hw6;have HZ:=ai hZ;have HSN:=ai (mK w6);clear HX ht hZ g hw6;go_wp2_with (refine wpList_store_mid rfl 93 (.tmp 23) (.tmp 22) rfl Rb 0 _ rfl rfl HT.out (by kernel_rfl) (by kernel_rfl) ?_;rw [<-HW6.out];clear HW6)
  refine HSN.out.mono ?_;rintro e w5 ⟨rfl,rfl⟩;go_wp2_with fail
  first
   | exact HZ.out
   | (go_ret;exact HZ.out)
 ·obtain ⟨a0,ht,hZ⟩:=H2.out w4 g;have HT:=ai ht;obtain ⟨w6,hw6⟩:∃ w6,w6=w4.setCells Rb 0 [.pointer (some ⟨T,0,none⟩),.pointer none,.pointer none,.int .i64 0,.string ⟨#[]⟩,.slice none 0 0]:=⟨_,rfl⟩;rw [<-hw6] at hZ;have HW6:=ai hw6;have HZ:=ai hZ;have HSN:=ai (mY w6 et ev);clear HX ht hZ g hw6;go_wp2_with (refine wpList_store_mid rfl 93 (.tmp 23) (.tmp 22) rfl Rb 0 _ rfl rfl HT.out (by kernel_rfl) (by kernel_rfl) ?_;rw [<-HW6.out];clear HW6)
  refine HSN.out.mono ?_;rintro e w5 ⟨rfl,rfl⟩;go_wp2_with fail
  first
   | exact HZ.out
   | (go_ret;exact HZ.out)
structure Wn where
 (B T C Fb Rb Wb:Nat)
 (lim:Int)
def Wn.K (n:Wn):World->Bl->List UInt8->Prop:=jp n.B n.T n.lim
def Wn.sk (n:Wn):Value:=.pointer (some ⟨n.T,0,none⟩)
abbrev iB:=List UInt8×(Int×Int×List bj)
def aA (xs:List iB):List (List UInt8):=xs.reverse.map (·.1)
def aQ (xs:List iB):List (Int×Int):=xs.reverse.map fun x=>(x.2.1,x.2.2.1)
def kx (x:iB):Prop:=Pm.bP x.1=some (bE x.2.2.2,x.1.length)/\(bE x.2.2.2).length<=1048576/\(∀ o∈x.2.2.2,o.is)/\8*x.1.length<=80+9*(bE x.2.2.2).length/\bG x.2.1 1 14400000/\bG x.2.2.1 1 14400000
def bj.headB (o:bj):List UInt8:=[113,32]++(aG [o.c]++([48,32,48,32]++(aG [o.d,o.a,o.b]++([99,109,32,66,73,32,47,87,32]++(Lib.itoa o.co++([32,47,72,32]++(Lib.itoa o.ro++[32,47,67,83,32,47,71,32,47,66,80,67,32,56,32,73,68,32])))))))
def St.part (s:St):List UInt8:=if s.left=0 then [] else s.img.headB++s.img.s.data.toList
def St.mks (s:St):List (List UInt8×Nat):=s.marks.map fun m=>(m.1.data.toList,m.2)
def St.fits (s:St) (ops:List bj):Prop:=(∀ o∈ops,o.is)/\(if s.left=0 then s.size=(bE ops).length else s.size=(bE ops).length+s.img.headB.length+s.img.s.size+s.left+6/\s.img.k=4/\s.img.e=0/\bG s.img.a (-14400000) 14400000/\bG s.img.b (-14400000) 14400000/\bG s.img.c 1 14400000/\bG s.img.d 1 14400000/\bG s.img.co 1 64/\bG s.img.ro 1 64/\((s.img.s.size+s.left:Nat):Int)=s.img.co*s.img.ro)
def Wn.closed (n:Wn) (s:St) (xs:List iB):As:=
 ah (aS n.B n.Wb [.pointer (some ⟨n.Rb,0,none⟩)]) (ah (aS n.B n.Rb [.pointer (some ⟨n.T,0,none⟩),.pointer none,.pointer none,.int .i64 0,.string ⟨#[]⟩,.slice none 0 0]) (fun w S=>n.K w S (fO (aA xs) (aQ xs) s.mks s.title.data.toList)))
def Wn.idle (n:Wn) (s:St) (xs:List iB) (X:List UInt8):As:=
 ah (aS n.B n.Wb [.pointer (some ⟨n.Rb,0,none⟩)]) (ah (de n.B n.Rb n.T n.Fb (.pointer none) 0 s.title s.marks.length (iz s.marks)) (aX n.K n.B n.Fb n.C 89 n.sk (be 9 0 (aA xs)) (aQ xs) X))
def Wn.drawn (n:Wn) (s:St) (xs:List iB) (W H:Int) (ops:List bj) (Pg Cd P Cp:Nat) (st:dE) (Y:List UInt8):As:=
 ah (aS n.B n.Wb [.pointer (some ⟨n.Rb,0,none⟩)]) (ah (de n.B n.Rb n.T n.Fb (zp Pg) (s.left:Int) s.title s.marks.length (iz s.marks)) (cG n.K n.B n.Fb n.C Pg Cd P Cp 89 n.sk (be 9 0 (aA xs)++[(aC (aA xs)).length]) (aQ xs++[(W,H)]) st (aC (aA xs)++(aL (2*xs.length+1)++cX (2*xs.length+2))) Y (bE ops++s.part)))
theorem Wn.closed_thing (n:Wn) (s:St) (xs:List iB):aJ n.B (n.closed s xs):=ah.thing (aS.thing _ _ _) (ah.thing (aS.thing _ _ _) (jp.thing _ _ _ _))
theorem Wn.idle_thing (n:Wn) (s:St) (xs:List iB) (X:List UInt8):aJ n.B (n.idle s xs X):=ah.thing (aS.thing _ _ _) (ah.thing (de.thing _ _ _ _ _ _ _ _ _) (aX.thing (jp.thing _ _ _) _ _ _ _ _ _ _))
theorem Wn.drawn_thing (n:Wn) (s:St) (xs:List iB) (W H:Int) (ops:List bj) (Pg Cd P Cp:Nat) (st:dE) (Y:List UInt8):aJ n.B (n.drawn s xs W H ops Pg Cd P Cp st Y):=ah.thing (aS.thing _ _ _) (ah.thing (de.thing _ _ _ _ _ _ _ _ _) (cG.thing (jp.thing _ _ _) _ _ _ _ _ _ _ _ _ _ _ _))
def WD (n:Wn) (s:St):As:=fun w S=>∃ xs:List iB,(∀ x∈xs,kx x)/\
 ((s.cl=true/\xs.map (·.2)=s.pages/\n.closed s xs w S)\/
  (s.cl=false/\s.op=false/\xs.map (·.2)=s.pages/\∃ X,((X=[]/\xs=[])\/X=aC (aA xs))/\n.idle s xs X w S)\/
  (s.cl=false/\s.op=true/\∃ W H ops l Pg Cd P Cp st Y,s.pages=(W,H,ops)::l/\xs.map (·.2)=l/\bG W 1 14400000/\bG H 1 14400000/\s.fits ops/\PI st Y (bE ops++s.part)/\st.W.length - st.at_ < 261/\n.drawn s xs W H ops Pg Cd P Cp st Y w S))
theorem WD.thing (n:Wn) (s:St):aJ n.B (WD n s) where
 keep:=by
  rintro w w' S ⟨xs,hx,⟨a,b,h⟩ | ⟨a,b,c,X,d,h⟩ | ⟨a,b,W,H,ops,l,Pg,Cd,P,Cp,st,Y,c1,c2,c3,c4,c5,c6,c7,h⟩⟩ hk hz
  ·exact ⟨xs,hx,.inl ⟨a,b,(Wn.closed_thing n s xs).keep h hk hz⟩⟩
  ·exact ⟨xs,hx,.inr (.inl ⟨a,b,c,X,d,(Wn.idle_thing n s xs X).keep h hk hz⟩)⟩
  ·exact ⟨xs,hx,.inr (.inr ⟨a,b,W,H,ops,l,Pg,Cd,P,Cp,st,Y,c1,c2,c3,c4,c5,c6,c7,(Wn.drawn_thing n s xs W H ops Pg Cd P Cp st Y).keep h hk hz⟩)⟩
 lt:=by
  rintro w S k ⟨xs,hx,⟨a,b,h⟩ | ⟨a,b,c,X,d,h⟩ | ⟨a,b,W,H,ops,l,Pg,Cd,P,Cp,st,Y,c1,c2,c3,c4,c5,c6,c7,h⟩⟩ hk
  ·exact (Wn.closed_thing n s xs).lt h hk
  ·exact (Wn.idle_thing n s xs X).lt h hk
  ·exact (Wn.drawn_thing n s xs W H ops Pg Cd P Cp st Y).lt h hk
 ge:=by
  rintro w S k ⟨xs,hx,⟨a,b,h⟩ | ⟨a,b,c,X,d,h⟩ | ⟨a,b,W,H,ops,l,Pg,Cd,P,Cp,st,Y,c1,c2,c3,c4,c5,c6,c7,h⟩⟩ hk
  ·exact (Wn.closed_thing n s xs).ge h hk
  ·exact (Wn.idle_thing n s xs X).ge h hk
  ·exact (Wn.drawn_thing n s xs W H ops Pg Cd P Cp st Y).ge h hk
def dp (n:Wn) (w:World) (S:Bl) (r:Int×St) (e:Ending) (w':World):Prop:=e=.returned (.int .i64 r.1)/\∃ S',WD n r.2 w' S'/\Mv S w S' w'
theorem dp.same {n:Wn} {w w':World} {S:Bl} {s:St} {i:Int} (h:WD n s w S) (hb:Below w w w'):dp n w S (i,s) (.returned i) w':=
 ⟨rfl,S,(WD.thing n s).keep h (fun k hk=>hb.block k ((WD.thing n s).lt h hk)) hb.size,Mv.grow hb S⟩
theorem Wn.closed_read {n:Wn} {s:St} {xs:List iB} {w:World} {S:Bl} (h:n.closed s xs w S):w.cell? n.Wb=zp n.Rb/\w.cell? n.Rb=zp n.T/\w.cell? (zq n.T 2)=false/\w.cell? (zq n.Rb 1)=some (.pointer none)/\w.cell? (zq n.Rb 2)=some (.pointer none)/\∃ R,n.K w R (fO (aA xs) (aQ xs) s.mks s.title.data.toList):=by
 obtain ⟨S1,S2,hc,⟨S3,S4,hr,hk,_,_⟩,_,_⟩:=h;have hk2:=hk;obtain ⟨vt,sl,_⟩:=hk;exact ⟨hc.at 0 _ rfl,hr.at 0 _ rfl,sl.c2,hr.at 1 _ rfl,hr.at 2 _ rfl,S4,hk2⟩
theorem Wn.idle_read {n:Wn} {s:St} {xs:List iB} {X:List UInt8} {w:World} {S:Bl} (h:n.idle s xs X w S):w.cell? n.Wb=zp n.Rb/\w.cell? n.Rb=zp n.T/\w.cell? (zq n.T 2)=false/\w.cell? (zq n.Rb 1)=zp n.Fb/\w.cell? (zq n.Rb 2)=some (.pointer none)/\w.cell? (zq n.Rb 3)=(0:Int)/\w.cell? (zq n.Rb 4)=s.title/\(∀ o,w.frozen? (zq n.Rb o)=false)/\n.Rb < w.heap.size/\∃ R,n.K w R X:=by
 obtain ⟨S1,S2,hc,⟨S3,S4,hr,hf,_,_⟩,_,_⟩:=h;obtain ⟨r0,r1,r2,r3,r4,fz,hl⟩:=hr.read;obtain ⟨S5,S6,_,hck,_,_⟩:=hf;obtain ⟨R,hk,_⟩:=hck;have hk2:=hk;obtain ⟨vt,sl,_⟩:=hk;exact ⟨hc.at 0 _ rfl,r0,sl.c2,r1,r2,r3,r4,fz,hl,R,hk2⟩
theorem Wn.drawn_read {n:Wn} {s:St} {xs:List iB} {W H:Int} {ops:List bj} {Pg Cd P Cp:Nat} {st:dE} {Y:List UInt8} {w:World} {S:Bl} (h:n.drawn s xs W H ops Pg Cd P Cp st Y w S):w.cell? n.Wb=zp n.Rb/\w.cell? n.Rb=zp n.T/\w.cell? (zq n.T 2)=false/\w.cell? (zq n.Rb 1)=zp n.Fb/\w.cell? (zq n.Rb 2)=zp Pg/\w.cell? (zq n.Rb 3)=(s.left:Int)/\w.cell? (zq n.Rb 4)=s.title/\(∀ o,w.frozen? (zq n.Rb o)=false)/\n.Rb < w.heap.size:=by
 obtain ⟨S1,S2,hc,⟨S3,S4,hr,hp,_,_⟩,_,_⟩:=h;obtain ⟨r0,r1,r2,r3,r4,fz,hl⟩:=hr.read;obtain ⟨S5,S6,_,⟨S7,S8,_,⟨S9,S10,_,hpd,_,_⟩,_,_⟩,_,_⟩:=hp;obtain ⟨vf,vw,vs,R,_,hk2,_⟩:=hpd;obtain ⟨R1,hck,_⟩:=hk2;obtain ⟨R2,hk,_⟩:=hck;obtain ⟨vt,sl,_⟩:=hk;exact ⟨hc.at 0 _ rfl,r0,sl.c2,r1,r2,r3,r4,fz,hl⟩
theorem dV (n:Wn) (s:St) (w:World) (S:Bl) (h:WD n s w S):QD 47 #[zp n.Wb] w (.tuple #[zp n.Rb,oz]):=by
 obtain ⟨xs,hx,⟨_,_,h⟩ | ⟨_,_,_,X,_,h⟩ | ⟨_,_,W,H,ops,l,Pg,Cd,P,Cp,st,Y,_,_,_,_,_,_,_,h⟩⟩:=h
 ·obtain ⟨c0,r0,t2,_⟩:=Wn.closed_read h;exact gK w n.Wb n.Rb n.T c0 r0 t2
 ·obtain ⟨c0,r0,t2,_⟩:=Wn.idle_read h;exact gK w n.Wb n.Rb n.T c0 r0 t2
 ·obtain ⟨c0,r0,t2,_⟩:=Wn.drawn_read h;exact gK w n.Wb n.Rb n.T c0 r0 t2
theorem mi (n:Wn) (s:St) (w:World) (S:Bl) (hok:s.ok) (h:WD n s w S):QD 77 #[zp n.Wb] w (if s.drawing then .tuple #[zp n.Rb,oz] else .tuple #[.pointer none,(2:Int)]):=by
 obtain ⟨xs,hx,⟨a,_,h⟩ | ⟨_,b,_,X,_,h⟩ | ⟨_,b,W,H,ops,l,Pg,Cd,P,Cp,st,Y,_,_,_,_,_,_,_,h⟩⟩:=h
 ·obtain ⟨c0,r0,t2,r1,r2,_⟩:=Wn.closed_read h;have hd:s.drawing=false:=by simp [St.drawing,hok.shut a]
  rw [hd];exact ke w n.Wb n.Rb n.T c0 r0 t2 r2
 ·obtain ⟨c0,r0,t2,r1,r2,_⟩:=Wn.idle_read h;have hd:s.drawing=false:=by simp [St.drawing,b]
  rw [hd];exact ke w n.Wb n.Rb n.T c0 r0 t2 r2
 ·obtain ⟨c0,r0,t2,r1,r2,r3,_⟩:=Wn.drawn_read h;by_cases hl:s.left=0
  ·have hd:s.drawing=true:=by simp [St.drawing,b,hl]
   rw [hd];exact qp w n.Wb n.Rb n.T Pg c0 r0 t2 r2 (by rw [r3,hl];rfl)
  ·have hd:s.drawing=false:=by simp [St.drawing,hl]
   rw [hd];exact lR w n.Wb n.Rb n.T Pg (s.left:Int) c0 r0 t2 r2 r3 (by omega)
theorem de.titled {B Rb T Fb:Nat} {page:Value} {lack:Int} {title:ByteArray} {n:Nat} {ms:List Value} {w:World} {S:Bl} (h:de B Rb T Fb page lack title n ms w S) (t:ByteArray):∃ S',de B Rb T Fb page lack t n ms (w.setCell (zq Rb 4) t) S'/\Mv S w S' (w.setCell (zq Rb 4) t):=by
 obtain ⟨vm,h⟩:=h;obtain ⟨S1,hc,_,k⟩:=ah.fst (aW.thing _ _ _ _ _ _) h;obtain ⟨a,m⟩:=hc.set 4 (.string t) (by simp);obtain ⟨S',h',m'⟩:=k _ _ _ a m;exact ⟨S',⟨vm,h'⟩,m'⟩
theorem WD.on {n:Wn} {s:St} {w wx:World} {S:Bl} (h:WD n s w S) (hb:Below w w wx):WD n s wx S:=(WD.thing n s).keep h (fun k hk=>hb.block k ((WD.thing n s).lt h hk)) hb.size
theorem WD.titled {n:Wn} {s:St} {w:World} {S:Bl} (h:WD n s w S) (hcl:s.cl=false) (t:ByteArray):∃ S',WD n {s with title:=t} (w.setCell (zq n.Rb 4) t) S'/\Mv S w S' (w.setCell (zq n.Rb 4) t):=by
 obtain ⟨xs,hx,⟨a,_,h⟩ | ⟨a,b,c,X,d,h⟩ | ⟨a,b,W,H,ops,l,Pg,Cd,P,Cp,st,Y,c1,c2,c3,c4,c5,c6,c7,h⟩⟩:=h
 ·exact absurd (hcl.symm.trans a) (by simp)
 ·obtain ⟨S1,hr,_,k⟩:=ah.mid (aS.thing _ _ _) (aX.thing (jp.thing _ _ _) _ _ _ _ _ _ _) h;obtain ⟨S2,h2,m2⟩:=hr.titled t;obtain ⟨S',h',m'⟩:=k _ _ _ h2 m2;exact ⟨S',⟨xs,hx,.inr (.inl ⟨a,b,c,X,d,h'⟩)⟩,m'⟩
 ·obtain ⟨S1,hr,_,k⟩:=ah.mid (aS.thing _ _ _) (cG.thing (jp.thing _ _ _) _ _ _ _ _ _ _ _ _ _ _ _) h;obtain ⟨S2,h2,m2⟩:=hr.titled t;obtain ⟨S',h',m'⟩:=k _ _ _ h2 m2;exact ⟨S',⟨xs,hx,.inr (.inr ⟨a,b,W,H,ops,l,Pg,Cd,P,Cp,st,Y,c1,c2,c3,c4,c5,c6,c7,h'⟩)⟩,m'⟩
theorem WD.file {n:Wn} {s:St} {w:World} {S:Bl} (h:WD n s w S) (hcl:s.cl=false):w.cell? (zq n.Rb 1)=zp n.Fb/\w.cell? (zq n.Rb 4)=s.title/\(∀ o,w.frozen? (zq n.Rb o)=false)/\n.Rb < w.heap.size:=by
 obtain ⟨xs,hx,⟨a,_,h⟩ | ⟨a,b,c,X,d,h⟩ | ⟨a,b,W,H,ops,l,Pg,Cd,P,Cp,st,Y,c1,c2,c3,c4,c5,c6,c7,h⟩⟩:=h
 ·exact absurd (hcl.symm.trans a) (by simp)
 ·obtain ⟨_,_,_,r1,_,_,r4,fz,hl,_⟩:=Wn.idle_read h;exact ⟨r1,r4,fz,hl⟩
 ·obtain ⟨_,_,_,r1,_,_,r4,fz,hl⟩:=Wn.drawn_read h;exact ⟨r1,r4,fz,hl⟩
theorem WD.gone {n:Wn} {s:St} {w:World} {S:Bl} (h:WD n s w S) (hcl:s.cl=true):w.cell? (zq n.Rb 1)=some (.pointer none)/\w.cell? (zq n.Rb 2)=some (.pointer none):=by
 obtain ⟨xs,hx,⟨a,_,h⟩ | ⟨a,_⟩ | ⟨a,_⟩⟩:=h
 ·obtain ⟨_,_,_,r1,r2,_⟩:=Wn.closed_read h;exact ⟨r1,r2⟩
 ·exact absurd (hcl.symm.trans a) (by simp)
 ·exact absurd (hcl.symm.trans a) (by simp)
theorem uc (n:Wn) (s:St) (w:World) (S:Bl) (t:ByteArray) (ht:t.size<=9223372036854775807) (h:WD n s w S):CP 36 #[zp n.Wb,t] w (dp n w S (s.titled t)):=by
 have HR:=dV n s w S h;unfold St.titled;by_cases hcl:s.cl=true
 ·rw [ZM hcl];refine (pq w t (h.gone hcl).1 HR).mono ?_;rintro e w' ⟨rfl,q,rfl⟩;exact dp.same h (ay w q)
 ·rw [ZO hcl];have hc:s.cl=false:=by cases e:s.cl with | false=>rfl | true=>exact absurd e hcl
  obtain ⟨r1,r4,fz,hl⟩:=h.file hc;by_cases h1:100 < t.size
  ·rw [ZM h1];refine (wP w t n.Fb ht (by simp;omega) r1 HR).mono ?_;rintro e w' ⟨rfl,q,rfl⟩;exact dp.same h (ay w q)
  ·rw [ZO h1];refine (xH w t n.Fb s.title (by simp;omega) r1 r4 (fz 4) hl HR).mono ?_;rintro e w' ⟨rfl,w1,hb,rfl⟩;obtain ⟨S',h',m'⟩:=(h.on hb).titled hc t;exact ⟨rfl,S',h',(Mv.grow hb S).trans m'⟩
def D0:World->Bl->List UInt8->Prop:=fun _ _ _=>False
theorem D0.thing (B:Nat) (X:List UInt8):aJ B (fun w S=>D0 w S X) where
 keep:=fun h _ _=>h.elim
 lt:=fun h _=>h.elim
 ge:=fun h _=>h.elim
theorem Wn.down (n:Wn) (hl:n.lim < 0):fT n.B n.K D0 (fun _=>True) 2000000000 89 n.sk n.sk 351 0 (0:Int):=xU n.B n.T n.lim hl D0 (D0.thing n.B) 0 (0:Int)
theorem eK (k:Nat) (h:k<=1000000):(aL k).length<=30:=by
 have:=ar (k:Int) (by omega) (by omega);simp only [aL,ZY,ZX,ZS];omega
theorem dU (k:Nat) (h:k<=1000000):(aD (k:Int)).length<=30:=by
 have:=ar (k:Int) (by omega) (by omega);rw [aD,ZY];simp only [ZX,ZS];omega
theorem gn (k:Nat) (h:k<=1000000):(cX k).length<=90:=by
 have:=dU k h;simp only [cX,ZY,ZX,ZS];omega
theorem xa (i:Nat) (Z:List UInt8) (hi:i<=1000) (hZ:Z.length<=1200000):(d_ i Z).length<=1201000:=by
 have h1:=eK (2*i+1) (by omega);have h2:=eK (2*i+2) (by omega);have h3:=gn (2*i+2) (by omega);have h4:=ar (Z.length:Int) (by omega) (by omega);simp only [d_,aK,fC,eh,ZY,ZX,ZS];omega
theorem mH:∀ (i:Nat) (l:List (List UInt8)),i+l.length<=1000->(∀ Z∈l,Z.length<=1200000)->(bW i l).length<=l.length*1201000
 | _,[],_,_=>by simp [bW]
 | i,Z::l,hi,h=>by
  simp only [ZX] at hi;have h1:=xa i Z (by omega) (h Z (by simp));have h2:=mH (i+1) l (by omega) (fun Y hY=>h Y (by simp [hY]));simp only [bW,ZY,ZX];omega
theorem cN {xs:List iB} (hx:∀ x∈xs,kx x) (hl:xs.length<=80):(aC (aA xs)).length<=100000000:=by
 have h:=mH 0 (aA xs) (by simp [aA];omega) (fun Z hZ=>by
  simp only [aA,YC,Yn] at hZ;obtain ⟨x,hxm,rfl⟩:=hZ;obtain ⟨_,h2,_,h4,_⟩:=hx x hxm;omega)
 have hz:(aA xs).length=xs.length:=by simp [aA]
 rw [hz] at h;simp only [aC,bi,ZY,ZX,ZS];omega
theorem WD.opened {n:Wn} {s:St} {w:World} {S:Bl} (h:WD n s w S) (hcl:s.cl=false) (hop:s.op=true):∃ Pg,w.cell? (zq n.Rb 2)=zp Pg:=by
 obtain ⟨xs,hx,⟨a,_,h⟩ | ⟨a,b,c,X,d,h⟩ | ⟨a,b,W,H,ops,l,Pg,Cd,P,Cp,st,Y,c1,c2,c3,c4,c5,c6,c7,h⟩⟩:=h
 ·exact absurd (hcl.symm.trans a) (by simp)
 ·exact absurd (hop.symm.trans b) (by simp)
 ·obtain ⟨_,_,_,_,r2,_⟩:=Wn.drawn_read h;exact ⟨Pg,r2⟩
theorem WD.rests {n:Wn} {s:St} {w:World} {S:Bl} (h:WD n s w S) (hcl:s.cl=false) (hop:s.op=false):∃ xs X,(∀ x∈xs,kx x)/\xs.map (·.2)=s.pages/\((X=[]/\xs=[])\/X=aC (aA xs))/\n.idle s xs X w S:=by
 obtain ⟨xs,hx,⟨a,_,h⟩ | ⟨a,b,c,X,d,h⟩ | ⟨a,b,W,H,ops,l,Pg,Cd,P,Cp,st,Y,c1,c2,c3,c4,c5,c6,c7,h⟩⟩:=h
 ·exact absurd (hcl.symm.trans a) (by simp)
 ·exact ⟨xs,X,hx,c,d,h⟩
 ·exact absurd (hop.symm.trans b) (by simp)
theorem fX {xs:List iB} {X:List UInt8} (h:(X=[]/\xs=[])\/X=aC (aA xs)):X++eW X=aC (aA xs):=by
 rcases h with ⟨rfl,rfl⟩ | rfl
 ·simp [eW,aC,aA,bW]
 ·have:aC (aA xs)≠[]:=by simp [aC,bi]
  simp [eW,this]
theorem vW (n:Wn) (s:St) (w:World) (S:Bl) (W H:Int) (hlim:n.lim < 0) (hok:s.ok) (hB:n.B<=w.heap.size) (ht:bU n.B w) (h:WD n s w S):CP 34 #[zp n.Wb,W,H] w (dp n w S (s.page W H)):=by
 have HR:=dV n s w S h;unfold St.page;by_cases h1:s.op=true\/s.cl=true
 ·rw [ZM h1];by_cases hcl:s.cl=true
  ·obtain ⟨r1,r2⟩:=h.gone hcl;refine (sa w _ n.Rb W H r1 r2 HR).mono ?_;rintro e w' ⟨rfl,q,rfl⟩;exact dp.same h (ay w q)
  ·have hc:s.cl=false:=by cases e:s.cl with | false=>rfl | true=>exact absurd e hcl
   have hop:s.op=true:=h1.elim id (fun e=>absurd e hcl);obtain ⟨Pg,r2⟩:=h.opened hc hop;refine (Bv w _ n.Rb W H Pg r2 HR).mono ?_;rintro e w' ⟨rfl,q,rfl⟩;exact dp.same h (ay w q)
 rw [ZO h1];have hop:s.op=false:=by cases e:s.op with | false=>rfl | true=>exact absurd (.inl e) h1
 have hc:s.cl=false:=by cases e:s.cl with | false=>rfl | true=>exact absurd (.inr e) h1
 obtain ⟨xs,X,hx,hxs,hX,hi⟩:=h.rests hc hop;obtain ⟨c0,r0,t2,r1,r2,r3,r4,fz,hRl,_⟩:=Wn.idle_read hi;by_cases hW:bG W 1 14400000
 case neg=>
  rw [ZM (.inl hW)];refine (wQ w _ n.Rb W H n.Fb r1 r2 (Zj hW) HR).mono ?_;rintro e w' ⟨rfl,q,rfl⟩;exact dp.same h (ay w q)
 by_cases hH:bG H 1 14400000
 case neg=>
  rw [ZM (.inr hH)];refine (wl w _ n.Rb W H n.Fb r1 r2 (Zq hW) (Zj hH) HR).mono ?_;rintro e w' ⟨rfl,q,rfl⟩;exact dp.same h (ay w q)
 rw [ZO (fun e=>e.elim (fun f=>f hW) (fun f=>f hH))];have hxl:xs.length=s.pages.length:=by rw [<-hxs];simp
 have hsl:(aQ xs).length=xs.length:=by simp [aQ]
 have hzl:(aA xs).length=xs.length:=by simp [aA]
 have hp80:=hok.pages;obtain ⟨Sf,hf,_,backf⟩:=ah.third (aS.thing _ _ _) (de.thing _ _ _ _ _ _ _ _ _) hi;obtain ⟨a1,k1,a2,k2,f0,f1,f2,_⟩:=aX.facts hf;by_cases h80:s.pages.length=80
 ·rw [ZM h80];refine (sY w _ n.Rb W H n.Fb r1 r2 _ k2 a2 f2 (by omega) (by omega) (Zq hW) (Zq hH) HR).mono ?_;rintro e w' ⟨rfl,q,rfl⟩;exact dp.same h (ay w q)
 rw [ZO h80];refine z' w _ n.Rb W H n.Fb r1 r2 _ k2 a2 f2 (by omega) (Zq hW) (Zq hH) _ HR ?_;intro qn;have hiq:=(Wn.idle_thing n s xs X).drewN hi qn;obtain ⟨Sf',hf',_,backf'⟩:=ah.third (aS.thing _ _ _) (de.thing _ _ _ _ _ _ _ _ _) hiq;have hup:=cN hx (by omega);have hXl:X.length<=100000000:=by
  have:=fX hX;have h2:(X++eW X).length<=100000000:=by rw [this];exact hup
  simp at h2;omega
 have hBP:=nU (n.down hlim) (ZV _) (w.drewN qn) Sf' n.Fb n.C (be 9 0 (aA xs)) (aQ xs) X W H hf' hB (ht.on (cU (ZQ _ w))) (by rw [dy];omega) (by omega) (by omega);have hcl2:(be 9 0 (aA xs)).length=2*xs.length:=by rw [dy,hzl]
 rw [hcl2] at hBP;have hbeg:=fX hX;have hlen:X.length+(eW X).length=(aC (aA xs)).length:=by rw [<-hbeg,ZY]
 rw [hlen] at hBP;have hl0:=hok.idle hop;refine oB (w.drewN qn) n.Rb n.Fb W H (fun w1 Pg=>∃ Cd P Cp S',cG n.K n.B n.Fb n.C Pg Cd P Cp 89 n.sk (be 9 0 (aA xs)++[(aC (aA xs)).length]) (aQ xs++[(W,H)]) lJ (X++(eW X++(aL (2*xs.length+1)++cX (2*xs.length+2)))) [] [] w1 S'/\Mv Sf' (w.drewN qn) S' w1) (fun _=>False) _ r1 (et:=0) (ev:=.int .i64 0) ?_ ?_ ?_
 ·refine hBP.mono ?_;rintro e w' (⟨_,Pg,Cd,P,Cp,rfl,S',hp,m⟩ | ⟨hno,_⟩)
  ·exact .inl ⟨Pg,rfl,Cd,P,Cp,S',hp,m⟩
  ·exact absurd trivial hno
 ·rintro w1 Pg ⟨Cd,P,Cp,S',hp,m⟩;obtain ⟨S2,h2,m2⟩:=backf' _ _ _ hp m;obtain ⟨S3,hr3,_,back3⟩:=ah.mid (aS.thing _ _ _) (cG.thing (jp.thing _ _ _) _ _ _ _ _ _ _ _ _ _ _ _) h2;obtain ⟨_,_,q2,_,_,qz,_⟩:=hr3.read;refine ⟨q2,qz 2,_,rfl,rfl,?_⟩;obtain ⟨S4,hr4,m4⟩:=hr3.page (zp Pg);obtain ⟨S5,h5,m5⟩:=back3 _ _ _ hr4 m4;have hX0:X++(eW X++(aL (2*xs.length+1)++cX (2*xs.length+2)))=aC (aA xs)++(aL (2*xs.length+1)++cX (2*xs.length+2)):=by rw [<-ZT,hbeg]
  rw [hX0] at h5;refine ⟨S5,⟨xs,hx,.inr (.inr ⟨hc,rfl,W,H,[],s.pages,Pg,Cd,P,Cp,lJ,[],rfl,hxs,hW,hH,⟨fun o ho=>by simp at ho,by simp [hl0,bE]⟩,?_,by show ([]:List UInt8).length - 0 < 261;decide,?_⟩)⟩,(m2.trans m5).undrew⟩
  ·simpa [St.part,hl0,bE] using PI.start
  ·unfold Wn.drawn;simpa [St.part,hl0,bE,Wn.K] using h5
 ·intro w1 hf;exact hf.elim
theorem yg (l:List (List UInt8)) (b:Nat) (h:∀ x∈l,x.length<=b):Lib.lens l<=b*l.length:=by
 induction l with
 | nil=>simp [Lib.lens]
 | cons a r ih=>
  have h1:=h a (by simp);have h2:=ih (fun x hx=>h x (by simp [hx]));simp only [Lib.lens,Yh,List.sum_cons,ZX] at h2 ⊢;rw [Nat.mul_succ];omega
theorem rC (l:List (List UInt8)) (b:Nat) (h:∀ x∈l,x.length<=b):(Lib.join l [32]).length<=(b+1)*l.length:=by
 cases l with
 | nil=>simp [Lib.join_nil]
 | cons a r=>
  rw [Lib.join_length];have:=yg (a::r) b h;rw [Nat.add_mul];simp only [ZX,ZS] at this ⊢;omega
theorem zv (B:Nat) (w:World) (v:Value) (l:List (List UInt8)) (k:Nat) (hk:l.length=k) (hkm:k<=1000) (hl:∀ x∈l,x.length<=1000) (h:w.ownsRow B 9 1 v k (eY l)):
  QB 245 #[v,.string ⟨#[32]⟩] w (.string ⟨(Lib.join l [32]).toArray⟩):=by
 have hjl:=rC l 1000 hl;rcases id h.2 with ⟨hv,h0⟩ | ⟨g,cap,cur,hv,hb,hg,hle,hcm,hcs,_⟩
 ·have hl0:l=[]:=Zr (by omega);subst hl0;rw [hv];refine (Tryz.strings_Join_none none 0 ⟨#[32]⟩ w).mono ?_;rintro e w' ⟨rfl,rfl⟩;exact ⟨by rw [Lib.join_nil],ZQ _ _⟩
 ·have hxs:(l.map fun s=>(⟨s.toArray⟩:ByteArray)).map (fun x=>x.data.toList)=l:=by
   rw [List.map_map]
   conv=>rhs;rw [<-List.map_id l]
   refine XK fun a _=>by simp
  have hln:(l.map fun s=>(⟨s.toArray⟩:ByteArray)).length=k:=by rw [Yx,hk]
  have hJ:=Tryz.strings_Join g 0 cap (l.map fun s=>(⟨s.toArray⟩:ByteArray)) ⟨#[32]⟩ w (fun j x hj=>by
   have:=h.cells (g:=g) (by rw [hv];rfl) j _ (tY l j x hj);have hadd:(⟨g,0,none⟩:Addr).add j=⟨g,0+j,none⟩:=by unfold Addr.add;split <;> simp_all
   rwa [hadd] at this) (h.lt g (by rw [hv];rfl)).2 (by rw [hln];omega) (by rw [hln];exact hle) (by rw [hxs];show (Lib.join l [32]).length<=_;rw [hk] at hjl;omega)
  rw [hxs,hln] at hJ;rw [hv];exact hJ
theorem nH (a m:Nat) (x:List UInt8) (h:x∈cf a m):∃ j,j < m/\x=aD ((a+j:Nat):Int):=by
 induction m with
 | zero=>simp [cf] at h
 | succ m ih=>
  rw [cf,Zu] at h;rcases h with h | h
  ·obtain ⟨j,hj,e⟩:=ih h;exact ⟨j,by omega,e⟩
  ·exact ⟨m,by omega,by simpa using h⟩
theorem oR (f c g:Nat) (hf:f<=10000) (hg:g<=1000):(gv f c g).length<=1000:=by
 have h1:=rC (cf (f+8*g) (min 8 (c - 8*g))) 30 (fun x hx=>by
  obtain ⟨j,hj,rfl⟩:=nH _ _ _ hx;exact dU _ (by omega))
 rw [jH] at h1;have h2:min 8 (c - 8*g)<=8:=Nat.min_le_left _ _;have h3:=XJ 31 h2;unfold gv;omega
theorem ww (key:List UInt8) (n:Int) (hk:key.length<=100) (h0:-1000000000<=n) (h1:n<=1000000000):(bt key n).length<=130:=by
 have:=gJ n (by omega) (by omega);unfold bt;split
 ·simp
 ·simp only [ZY,ZX,ZS];omega
def rowAt (rows:List (Nat×Nat×Nat)) (r:Nat):Nat×Nat×Nat:=rows.getD r (0,0,0)
theorem dR {rows:List (Nat×Nat×Nat)} {r:Nat} (h:r < rows.length):rows[r]? =some (rowAt rows r):=by
 simp [rowAt,ZN h]
def sZ (p:Nat) (rows:List (Nat×Nat×Nat)) (r i:Nat):List UInt8:=jN ((rR (rows.drop (r+1)) i:Nat):Int) (gv (rowAt rows (r - 1)).1 (rowAt rows (r - 1)).2.1 i) (bV p (rowAt rows r).2.2 i)
def iu (p:Nat) (rows:List (Nat×Nat×Nat)) (r i:Nat):List (List UInt8):=((List.range (rowAt rows r).2.1).drop i).map (sZ p rows r)++dJ p (rowAt rows r) (rows.drop (r+1))
theorem ss (p:Nat) (rows:List (Nat×Nat×Nat)) (r i:Nat) (h:i < (rowAt rows r).2.1):iu p rows r i=sZ p rows r i::iu p rows r (i+1):=by
 unfold iu;rw [Zo (by simpa using h)];simp
theorem mR (p:Nat) (rows:List (Nat×Nat×Nat)) (r:Nat):iu p rows r (rowAt rows r).2.1=iu p rows (r+1) 0:=by
 unfold iu;rw [YE (by simp)];by_cases h:r+1 < rows.length
 ·rw [Zo h];have e:rowAt rows (r+1)=rows[r+1]:=by simp [rowAt,h]
  simp only [XZ,Zt,dJ,List.drop_zero,e];congr 1;refine XK fun i _=>?_
  rw [sZ,e,Nat.add_sub_cancel]
 ·have e:rowAt rows (r+1)=(0,0,0):=by simp only [rowAt,ZJ];rw [XC (by omega)];rfl
  rw [YE (l:=rows) (i:=r+1) (by omega),YE (l:=rows) (i:=r+1+1) (by omega),e];simp [dJ]
theorem vx (p:Nat) (b:Nat×Nat×Nat) (ups:List (Nat×Nat×Nat)):iu p (b::ups) 1 0=dJ p b ups:=by
 rw [<-mR];unfold iu;rw [YE (by simp)];rfl
theorem wT (p:Nat) (rows:List (Nat×Nat×Nat)):iu p rows rows.length 0=[]:=by
 have e:rowAt rows rows.length=(0,0,0):=by simp only [rowAt,ZJ];rw [XC (by omega)];rfl
 unfold iu;rw [e,YE (l:=rows) (by omega)];simp [dJ]
theorem jM (f c s:Nat) (h:c<=8):cP f c s=[(f+c,1,s*8)]:=by rw [cP,ZM h]
theorem sS (f c s:Nat) (hc:c<=80) (r:Nat×Nat×Nat) (hr:r∈cP f c s):r.1<=f+200/\r.2.1<=80/\r.2.2<=s*512:=by
 rw [cP] at hr;split at hr
 ·simp at hr;subst hr;simp;omega
 ·rcases Zl.1 hr with rfl | hr
  ·simp;omega
  ·rw [cP] at hr;split at hr
   ·simp at hr;subst hr;simp;omega
   ·rcases Zl.1 hr with rfl | hr
    ·simp;omega
    ·rw [jM _ _ _ (by omega)] at hr;simp at hr;subst hr;simp;omega
theorem sr (f c s:Nat) (hc:c<=80):1<=(cP f c s).length/\(cP f c s).length<=3:=by
 rw [cP];split
 ·simp
 ·rw [cP];split
  ·simp
  ·rw [jM _ _ _ (by omega)];simp
theorem ib (p f c s:Nat):1<=(bS p f c s).length/\(bS p f c s).length<=c+1:=by
 induction c using Nat.strongRecOn generalizing f s with
 | _ c ih=>
  rw [bS];by_cases h:c<=8
  ·rw [ZM h];simp
  ·rw [ZO h];have:=ih ((c+7) / 8) (by omega) (f+c) (s*8);simp only [ZY,Yx,List.length_range];omega
theorem o9 (x:iB) (xs:List iB):aA (x::xs)=aA xs++[x.1]:=by simp [aA]
theorem pf (x:iB) (xs:List iB):aQ (x::xs)=aQ xs++[(x.2.1,x.2.2.1)]:=by simp [aQ]
theorem jS (xs:List iB):(aA xs).length=xs.length:=by simp [aA]
theorem xL (xs:List iB):(aQ xs).length=xs.length:=by simp [aQ]
theorem oZ (l:List (List UInt8)) (Z:List UInt8):aC (l++[Z])=aC l++d_ l.length Z:=by
 simp only [aC,lG,YH,ZT]
theorem nI (l:List (List UInt8)) (Z:List UInt8):be 9 0 (l++[Z])=be 9 0 l++[(aC l).length,(aC l).length+(aL (2*l.length+1)++cX (2*l.length+2)).length+Z.length+18]:=by
 have h9:9+(bW 0 l).length=(aC l).length:=by simp only [aC,bi,ZY,ZX,ZS]
 rw [lF,pT,h9,YH];congr 2;simp only [ZY,fC,ZX,ZS];simp;omega
theorem yf (n:Wn) (s:St) (w:World) (S:Bl) (hlim:n.lim < 0) (hok:s.ok) (hB:n.B<=w.heap.size) (ht:bU n.B w) (h:WD n s w S):CP 33 #[zp n.Wb] w (dp n w S s.endPage):=by
 have HR:=mi n s w S hok h;unfold St.endPage;by_cases hd:s.drawing=true
 case neg=>
  have hd2:s.drawing=false:=by cases e:s.drawing with | false=>rfl | true=>exact absurd e hd
  rw [ZO hd];rw [hd2] at HR;refine (mB w _ 2 (by decide) HR).mono ?_;rintro e w' ⟨rfl,q,rfl⟩;exact dp.same h (ay w q)
 rw [ZM hd];rw [hd] at HR;obtain ⟨hop,hl0⟩:=St.drawing_of hd;obtain ⟨xs,hx,⟨a,_,h⟩ | ⟨a,b,c,X,d,h⟩ | ⟨hc,b,W,H,ops,l,Pg,Cd,P,Cp,st,Y,hpl,hxl,hW,hH,hfit,hPI,h261,h⟩⟩:=h
 ·exact absurd (hop.symm.trans (hok.shut a)) (by simp)
 ·exact absurd (hop.symm.trans b) (by simp)
 have hpart:s.part=[]:=by simp [St.part,hl0]
 have hsz:s.size=(bE ops).length:=by have:=hfit.2;rw [ZM hl0] at this;exact this
 have hxn:xs.length+1<=80:=by
  have:=hok.pages;rw [hpl] at this;have e:xs.length=l.length:=by rw [<-hxl];simp
  simp at this;omega
 have hup:=cN hx (by omega);refine jW w _ n.Rb _ HR ?_;intro qn;have hiq:=(Wn.drawn_thing n s xs W H ops Pg Cd P Cp st Y).drewN h qn;obtain ⟨_,_,_,_,r2,_⟩:=Wn.drawn_read hiq;obtain ⟨Sp,hp,_,backp⟩:=ah.third (aS.thing _ _ _) (de.thing _ _ _ _ _ _ _ _ _) hiq;have ho1:=eK (2*xs.length+1) (by omega);have ho2:=gn (2*xs.length+2) (by omega);have hcl:(be 9 0 (aA xs)++[(aC (aA xs)).length]).length=2*xs.length+1:=by rw [ZY,dy,jS];rfl
 have hPE:=ll (n.down hlim) (ZV _) (w.drewN qn) Sp n.Fb n.C Pg Cd P Cp _ _ st _ Y _ hp hPI hB (ht.on (cU (ZQ _ w))) (by omega) (by simp only [ZY];omega);rw [hcl] at hPE;refine iq (w.drewN qn) n.Rb Pg (fun w1=>∃ S',aX n.K n.B n.Fb n.C 89 n.sk (be 9 0 (aA ((Y++aV st,(W,H,ops))::xs))) (aQ ((Y++aV st,(W,H,ops))::xs)) (aC (aA ((Y++aV st,(W,H,ops))::xs))) w1 S'/\kx (Y++aV st,(W,H,ops))/\Mv Sp (w.drewN qn) S' w1) (fun _=>False) _ r2 (et:=0) (ev:=.int .i64 0) ?_ ?_ ?_
 ·refine hPE.mono ?_;rintro e w' (⟨_,rfl,S',⟨hf,hu,h8,_⟩,m⟩ | ⟨hno,_⟩)
  ·refine .inl ⟨rfl,S',?_,⟨?_,by show (bE ops).length<=1048576;rw [<-hsz];exact hok.size,hfit.1,?_,hW,hH⟩,m⟩
   ·rw [o9,pf,nI,oZ,jS];have e1:be 9 0 (aA xs)++[(aC (aA xs)).length,(aC (aA xs)).length+(aL (2*xs.length+1)++cX (2*xs.length+2)).length+(Y++aV st).length+18]=be 9 0 (aA xs)++[(aC (aA xs)).length]++[(aC (aA xs)++(aL (2*xs.length+1)++cX (2*xs.length+2))).length+(Y++aV st).length+18]:=by
     have hlen:(aC (aA xs)++(aL (2*xs.length+1)++cX (2*xs.length+2))).length=(aC (aA xs)).length+(aL (2*xs.length+1)++cX (2*xs.length+2)).length:=ZY;rw [hlen,ZT];rfl
    have e2:aC (aA xs)++d_ xs.length (Y++aV st)=aC (aA xs)++(aL (2*xs.length+1)++cX (2*xs.length+2))++(Y++vZ (2*xs.length+1+1) st Y):=by
     simp only [d_,vZ,ZT]
    rw [e1,e2];exact hf
   ·simpa [hpart] using hu
   ·simpa [hpart] using h8
  ·exact absurd trivial hno
 ·rintro w1 ⟨S',hf,hgx,m⟩;obtain ⟨S2,h2,m2⟩:=backp _ _ _ hf m;obtain ⟨S3,hr3,_,back3⟩:=ah.mid (aS.thing _ _ _) (aX.thing (jp.thing _ _ _) _ _ _ _ _ _ _) h2;obtain ⟨_,_,q2,_,_,qz,_⟩:=hr3.read;refine ⟨q2,qz 2,_,rfl,rfl,?_⟩;obtain ⟨S4,hr4,m4⟩:=hr3.page (.pointer none);obtain ⟨S5,h5,m5⟩:=back3 _ _ _ hr4 m4;rw [hl0] at h5;refine ⟨S5,⟨(Y++aV st,(W,H,ops))::xs,?_,.inr (.inl ⟨hc,rfl,by simp [hpl,hxl],_,.inr rfl,h5⟩)⟩,(m2.trans m5).undrew⟩;intro x hxm;rcases Zl.1 hxm with rfl | hxm
  ·exact hgx
  ·exact hx x hxm
 ·intro w1 hf;exact hf.elim
end Go.Proofs.YtbklfkpjoinofaaGreatDoor
