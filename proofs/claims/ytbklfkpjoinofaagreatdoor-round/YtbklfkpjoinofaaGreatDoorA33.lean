import Derived.Test.YtbklfkpjoinofaaGreatDoorA29
import Derived.Test.YtbklfkpjoinofaaGreatDoorA32
set_option linter.all false
set_option maxRecDepth 100000
set_option maxHeartbeats 8000000
namespace Go.Proofs.YtbklfkpjoinofaaGreatDoor
open Go.RowKit Go.Proofs.Tryz
theorem zT (w:World) (B y Wb:Nat) (K A X C D E Co Ro:Int) (t:ByteArray) (vs:List Value) (S:Bl) (hC:aS B y vs w S) (HK:Hid (∀ wx,QE 15 #[K,(8:Int)] wx (0:Int))) (Z:Ending->World->Prop) (n cap:Nat) (ad:Option Addr) (ps:List Value) (W H:Int) (h0:vs[0]? =some (.pointer (some ⟨Wb,0,none⟩))) (hf:vs[2]? =some (.slice ad n cap)) (h4:vs[4]? =some (.bool false)) (hn:n < 80) (hB:B<=w.heap.size) (ow:w.ownsRow B 100 3 (.slice ad n cap) n ps) (ne:(Value.slice ad n cap).ownBlock≠some y) (HP1:Hid (∀ wx,QE 35 #[A,(1:Int)] wx W)) (HP2:Hid (∀ wx,QE 35 #[X,(1:Int)] wx H)) (HW:Hid (∀ wa,af w wa->∀ w0 v w7 w9,af wa w0->w0.grownBy w7 (Value.slice ad n cap).ownBlock->gq w0 (Value.slice ad n cap).ownBlock B 100 3 (n+1) (ps++[.int .i64 W,.int .i64 H,.slice none 0 0]) v w7->af ((w7.setCell (zq y 2) v).setCell (zq y 4) true) w9->CP 34 #[zp Wb,W,H] w9 fun e w'=>e=.returned (0:Int)/\Z (.returned true) w')):
  CP 51 #[zp y,.agg #[K,A,X,C,D,E,Co,Ro,t]] w Z:=by
 go_enter func51,ntmps51
 go_wp2_with fail
 refine (HK.out _).mono ?_;rintro e w1 ⟨rfl,rfl⟩;clear HK;have hrow:(w.alloc (.cells #[K,A,X,C,D,E,Co,Ro,t] 76)).heap[w.heap.size]? =some (.cells #[K,A,X,C,D,E,Co,Ro,t] 76 (0,0)):=ZB w _;have hgw:af w (w.alloc (.cells #[K,A,X,C,D,E,Co,Ro,t] 76)):=(ZQ _ w).alloc (ZV _) _;have hCa:=(aS.thing B y vs).grow hC hgw;have hyb:y < w.heap.size:=hC.2.2.1;have HRW:=ai hrow;have HGW:=ai hgw;generalize hwa:w.alloc (.cells #[K,A,X,C,D,E,Co,Ro,t] 76)=wa at HRW HGW hCa ⊢;clear hrow hgw hwa;generalize hb0:w.heap.size=b0 at HRW hyb ⊢;clear hb0;have hb0l:b0 < wa.heap.size:=(ZF.1 HRW.out).1;have c4:=hCa.at 4 _ h4;have c2:=hCa.at 2 _ hf;have d80:decide ((n:Int) < 80)=true:=by simp;omega
 have hCb:=hCa;have owb:=aW.grown ow HGW.out;have hBb:B<=wa.heap.size:=ZU hB HGW.out.size;obtain ⟨S3,hS3⟩:∃ S3,S=S3:=⟨_,rfl⟩;rw [hS3] at hCb;replace HW:=ai (HW.out wa HGW.out);clear hCa hC hS3 ow;go_wp2_with fail
 refine ap 8 _ (C4 wa.heap.size 7 100 #[oz,oz,.slice none 0 0] [.pointer (some ⟨b0,1,none⟩),.int .i64 A,.int .i64 W,.pointer (some ⟨b0,2,none⟩),.int .i64 X,.int .i64 H,.agg #[W,H,.slice none 0 0],undef]) (by kernel_rfl) rfl (by kernel_rfl) lL ?_;simp only [TD];refine ⟨fun w1 hG hd=>?_,fun v0=>?_⟩
 ·clear hd;go_wp2;exact RG
 simp only [TN];refine ⟨fun w1 hG hd=>?_,fun v1=>?_⟩
 ·have d0:v0=.pointer (some ⟨b0,1,none⟩):=hd ⟨0,.data⟩ (by simp) rfl;clear hd;subst d0;have c:w1.cell? (zq b0 1)=A:=by rw [Zw _ b0 1 _ _ _ ((hG.block b0 hb0l).trans HRW.out)];rfl
  go_wp2;exact RG
 simp only [TN];refine ⟨fun w1 hG hd=>?_,fun v2=>?_⟩
 ·have d1:v1=.int .i64 A:=hd ⟨1,.data⟩ (by simp) rfl;clear hd;subst d1;have HX:=ai (HP1.out w1);go_wp2_with fail
  refine HX.out.mono ?_;rintro e w2 ⟨rfl,rfl⟩;go_wp2;exact RG
 simp only [TN];refine ⟨fun w1 hG hd=>?_,fun v3=>?_⟩
 ·clear hd;go_wp2;exact RG
 simp only [TN];refine ⟨fun w1 hG hd=>?_,fun v4=>?_⟩
 ·have d3:v3=.pointer (some ⟨b0,2,none⟩):=hd ⟨3,.data⟩ (by simp) rfl;clear hd;subst d3;have c:w1.cell? (zq b0 2)=X:=by rw [Zw _ b0 2 _ _ _ ((hG.block b0 hb0l).trans HRW.out)];rfl
  go_wp2;exact RG
 simp only [TN];refine ⟨fun w1 hG hd=>?_,fun v5=>?_⟩
 ·have d4:v4=.int .i64 X:=hd ⟨4,.data⟩ (by simp) rfl;clear hd;subst d4;have HX:=ai (HP2.out w1);go_wp2_with fail
  refine HX.out.mono ?_;rintro e w2 ⟨rfl,rfl⟩;go_wp2;exact RG
 simp only [TN];refine ⟨fun w1 hG hd=>?_,fun v6=>?_⟩
 ·have d2:v2=.int .i64 W:=hd ⟨2,.data⟩ (by simp) rfl;have d5:v5=.int .i64 H:=hd ⟨5,.data⟩ (by simp) rfl;clear hd;subst d2 d5;go_wp2;exact RG
 simp only [TN];refine ⟨fun w1 hG hd=>?_,fun v7=>?_⟩
 ·clear hd;go_wp2;exact ⟨⟨_,rfl,hG.size,ZB _ _⟩,(ZQ _ _).alloc (ZV _) _⟩
 simp only [TN];intro w2 hG hd;have dag:v6=.agg #[W,H,.slice none 0 0]:=hd 6 (by omega);obtain ⟨g,dnb,hzg,hbg⟩:∃ g,v7=.pointer (some ⟨g,0,none⟩)/\wa.heap.size<=g/\w2.heap[g]? =some (.cells #[oz,oz,.slice none 0 0] 100 (0,0)):=hd 7 (by omega);subst dag dnb;clear hd;have hrow:=YK w2 g _ #[W,H,.slice none 0 0] _ _ hbg;have hb3:af wa (w2.setRow g #[W,H,.slice none 0 0]):=⟨hG.os,hG.tape,hG.output,ZU hG.size (Nat.le_of_eq (by simp [World.setRow])),fun k hk=>(setRow_other _ _ _ _ (by omega)).trans (hG.block k hk)⟩;refine Zi rfl 100 (.tmp 6) (.tmp 71) rfl g #[W,H,.slice none 0 0] rfl rfl _ _ hbg (by kernel_rfl) rfl (by kernel_rfl) ?_;generalize w2.setRow g #[W,H,.slice none 0 0]=w3 at hrow hb3 ⊢;clear hG hbg;have HR3:=ai hrow;have HB3:=ai hb3;have hC3:=(aS.thing B y vs).grow hCb hb3;have ow3:=aW.grown owb hb3;have hB3:B<=w3.heap.size:=ZU hBb hb3.size;have cf3:=hC3.at 2 _ hf;have hy3:y < w3.heap.size:=hC3.2.2.1;have hgy:g≠y:=fun e=>by have:=hCb.2.2.1;omega
 have hgo:some g≠(Value.slice ad n cap).ownBlock:=C6 owb hzg;have hg3:g < w3.heap.size:=(ZF.1 hrow).1;clear hrow hb3;go_wp2_with fail
 refine cW 9 _ 8 (fun w w'=>w.grownBy w' (Value.slice ad n cap).ownBlock) (pK w3 [.pointer (some ⟨y,0,none⟩),.pointer (some ⟨y,0,none⟩),.pointer (some ⟨y,0,none⟩),.pointer (some ⟨y,1,none⟩),.pointer (some ⟨y,2,none⟩),.slice ad n cap,.agg #[W,H,.slice none 0 0],undef,undef] 7 8 [.int .i64 W,.int .i64 H,.slice none 0 0] (Value.slice ad n cap).ownBlock B 100 3 (n+1) (ps++[.int .i64 W,.int .i64 H,.slice none 0 0])) (by kernel_rfl) rfl (by kernel_rfl) (lT _) (fun _ _ _=>lV) (fun _ _ _=>fE) pZ jy ?_;simp only [TD];refine ⟨aB (by decide) fun w1 hG hd=>?_,fun v0=>?_⟩
 ·clear hd;go_wp2;exact RG
 simp only [TN];refine ⟨aB (by decide) fun w1 hG hd=>?_,fun v1=>?_⟩
 ·clear hd;go_wp2;exact RG
 simp only [TN];refine ⟨aB (by decide) fun w1 hG hd=>?_,fun v2=>?_⟩
 ·have d1:v1=.pointer (some ⟨y,0,none⟩):=hd ⟨1,.data⟩ (by simp) rfl;clear hd;subst d1;go_wp2;exact RG
 simp only [TN];refine ⟨aB (by decide) fun w1 hG hd=>?_,fun v3=>?_⟩
 ·have d2:v2=.pointer (some ⟨y,0,none⟩):=hd ⟨2,.data⟩ (by simp) rfl;clear hd;subst d2;go_wp2;exact RG
 simp only [TN];refine ⟨aB (by decide) fun w1 hG hd=>?_,fun v4=>?_⟩
 ·have d3:v3=.pointer (some ⟨y,1,none⟩):=hd ⟨3,.data⟩ (by simp) rfl;clear hd;subst d3;go_wp2;exact RG
 simp only [TN];refine ⟨aB (by decide) fun w1 hG hd=>?_,fun v5=>?_⟩
 ·have d4:v4=.pointer (some ⟨y,2,none⟩):=hd ⟨4,.data⟩ (by simp) rfl;clear hd;subst d4;have c:=(ZR (a:=zq y 2) (hG.block y hy3 (fun e=>ne e.symm))).trans cf3;go_wp2;exact RG
 simp only [TN];refine ⟨aB (by decide) fun w1 hG hd=>?_,fun v6=>?_⟩
 ·clear hd;refine YG rfl 100 (.tmp 6) rfl g rfl 100 _ (0,0) _ ((hG.block g hg3 hgo).trans HR3.out) underlying100 rfl (by kernel_rfl) ?_;refine YB ?_;exact ⟨rfl,rfl,rfl,af.refl _⟩
 simp only [TN];refine ⟨aB (by decide) fun w1 hG hd=>?_,fun v7=>?_⟩
 ·have d6:v6=.agg #[W,H,.slice none 0 0]:=hd ⟨6,.data⟩ (by simp) rfl;clear hd;subst d6;go_wp2;exact ⟨jI _ _ (fun k hk=>ZK (ow3.lt k hk).2 (World.grownBy.size hG)),(ZQ _ _).alloc (ZV _) _⟩
 simp only [TN];refine ⟨dO rfl fun w1 hG hd=>?_,fun v8=>?_⟩
 ·have d5:v5=.slice ad n cap:=hd ⟨5,.data⟩ (by simp) rfl;have d7:pO _ _ v7 w1:=hd ⟨7,.data⟩ (by simp) rfl;clear hd;subst d5;exact nJ rfl (.tmp 77) (.tmp 79) 26 rfl 100 (.agg #[oz,oz,.slice none 0 0]) 3 40 Tryz.infoPg2 rfl (by omega) underlying26 B (Value.slice ad n cap) n (ps) rfl ow3 hB3 hG v7 rfl [.int .i64 W,.int .i64 H,.slice none 0 0] d7 rfl (by intro u hu;simp at hu;rcases hu with rfl | rfl | rfl <;> rfl) (by omega) (by omega) ⟨_,rfl,by simp [Act.put]⟩
 simp only [TN];intro w7 hG hd;have d0:v0=.pointer (some ⟨y,0,none⟩):=hd 0 (by omega);have d8:gq _ _ _ _ _ _ _ v8 w7:=hd 8 (by omega);subst d0;obtain ⟨ad7,cap7,hv7⟩:=d8.form;subst hv7;have hby:=hG.block y hy3 (fun e=>ne e.symm);have hC7:aS B y vs w7 S3:=(aS.thing B y vs).keep hC3 (fun k hk=>by have e1:=hC3.1;rw [e1] at hk;have e2:k=y:=hk;rw [e2];exact hby) (World.grownBy.size hG);have HG7:=ai hG;have HA7:=ai d8;have cf7:=hC7.at 2 _ hf;have ff7:=hC7.fz 2;have hC8:=(hC7.set 2 (.slice ad7 (n+1) cap7) (Zx.1 hf).1).1;have hr8:=(Yr w7 ⟨y,2,none⟩ g (.slice ad7 (n+1) cap7) hgy).trans ((hG.block g hg3 hgo).trans HR3.out);clear hd hG d8 hby cf3;have c48:=hC8.at 4 _ (by rw [List.getElem?_set_ne (by decide)];exact h4);have f48:=hC8.fz 4;have hC9:=(hC8.set 4 (.bool true) (by rw [List.length_set];exact (Zx.1 h4).1)).1;have hr9:=(Yr _ ⟨y,4,none⟩ g true hgy).trans hr8;have k0:=hC9.at 0 _ (by rw [List.getElem?_set_ne (by decide),List.getElem?_set_ne (by decide)];exact h0);have kt:((w7.setCell (zq y 2) (.slice ad7 (n+1) cap7)).setCell (zq y 4) true).cell? g=W:=by rw [Zw _ g 0 _ _ _ hr9];rfl
 have ku:((w7.setCell (zq y 2) (.slice ad7 (n+1) cap7)).setCell (zq y 4) true).cell? (zq g 1)=H:=by rw [Zw _ g 1 _ _ _ hr9];rfl
 have HW2:=ai (fun w9 h=>HW.out w3 _ w7 w9 HB3.out HG7.out HA7.out h);clear hr8 hr9 hC8 hC9 hC7 HW HG7 HA7 hC3 ow3;go_wp2_with fail
 refine ap 8 _ (ag [zp y,zp y,zp y,zp Wb,zp g,W,zq g 1,H]) (by kernel_rfl) rfl (by kernel_rfl) aq ?_;simp only [TD];refine ⟨fun w1 hG hd=>?_,fun v0=>?_⟩
 ·clear hd;go_wp2;exact RG
 simp only [TN];refine ⟨fun w1 hG hd=>?_,fun v1=>?_⟩
 ·have d0:v0=.pointer (some ⟨y,0,none⟩):=hd ⟨0,.data⟩ (by simp) rfl;clear hd;subst d0;go_wp2;exact RG
 simp only [TN];refine ⟨fun w1 hG hd=>?_,fun v2=>?_⟩
 ·have d1:v1=.pointer (some ⟨y,0,none⟩):=hd ⟨1,.data⟩ (by simp) rfl;clear hd;subst d1;go_wp2;exact RG
 simp only [TN];refine ⟨fun w1 hG hd=>?_,fun v3=>?_⟩
 ·have d2:v2=.pointer (some ⟨y,0,none⟩):=hd ⟨2,.data⟩ (by simp) rfl;clear hd;subst d2;have c:=au hG k0;go_wp2;exact RG
 simp only [TN];refine ⟨fun w1 hG hd=>?_,fun v4=>?_⟩
 ·clear hd;go_wp2;exact RG
 simp only [TN];refine ⟨fun w1 hG hd=>?_,fun v5=>?_⟩
 ·have d4:v4=.pointer (some ⟨g,0,none⟩):=hd ⟨4,.data⟩ (by simp) rfl;clear hd;subst d4;have c:=au hG kt;go_wp2;exact RG
 simp only [TN];refine ⟨fun w1 hG hd=>?_,fun v6=>?_⟩
 ·clear hd;go_wp2;exact RG
 simp only [TN];refine ⟨fun w1 hG hd=>?_,fun v7=>?_⟩
 ·have d6:v6=.pointer (some ⟨g,1,none⟩):=hd ⟨6,.data⟩ (by simp) rfl;clear hd;subst d6;have c:=au hG ku;go_wp2;exact RG
 simp only [TN];intro w9 hG hd;have d3:v3=.pointer (some ⟨Wb,0,none⟩):=hd 3 (by omega);have d5:v5=.int .i64 W:=hd 5 (by omega);have d7:v7=.int .i64 H:=hd 7 (by omega);subst d3 d5 d7;clear hd;go_wp2_with fail
 refine (HW2.out w9 hG).mono ?_;rintro e w10 ⟨rfl,hz⟩;have HZZ:=ai hz;clear hz;go_wp2
 first | exact HZZ.out | (go_ret;exact HZZ.out)
theorem zV (w:World) (B y Wb:Nat) (K A X C D E Co Ro:Int) (t:ByteArray) (vs:List Value) (S:Bl) (hC:aS B y vs w S) (HK:Hid (∀ wx,QE 15 #[K,(8:Int)] wx (0:Int))) (Z:Ending->World->Prop) (n cap:Nat) (ad:Option Addr) (ps:List Value) (W H:Int) (h0:vs[0]? =some (.pointer (some ⟨Wb,0,none⟩))) (hf:vs[2]? =some (.slice ad n cap)) (h4:vs[4]? =some (.bool true)) (hn:n < 80) (hB:B<=w.heap.size) (ow:w.ownsRow B 100 3 (.slice ad n cap) n ps) (ne:(Value.slice ad n cap).ownBlock≠some y) (HP1:Hid (∀ wx,QE 35 #[A,(1:Int)] wx W)) (HP2:Hid (∀ wx,QE 35 #[X,(1:Int)] wx H)) (HE:Hid (∀ wa,af w wa->CP 33 #[zp Wb] wa fun e wb=>e=.returned (0:Int)/\∃ S3,aS B y vs wb S3/\wb.ownsRow B 100 3 (.slice ad n cap) n ps/\B<=wb.heap.size/\(∀ k,w.heap.size<=k->k < wa.heap.size->wb.heap[k]? =wa.heap[k]?)/\∀ w0 v w7 w9,af wb w0->w0.grownBy w7 (Value.slice ad n cap).ownBlock->gq w0 (Value.slice ad n cap).ownBlock B 100 3 (n+1) (ps++[.int .i64 W,.int .i64 H,.slice none 0 0]) v w7->af ((w7.setCell (zq y 2) v).setCell (zq y 4) true) w9->CP 34 #[zp Wb,W,H] w9 fun e w'=>e=.returned (0:Int)/\Z (.returned true) w')):
  CP 51 #[zp y,.agg #[K,A,X,C,D,E,Co,Ro,t]] w Z:=by
 go_enter func51,ntmps51
 go_wp2_with fail
 refine (HK.out _).mono ?_;rintro e w1 ⟨rfl,rfl⟩;clear HK;have hrow:(w.alloc (.cells #[K,A,X,C,D,E,Co,Ro,t] 76)).heap[w.heap.size]? =some (.cells #[K,A,X,C,D,E,Co,Ro,t] 76 (0,0)):=ZB w _;have hgw:af w (w.alloc (.cells #[K,A,X,C,D,E,Co,Ro,t] 76)):=(ZQ _ w).alloc (ZV _) _;have hCa:=(aS.thing B y vs).grow hC hgw;have hyb:y < w.heap.size:=hC.2.2.1;have HRW:=ai hrow;have HGW:=ai hgw;generalize hwa:w.alloc (.cells #[K,A,X,C,D,E,Co,Ro,t] 76)=wa at HRW HGW hCa ⊢;clear hrow hgw hwa;generalize hb0:w.heap.size=b0 at HRW hyb ⊢;have hb0':w.heap.size<=b0:=Nat.le_of_eq hb0;clear hb0;have hb0l:b0 < wa.heap.size:=(ZF.1 HRW.out).1;have c4:=hCa.at 4 _ h4;have c2:=hCa.at 2 _ hf;have d80:decide ((n:Int) < 80)=true:=by simp;omega
 have c0:=hCa.at 0 _ h0;replace HE:=ai (HE.out wa HGW.out);clear hCa hC ow;go_wp2_with fail
 refine HE.out.mono ?_;rintro e wb ⟨rfl,S3,hCb,owb,hBb,hkb,hcont⟩;replace HRW:=ai ((hkb b0 hb0' hb0l).trans HRW.out);replace hb0l:b0 < wb.heap.size:=(ZF.1 HRW.out).1;have HW:=ai hcont;clear hkb hcont HE c0 c4 c2;go_wp2_with fail
 refine ap 8 _ (C4 wb.heap.size 7 100 #[oz,oz,.slice none 0 0] [.pointer (some ⟨b0,1,none⟩),.int .i64 A,.int .i64 W,.pointer (some ⟨b0,2,none⟩),.int .i64 X,.int .i64 H,.agg #[W,H,.slice none 0 0],undef]) (by kernel_rfl) rfl (by kernel_rfl) lL ?_;simp only [TD];refine ⟨fun w1 hG hd=>?_,fun v0=>?_⟩
 ·clear hd;go_wp2;exact RG
 simp only [TN];refine ⟨fun w1 hG hd=>?_,fun v1=>?_⟩
 ·have d0:v0=.pointer (some ⟨b0,1,none⟩):=hd ⟨0,.data⟩ (by simp) rfl;clear hd;subst d0;have c:w1.cell? (zq b0 1)=A:=by rw [Zw _ b0 1 _ _ _ ((hG.block b0 hb0l).trans HRW.out)];rfl
  go_wp2;exact RG
 simp only [TN];refine ⟨fun w1 hG hd=>?_,fun v2=>?_⟩
 ·have d1:v1=.int .i64 A:=hd ⟨1,.data⟩ (by simp) rfl;clear hd;subst d1;have HX:=ai (HP1.out w1);go_wp2_with fail
  refine HX.out.mono ?_;rintro e w2 ⟨rfl,rfl⟩;go_wp2;exact RG
 simp only [TN];refine ⟨fun w1 hG hd=>?_,fun v3=>?_⟩
 ·clear hd;go_wp2;exact RG
 simp only [TN];refine ⟨fun w1 hG hd=>?_,fun v4=>?_⟩
 ·have d3:v3=.pointer (some ⟨b0,2,none⟩):=hd ⟨3,.data⟩ (by simp) rfl;clear hd;subst d3;have c:w1.cell? (zq b0 2)=X:=by rw [Zw _ b0 2 _ _ _ ((hG.block b0 hb0l).trans HRW.out)];rfl
  go_wp2;exact RG
 simp only [TN];refine ⟨fun w1 hG hd=>?_,fun v5=>?_⟩
 ·have d4:v4=.int .i64 X:=hd ⟨4,.data⟩ (by simp) rfl;clear hd;subst d4;have HX:=ai (HP2.out w1);go_wp2_with fail
  refine HX.out.mono ?_;rintro e w2 ⟨rfl,rfl⟩;go_wp2;exact RG
 simp only [TN];refine ⟨fun w1 hG hd=>?_,fun v6=>?_⟩
 ·have d2:v2=.int .i64 W:=hd ⟨2,.data⟩ (by simp) rfl;have d5:v5=.int .i64 H:=hd ⟨5,.data⟩ (by simp) rfl;clear hd;subst d2 d5;go_wp2;exact RG
 simp only [TN];refine ⟨fun w1 hG hd=>?_,fun v7=>?_⟩
 ·clear hd;go_wp2;exact ⟨⟨_,rfl,hG.size,ZB _ _⟩,(ZQ _ _).alloc (ZV _) _⟩
 simp only [TN];intro w2 hG hd;have dag:v6=.agg #[W,H,.slice none 0 0]:=hd 6 (by omega);obtain ⟨g,dnb,hzg,hbg⟩:∃ g,v7=.pointer (some ⟨g,0,none⟩)/\wb.heap.size<=g/\w2.heap[g]? =some (.cells #[oz,oz,.slice none 0 0] 100 (0,0)):=hd 7 (by omega);subst dag dnb;clear hd;have hrow:=YK w2 g _ #[W,H,.slice none 0 0] _ _ hbg;have hb3:af wb (w2.setRow g #[W,H,.slice none 0 0]):=⟨hG.os,hG.tape,hG.output,ZU hG.size (Nat.le_of_eq (by simp [World.setRow])),fun k hk=>(setRow_other _ _ _ _ (by omega)).trans (hG.block k hk)⟩;refine Zi rfl 100 (.tmp 6) (.tmp 71) rfl g #[W,H,.slice none 0 0] rfl rfl _ _ hbg (by kernel_rfl) rfl (by kernel_rfl) ?_;generalize w2.setRow g #[W,H,.slice none 0 0]=w3 at hrow hb3 ⊢;clear hG hbg;have HR3:=ai hrow;have HB3:=ai hb3;have hC3:=(aS.thing B y vs).grow hCb hb3;have ow3:=aW.grown owb hb3;have hB3:B<=w3.heap.size:=ZU hBb hb3.size;have cf3:=hC3.at 2 _ hf;have hy3:y < w3.heap.size:=hC3.2.2.1;have hgy:g≠y:=fun e=>by have:=hCb.2.2.1;omega
 have hgo:some g≠(Value.slice ad n cap).ownBlock:=C6 owb hzg;have hg3:g < w3.heap.size:=(ZF.1 hrow).1;clear hrow hb3;go_wp2_with fail
 refine cW 9 _ 8 (fun w w'=>w.grownBy w' (Value.slice ad n cap).ownBlock) (pK w3 [.pointer (some ⟨y,0,none⟩),.pointer (some ⟨y,0,none⟩),.pointer (some ⟨y,0,none⟩),.pointer (some ⟨y,1,none⟩),.pointer (some ⟨y,2,none⟩),.slice ad n cap,.agg #[W,H,.slice none 0 0],undef,undef] 7 8 [.int .i64 W,.int .i64 H,.slice none 0 0] (Value.slice ad n cap).ownBlock B 100 3 (n+1) (ps++[.int .i64 W,.int .i64 H,.slice none 0 0])) (by kernel_rfl) rfl (by kernel_rfl) (lT _) (fun _ _ _=>lV) (fun _ _ _=>fE) pZ jy ?_;simp only [TD];refine ⟨aB (by decide) fun w1 hG hd=>?_,fun v0=>?_⟩
 ·clear hd;go_wp2;exact RG
 simp only [TN];refine ⟨aB (by decide) fun w1 hG hd=>?_,fun v1=>?_⟩
 ·clear hd;go_wp2;exact RG
 simp only [TN];refine ⟨aB (by decide) fun w1 hG hd=>?_,fun v2=>?_⟩
 ·have d1:v1=.pointer (some ⟨y,0,none⟩):=hd ⟨1,.data⟩ (by simp) rfl;clear hd;subst d1;go_wp2;exact RG
 simp only [TN];refine ⟨aB (by decide) fun w1 hG hd=>?_,fun v3=>?_⟩
 ·have d2:v2=.pointer (some ⟨y,0,none⟩):=hd ⟨2,.data⟩ (by simp) rfl;clear hd;subst d2;go_wp2;exact RG
 simp only [TN];refine ⟨aB (by decide) fun w1 hG hd=>?_,fun v4=>?_⟩
 ·have d3:v3=.pointer (some ⟨y,1,none⟩):=hd ⟨3,.data⟩ (by simp) rfl;clear hd;subst d3;go_wp2;exact RG
 simp only [TN];refine ⟨aB (by decide) fun w1 hG hd=>?_,fun v5=>?_⟩
 ·have d4:v4=.pointer (some ⟨y,2,none⟩):=hd ⟨4,.data⟩ (by simp) rfl;clear hd;subst d4;have c:=(ZR (a:=zq y 2) (hG.block y hy3 (fun e=>ne e.symm))).trans cf3;go_wp2;exact RG
 simp only [TN];refine ⟨aB (by decide) fun w1 hG hd=>?_,fun v6=>?_⟩
 ·clear hd;refine YG rfl 100 (.tmp 6) rfl g rfl 100 _ (0,0) _ ((hG.block g hg3 hgo).trans HR3.out) underlying100 rfl (by kernel_rfl) ?_;refine YB ?_;exact ⟨rfl,rfl,rfl,af.refl _⟩
 simp only [TN];refine ⟨aB (by decide) fun w1 hG hd=>?_,fun v7=>?_⟩
 ·have d6:v6=.agg #[W,H,.slice none 0 0]:=hd ⟨6,.data⟩ (by simp) rfl;clear hd;subst d6;go_wp2;exact ⟨jI _ _ (fun k hk=>ZK (ow3.lt k hk).2 (World.grownBy.size hG)),(ZQ _ _).alloc (ZV _) _⟩
 simp only [TN];refine ⟨dO rfl fun w1 hG hd=>?_,fun v8=>?_⟩
 ·have d5:v5=.slice ad n cap:=hd ⟨5,.data⟩ (by simp) rfl;have d7:pO _ _ v7 w1:=hd ⟨7,.data⟩ (by simp) rfl;clear hd;subst d5;exact nJ rfl (.tmp 77) (.tmp 79) 26 rfl 100 (.agg #[oz,oz,.slice none 0 0]) 3 40 Tryz.infoPg2 rfl (by omega) underlying26 B (Value.slice ad n cap) n (ps) rfl ow3 hB3 hG v7 rfl [.int .i64 W,.int .i64 H,.slice none 0 0] d7 rfl (by intro u hu;simp at hu;rcases hu with rfl | rfl | rfl <;> rfl) (by omega) (by omega) ⟨_,rfl,by simp [Act.put]⟩
 simp only [TN];intro w7 hG hd;have d0:v0=.pointer (some ⟨y,0,none⟩):=hd 0 (by omega);have d8:gq _ _ _ _ _ _ _ v8 w7:=hd 8 (by omega);subst d0;obtain ⟨ad7,cap7,hv7⟩:=d8.form;subst hv7;have hby:=hG.block y hy3 (fun e=>ne e.symm);have hC7:aS B y vs w7 S3:=(aS.thing B y vs).keep hC3 (fun k hk=>by have e1:=hC3.1;rw [e1] at hk;have e2:k=y:=hk;rw [e2];exact hby) (World.grownBy.size hG);have HG7:=ai hG;have HA7:=ai d8;have cf7:=hC7.at 2 _ hf;have ff7:=hC7.fz 2;have hC8:=(hC7.set 2 (.slice ad7 (n+1) cap7) (Zx.1 hf).1).1;have hr8:=(Yr w7 ⟨y,2,none⟩ g (.slice ad7 (n+1) cap7) hgy).trans ((hG.block g hg3 hgo).trans HR3.out);clear hd hG d8 hby cf3;have c48:=hC8.at 4 _ (by rw [List.getElem?_set_ne (by decide)];exact h4);have f48:=hC8.fz 4;have hC9:=(hC8.set 4 (.bool true) (by rw [List.length_set];exact (Zx.1 h4).1)).1;have hr9:=(Yr _ ⟨y,4,none⟩ g true hgy).trans hr8;have k0:=hC9.at 0 _ (by rw [List.getElem?_set_ne (by decide),List.getElem?_set_ne (by decide)];exact h0);have kt:((w7.setCell (zq y 2) (.slice ad7 (n+1) cap7)).setCell (zq y 4) true).cell? g=W:=by rw [Zw _ g 0 _ _ _ hr9];rfl
 have ku:((w7.setCell (zq y 2) (.slice ad7 (n+1) cap7)).setCell (zq y 4) true).cell? (zq g 1)=H:=by rw [Zw _ g 1 _ _ _ hr9];rfl
 have HW2:=ai (fun w9 h=>HW.out w3 _ w7 w9 HB3.out HG7.out HA7.out h);clear hr8 hr9 hC8 hC9 hC7 HW HG7 HA7 hC3 ow3;go_wp2_with fail
 refine ap 8 _ (ag [zp y,zp y,zp y,zp Wb,zp g,W,zq g 1,H]) (by kernel_rfl) rfl (by kernel_rfl) aq ?_;simp only [TD];refine ⟨fun w1 hG hd=>?_,fun v0=>?_⟩
 ·clear hd;go_wp2;exact RG
 simp only [TN];refine ⟨fun w1 hG hd=>?_,fun v1=>?_⟩
 ·have d0:v0=.pointer (some ⟨y,0,none⟩):=hd ⟨0,.data⟩ (by simp) rfl;clear hd;subst d0;go_wp2;exact RG
 simp only [TN];refine ⟨fun w1 hG hd=>?_,fun v2=>?_⟩
 ·have d1:v1=.pointer (some ⟨y,0,none⟩):=hd ⟨1,.data⟩ (by simp) rfl;clear hd;subst d1;go_wp2;exact RG
 simp only [TN];refine ⟨fun w1 hG hd=>?_,fun v3=>?_⟩
 ·have d2:v2=.pointer (some ⟨y,0,none⟩):=hd ⟨2,.data⟩ (by simp) rfl;clear hd;subst d2;have c:=au hG k0;go_wp2;exact RG
 simp only [TN];refine ⟨fun w1 hG hd=>?_,fun v4=>?_⟩
 ·clear hd;go_wp2;exact RG
 simp only [TN];refine ⟨fun w1 hG hd=>?_,fun v5=>?_⟩
 ·have d4:v4=.pointer (some ⟨g,0,none⟩):=hd ⟨4,.data⟩ (by simp) rfl;clear hd;subst d4;have c:=au hG kt;go_wp2;exact RG
 simp only [TN];refine ⟨fun w1 hG hd=>?_,fun v6=>?_⟩
 ·clear hd;go_wp2;exact RG
 simp only [TN];refine ⟨fun w1 hG hd=>?_,fun v7=>?_⟩
 ·have d6:v6=.pointer (some ⟨g,1,none⟩):=hd ⟨6,.data⟩ (by simp) rfl;clear hd;subst d6;have c:=au hG ku;go_wp2;exact RG
 simp only [TN];intro w9 hG hd;have d3:v3=.pointer (some ⟨Wb,0,none⟩):=hd 3 (by omega);have d5:v5=.int .i64 W:=hd 5 (by omega);have d7:v7=.int .i64 H:=hd 7 (by omega);subst d3 d5 d7;clear hd;go_wp2_with fail
 refine (HW2.out w9 hG).mono ?_;rintro e w10 ⟨rfl,hz⟩;have HZZ:=ai hz;clear hz;go_wp2
 first | exact HZZ.out | (go_ret;exact HZZ.out)
theorem Ce (w:World) (B y Wb:Nat) (K A X C D E Co Ro:Int) (t:ByteArray) (vs:List Value) (S:Bl) (hC:aS B y vs w S) (HK:Hid (∀ wx,QE 15 #[K,(8:Int)] wx (0:Int))) (Z:Ending->World->Prop) (n cap:Nat) (ad:Option Addr) (op:Bool) (hf:vs[2]? =some (.slice ad n cap)) (h4:vs[4]? =some (.bool op)) (hn:n=80) (HZ:Hid (∀ wa,af w wa->Z (.returned true) wa)):
  CP 51 #[zp y,.agg #[K,A,X,C,D,E,Co,Ro,t]] w Z:=by
 go_enter func51,ntmps51
 go_wp2_with fail
 refine (HK.out _).mono ?_;rintro e w1 ⟨rfl,rfl⟩;clear HK;have hrow:(w.alloc (.cells #[K,A,X,C,D,E,Co,Ro,t] 76)).heap[w.heap.size]? =some (.cells #[K,A,X,C,D,E,Co,Ro,t] 76 (0,0)):=ZB w _;have hgw:af w (w.alloc (.cells #[K,A,X,C,D,E,Co,Ro,t] 76)):=(ZQ _ w).alloc (ZV _) _;have hCa:=(aS.thing B y vs).grow hC hgw;have hyb:y < w.heap.size:=hC.2.2.1;have HRW:=ai hrow;have HGW:=ai hgw;generalize hwa:w.alloc (.cells #[K,A,X,C,D,E,Co,Ro,t] 76)=wa at HRW HGW hCa ⊢;clear hrow hgw hwa;generalize hb0:w.heap.size=b0 at HRW hyb ⊢;clear hb0;subst hn;have c4:=hCa.at 4 _ h4;have c2:=hCa.at 2 _ hf;have HZ2:=ai (HZ.out wa HGW.out);clear hCa hC HZ;go_wp2
 all_goals first | exact HZ2.out | (go_ret;exact HZ2.out)
theorem Cg (w:World) (B y Wb:Nat) (K A X C D E Co Ro:Int) (t:ByteArray) (vs:List Value) (S:Bl) (hC:aS B y vs w S) (Z:Ending->World->Prop) (k:Nat) (HK:Hid (∀ wx,QE 15 #[K,(8:Int)] wx (k:Int))) (hk8:k < 8) (h6:((k:Int)==6)=false) (h7:((k:Int)==7)=false) (h50:((k:Int)==0)=false) (h4:vs[4]? =some (.bool false)) (HZ:Hid (∀ wa,af w wa->Z (.returned true) wa)):
  CP 51 #[zp y,.agg #[K,A,X,C,D,E,Co,Ro,t]] w Z:=by
 go_enter func51,ntmps51
 go_wp2_with fail
 refine (HK.out _).mono ?_;rintro e w1 ⟨rfl,rfl⟩;clear HK;have hrow:(w.alloc (.cells #[K,A,X,C,D,E,Co,Ro,t] 76)).heap[w.heap.size]? =some (.cells #[K,A,X,C,D,E,Co,Ro,t] 76 (0,0)):=ZB w _;have hgw:af w (w.alloc (.cells #[K,A,X,C,D,E,Co,Ro,t] 76)):=(ZQ _ w).alloc (ZV _) _;have hCa:=(aS.thing B y vs).grow hC hgw;have hyb:y < w.heap.size:=hC.2.2.1;have HRW:=ai hrow;have HGW:=ai hgw;generalize hwa:w.alloc (.cells #[K,A,X,C,D,E,Co,Ro,t] 76)=wa at HRW HGW hCa ⊢;clear hrow hgw hwa;generalize hb0:w.heap.size=b0 at HRW hyb ⊢;clear hb0;have c4:=hCa.at 4 _ h4;have HZ2:=ai (HZ.out wa HGW.out);clear hCa hC HZ;go_wp2
 all_goals first | exact HZ2.out | (go_ret;exact HZ2.out)
theorem wM (w:World) (B y Wb:Nat) (K A X C D E Co Ro:Int) (t:ByteArray) (vs:List Value) (S:Bl) (hC:aS B y vs w S) (HK:Hid (∀ wx,QE 15 #[K,(8:Int)] wx (5:Int))) (Z:Ending->World->Prop) (h4:vs[4]? =some (.bool true)) (n cap:Nat) (ad:Option Addr) (hf:vs[3]? =some (.slice ad n cap)) (hn:n<=20) (ht0:t=⟨#[]⟩\/(t.toList.isEmpty=false/\n=20)) (HZ:Hid (∀ wa,af w wa->Z (.returned true) wa)):
  CP 51 #[zp y,.agg #[K,A,X,C,D,E,Co,Ro,t]] w Z:=by
 go_enter func51,ntmps51
 go_wp2_with fail
 refine (HK.out _).mono ?_;rintro e w1 ⟨rfl,rfl⟩;clear HK;have hrow:(w.alloc (.cells #[K,A,X,C,D,E,Co,Ro,t] 76)).heap[w.heap.size]? =some (.cells #[K,A,X,C,D,E,Co,Ro,t] 76 (0,0)):=ZB w _;have hgw:af w (w.alloc (.cells #[K,A,X,C,D,E,Co,Ro,t] 76)):=(ZQ _ w).alloc (ZV _) _;have hCa:=(aS.thing B y vs).grow hC hgw;have hyb:y < w.heap.size:=hC.2.2.1;have HRW:=ai hrow;have HGW:=ai hgw;generalize hwa:w.alloc (.cells #[K,A,X,C,D,E,Co,Ro,t] 76)=wa at HRW HGW hCa ⊢;clear hrow hgw hwa;generalize hb0:w.heap.size=b0 at HRW hyb ⊢;clear hb0;have c4:=hCa.at 4 _ h4;have c3:=hCa.at 3 _ hf;have c8:wa.cell? (zq b0 8)=t:=by rw [Zw _ b0 8 _ _ _ HRW.out];rfl
 have HZ2:=ai (HZ.out wa HGW.out);clear hCa hC HZ;rcases ht0 with ht0 | ⟨ht0,hn0⟩
 ·subst ht0;go_wp2
  first | exact HZ2.out | (go_ret;exact HZ2.out)
 ·subst hn0;go_wp2
  first | exact HZ2.out | (go_ret;exact HZ2.out)
theorem ip {B jb:Nat} {vs:List Value} {R Q:As} (hR:aJ B R) (hQ:aJ B Q) {w:World} {S:Bl} (h:ah (ah (aS B jb vs) R) Q w S) (i:Nat) (v:Value) (hi:i < vs.length):∃ S',ah (ah (aS B jb (vs.set i v)) R) Q (w.setCell (zq jb i) v) S'/\Mv S w S' (w.setCell (zq jb i) v):=by
 obtain ⟨SJ,hJ,_,backJ⟩:=ah.fst hQ h;obtain ⟨SC,hC,_,backC⟩:=ah.fst hR hJ;obtain ⟨k,m⟩:=hC.set i v hi;obtain ⟨S1,h1,m1⟩:=backC _ _ _ k m;exact backJ _ _ _ h1 m1
theorem yy {B jb:Nat} {vs:List Value} {ps:List (Value×(Int×Int×List bj))} {ms:List (ByteArray×Nat)} {ad:Option Addr} {cap:Nat} {vm:Value} {Q:As} (hQ:aJ B Q) {w:World} {S:Bl} (h:ah (ah (aS B jb vs) (lQ B ps ms (.slice ad ps.length cap) vm)) Q w S) {v:Value} {w7:World} {W H:Int} (hg:w.grownBy w7 (Value.slice ad ps.length cap).ownBlock) (hA:gq w (Value.slice ad ps.length cap).ownBlock B 100 3 (ps.length+1) (iy ps++[.int .i64 W,.int .i64 H,.slice none 0 0]) v w7):
  ∃ S',ah (ah (aS B jb vs) (lQ B ((.slice none 0 0,(W,H,[]))::ps) ms v vm)) Q w7 S'/\Mv S w S' w7:=by
 obtain ⟨SJ,hJ,_,backJ⟩:=ah.fst hQ h;obtain ⟨Sb,hr,_,back⟩:=ah.snd (aS.thing _ _ _) hJ;obtain ⟨S1,hm,hsub,back1⟩:=ah.fst (ah.thing (dh.thing _ _) (aW.thing _ _ _ _ _ _)) hr;obtain ⟨kr,km⟩:=hA.moved hg;obtain ⟨Sr,hr',mr⟩:=back1 (aW B 100 3 v (((Value.slice none 0 0,(W,H,[])):Value×(Int×Int×List bj))::ps).length (iy ((Value.slice none 0 0,(W,H,[]))::ps))) w7 _ kr (by rw [hm.1];exact km);obtain ⟨So,ho,_,backo⟩:=ah.mid (aW.thing _ _ _ _ _ _) (aW.thing _ _ _ _ _ _) hr';obtain ⟨So',ho',mo⟩:=xu ho;obtain ⟨Sn,hn,mn⟩:=backo _ _ _ ho' mo;obtain ⟨S7,h7,m7⟩:=back _ _ _ hn (mr.trans mn);exact backJ _ _ _ h7 m7
theorem vC {B jb:Nat} {vs:List Value} {ps:List (Value×(Int×Int×List bj))} {ms:List (ByteArray×Nat)} {ad:Option Addr} {cap:Nat} {vp:Value} {Q:As} (hQ:aJ B Q) {w:World} {S:Bl} (h:ah (ah (aS B jb vs) (lQ B ps ms vp (.slice ad ms.length cap))) Q w S) {v:Value} {w7:World} {t:ByteArray} {p:Nat} (hg:w.grownBy w7 (Value.slice ad ms.length cap).ownBlock) (hA:gq w (Value.slice ad ms.length cap).ownBlock B 98 2 (ms.length+1) (iz ms++[.string t,.int .i64 (p:Int)]) v w7):
  ∃ S',ah (ah (aS B jb vs) (lQ B ps (ms++[(t,p)]) vp v)) Q w7 S'/\Mv S w S' w7:=by
 obtain ⟨SJ,hJ,_,backJ⟩:=ah.fst hQ h;obtain ⟨Sb,hr,_,back⟩:=ah.snd (aS.thing _ _ _) hJ;obtain ⟨S1,hm,hsub,back1⟩:=ah.third (aW.thing _ _ _ _ _ _) (dh.thing _ _) hr;obtain ⟨kr,km⟩:=hA.moved hg;obtain ⟨Sr,hr',mr⟩:=back1 (aW B 98 2 v (ms++[(t,p)]).length (iz (ms++[(t,p)]))) w7 _ (by rw [nf,ZY];exact kr) (by rw [hm.1];exact km);obtain ⟨S7,h7,m7⟩:=back _ _ _ hr' mr;exact backJ _ _ _ h7 m7
theorem pm {n:Wn} {s:St} {J:As} (hJ:aJ n.B J) {w:World} {S:Bl} (h:ah J (WD n s) w S) {f:FuncId} {args:Array Value} {r:Int×St} (H:∀ SW,WD n s w SW->CP f args w (dp n w SW r)):
  CP f args w fun e w'=>e=.returned (.int .i64 r.1)/\∃ S',ah J (WD n r.2) w' S'/\Mv S w S' w':=by
 obtain ⟨SW,hW,_,back⟩:=ah.snd hJ h;refine (H SW hW).mono ?_;rintro e w' ⟨rfl,S',hW',m⟩;exact ⟨rfl,back _ _ _ hW' m⟩
structure St.good (s:St) (i:Nat):Prop where
 ok:s.ok
 fine:s.fine
 left:s.left=0
 cl:s.cl=false
 size:s.size<=1500*i
theorem St.good.next {s:St} {i:Nat} (h:s.good i):s.good (i+1):=⟨h.ok,h.fine,h.left,h.cl,ZU h.size (by omega)⟩
theorem St.good.drawing {s:St} {i:Nat} (h:s.good i) (ho:s.op=true):s.drawing=true:=by unfold St.drawing;rw [ho,h.left];rfl
def tf (n:Wn) (jb:Nat) (fl c i:Nat) (w:World) (S:Bl) (e:Ending) (w':World):Prop:=e=.returned true/\∃ s' S',St.good s' (i+1)/\JD n jb s' s' 0 fl c w' S'/\Mv S w S' w'
theorem B4 {s:St} (hc:s.cl=false) {t:ByteArray} (ht:t.size<=100):s.titled t=(0,{s with title:=t}):=by
 unfold St.titled;rw [ZO (by simp [hc]),ZO (by omega)]
theorem Dd {s:St} (ho:s.op=false) (hc:s.cl=false) {W H:Int} (hW:bG W 1 14400000) (hH:bG H 1 14400000) (hl:s.pages.length < 80):s.page W H=(0,{s with pages:=(W,H,[])::s.pages,op:=true,size:=0}):=by
 unfold St.page;rw [ZO (by simp [ho,hc]),ZO (fun h=>h.elim (fun f=>f hW) (fun f=>f hH)),ZO (by omega)]
theorem AO {s:St} (ho:s.op=true) {t:ByteArray} (ht:t.size≠0) (ht2:t.size<=100) (hm:s.marks.length < 20):s.mark t=(0,{s with marks:=s.marks++[(t,s.pages.length - 1)]}):=by
 unfold St.mark;rw [ZO (by simp [ho]),ZO (by omega),ZO (by omega)]
theorem uX {s:St} (hd:s.drawing=true):s.endPage=(0,{s with op:=false}):=by
 unfold St.endPage;rw [ZM hd]
theorem tF (s:ByteArray):(s.extract 0 100).size<=100:=by simp;omega
theorem DS (s:ByteArray) (h:s.size≠0):(s.extract 0 100).size≠0:=by rw [ByteArray.size_extract];omega
theorem JD.parts {n:Wn} {jb:Nat} {s d:St} {sp fl c:Nat} {w:World} {S:Bl} (h:JD n jb s d sp fl c w S):∃ ps vp vm SC,ps.map (·.2)=d.pages/\ah (ah (aS n.B jb (ni n.Wb d vp vm sp fl c)) (lQ n.B ps d.marks vp vm)) (WD n s) w S/\aS n.B jb (ni n.Wb d vp vm sp fl c) w SC:=by
 obtain ⟨S1,S2,⟨ps,vp,vm,hp,hS⟩,hW,hoff,rfl⟩:=h;obtain ⟨SC,hC,_,_⟩:=ah.fst (lQ.thing _ _ _ _ _) hS;exact ⟨ps,vp,vm,SC,hp,⟨S1,S2,hS,hW,hoff,rfl⟩,hC⟩
theorem JD.make {n:Wn} {jb:Nat} {s d:St} {sp fl c:Nat} {w:World} {S:Bl} {ps:List (Value×(Int×Int×List bj))} {vp vm:Value} (hp:ps.map (·.2)=d.pages) (h:ah (ah (aS n.B jb (ni n.Wb d vp vm sp fl c)) (lQ n.B ps d.marks vp vm)) (WD n s) w S):JD n jb s d sp fl c w S:=by
 obtain ⟨S1,S2,hS,hW,hoff,rfl⟩:=h;exact ⟨S1,S2,⟨ps,vp,vm,hp,hS⟩,hW,hoff,rfl⟩
theorem JT (n:Wn) (jb:Nat) (s:St) (vs:List Value) (ps:List (Value×(Int×Int×List bj))) (ms:List (ByteArray×Nat)) (vp vm:Value):aJ n.B (ah (ah (aS n.B jb vs) (lQ n.B ps ms vp vm)) (WD n s)):=ah.thing (ah.thing (aS.thing _ _ _) (lQ.thing _ _ _ _ _)) (WD.thing n s)
theorem xT (n:Wn) (jb:Nat) (s:St) (fl c i:Nat) (x:rj) (w:World) (S:Bl) (hx:x.fits) (hk:aU x.k 8=6) (hg:s.good i) (h:JD n jb s s 0 fl c w S):
  CP 51 #[zp jb,x.val] w (tf n jb fl c i w S):=by
 obtain ⟨r1,_,_,_,_,_,_,_,r9⟩:=hx;have HK:=fun wx=>xE wx x.k 8 r1.1 r1.2 (by omega) (by omega)
 rw [hk] at HK;obtain ⟨ps,vp,vm,SC,hp,hall,hC⟩:=h.parts;refine zW w n.B jb n.Wb x.k x.a x.b x.c x.d x.e x.co x.ro x.s _ SC hC HK _ rfl (by simp [ni]) (x.s.extract 0 100) (fun wx=>om wx x.s r9) ?_;intro wa w9 hga hg9;obtain ⟨S1,h1,m1⟩:=ip (lQ.thing _ _ _ _ _) (WD.thing _ _) ((JT _ _ _ _ _ _ _ _).grow hall hga) 1 (.string (x.s.extract 0 100)) (by simp [ni]);have h9:=(JT _ _ _ _ _ _ _ _).grow h1 hg9;have m9:Mv S w S1 w9:=((Mv.grow hga S).trans m1).trans (Mv.grow hg9 S1);have hE:=B4 hg.cl (tF x.s);refine (pm (ah.thing (aS.thing _ _ _) (lQ.thing _ _ _ _ _)) h9 (fun SW hW=>uc n s w9 SW (x.s.extract 0 100) (by have:=tF x.s;omega) hW)).mono ?_;rintro e w' ⟨rfl,S',h',m'⟩;refine ⟨by rw [hE],rfl,(s.titled (x.s.extract 0 100)).2,S',⟨hg.ok.titled _,hg.fine.titled _,?_,?_,?_⟩,?_,m9.trans m'⟩
 ·rw [hE];exact hg.left
 ·rw [hE];exact hg.cl
 ·rw [hE];exact ZU hg.size (by omega)
 ·rw [hE] at h' ⊢;exact JD.make (d:={s with title:=x.s.extract 0 100}) hp h'
theorem xR (n:Wn) (jb:Nat) (s:St) (fl c i:Nat) (x:rj) (w:World) (S:Bl) (hx:x.fits) (hk:aU x.k 8=7) (hg:s.good i) (hlim:n.lim < 0) (h:JD n jb s s 0 fl c w S):
  CP 51 #[zp jb,x.val] w (tf n jb fl c i w S):=by
 obtain ⟨r1,_,_,_,_,_,_,_,r9⟩:=hx;have HK:=fun wx=>xE wx x.k 8 r1.1 r1.2 (by omega) (by omega)
 rw [hk] at HK;obtain ⟨ps,vp,vm,SC,hp,hall,hC⟩:=h.parts;refine zO w n.B jb n.Wb x.k x.a x.b x.c x.d x.e x.co x.ro x.s _ SC hC HK _ rfl ?_;intro wa hga;have h9:=(JT _ _ _ _ _ _ _ _).grow hall hga;refine (pm (ah.thing (aS.thing _ _ _) (lQ.thing _ _ _ _ _)) h9 (fun SW hW=>m_ n s wa SW hlim hg.ok hW)).mono ?_;rintro e w' ⟨rfl,S',h',m'⟩;have hf:s.flush=0:=by unfold St.flush;rw [hg.cl];rfl
 exact ⟨by rw [hf],rfl,s,S',hg.next,JD.make hp h',(Mv.grow hga S).trans m'⟩
theorem Al (n:Wn) (jb:Nat) (s:St) (fl c i:Nat) (x:rj) (w:World) (S:Bl) (hx:x.fits) (h6:aU x.k 8≠6) (h7:aU x.k 8≠7) (h0:aU x.k 8≠0) (h5:aU x.k 8≠5) (hop:s.op=true) (hi:i < 400) (hg:s.good i) (hlim:n.lim < 0) (hB:n.B<=w.heap.size) (ht:bU n.B w) (h:JD n jb s s 0 fl c w S):
  CP 51 #[zp jb,x.val] w (tf n jb fl c i w S):=by
 have hx0:=hx;obtain ⟨r1,_,_,_,_,_,_,_,r9⟩:=hx;have HK:=fun wx=>xE wx x.k 8 r1.1 r1.2 (by omega) (by omega)
 obtain ⟨ps,vp,vm,SC,hp,hall,hC⟩:=h.parts;refine Cc w n.B jb n.Wb x.k x.a x.b x.c x.d x.e x.co x.ro x.s _ SC hC _ (aU x.k 8) HK (gz _ _ (by omega)) (by simp;omega) (by simp;omega) (by simp;omega) (by simp;omega) (by rw [<-hop];rfl) ?_;intro wa hga;refine (D1 wa x hx0).mono ?_;rintro e w1 ⟨o,rfl,ho,hos,hb⟩;refine ⟨o.val,rfl,?_⟩;have hgr:af w w1:=af.trans hga hb;have h1:=(JD.thing n jb s s 0 fl c).grow h hgr;have htx:=yY o ho hos;have hsz:=hg.size;refine (xV n jb s fl c w1 S o ho (by omega) hlim hg.ok (hg.drawing hop) (by omega) (ZU hB hgr.size) (ht.on (hgr.mono hB)) h1).mono ?_;rintro e w' ⟨rfl,S',h',m'⟩;have hE:=zj (hg.drawing hop) ho (by omega:s.size+o.text.length<=1048576);refine ⟨rfl,rfl,(s.draw o).2,S',⟨hg.ok.drawn _,hg.fine.drawn _,?_,?_,?_⟩,h',(Mv.grow hgr S).trans m'⟩
 ·rw [hE];exact hg.left
 ·rw [hE];exact hg.cl
 ·rw [hE];show s.size+o.text.length<=_;omega
theorem oh (n:Wn) (jb:Nat) (s:St) (fl c i:Nat) (x:rj) (w:World) (S:Bl) (hx:x.fits) (hg:s.good i) (h:JD n jb s s 0 fl c w S)
  (hc:(aU x.k 8=0/\s.pages.length=80)\/(aU x.k 8≠0/\aU x.k 8≠6/\aU x.k 8≠7/\s.op=false)\/(aU x.k 8=5/\s.op=true/\(x.s.size=0\/s.marks.length=20))):
  CP 51 #[zp jb,x.val] w (tf n jb fl c i w S):=by
 obtain ⟨r1,_,_,_,_,_,_,_,r9⟩:=hx;have HK:=fun wx=>xE wx x.k 8 r1.1 r1.2 (by omega) (by omega)
 obtain ⟨ps,vp,vm,SC,hp,hall,hC⟩:=h.parts;have HZ:∀ wa,af w wa->tf n jb fl c i w S (.returned true) wa:=fun wa hga=>⟨rfl,s,S,hg.next,(JD.thing n jb s s 0 fl c).grow h hga,Mv.grow hga S⟩
 obtain ⟨SJ,hJ,_,_⟩:=ah.fst (WD.thing _ _) hall;obtain ⟨Sb,hr,_,_⟩:=ah.snd (aS.thing _ _ _) hJ;obtain ⟨Sp,hrp,_,_⟩:=ah.fst (ah.thing (dh.thing _ _) (aW.thing _ _ _ _ _ _)) hr;obtain ⟨Sm,hrm,_,_⟩:=ah.third (aW.thing _ _ _ _ _ _) (dh.thing _ _) hr;obtain ⟨adp,capp,hfp⟩:=eL hrp.2;obtain ⟨adm,capm,hfm⟩:=eL hrm.2;have hlen:ps.length=s.pages.length:=by rw [<-hp];simp
 rcases hc with ⟨hk,hl⟩ | ⟨k0,k6,k7,ho⟩ | ⟨hk,ho,hs⟩
 ·rw [hk] at HK;exact Ce w n.B jb n.Wb x.k x.a x.b x.c x.d x.e x.co x.ro x.s _ SC hC HK _ ps.length capp adp s.op (by rw [<-hfp];rfl) rfl (by omega) HZ
 ·exact Cg w n.B jb n.Wb x.k x.a x.b x.c x.d x.e x.co x.ro x.s _ SC hC _ (aU x.k 8) HK (gz _ _ (by omega)) (by simp;omega) (by simp;omega) (by simp;omega) (by rw [<-ho];rfl) HZ
 ·rw [hk] at HK;refine wM w n.B jb n.Wb x.k x.a x.b x.c x.d x.e x.co x.ro x.s _ SC hC HK _ (by rw [<-ho];rfl) s.marks.length capm adm (by rw [<-hfm];rfl) hg.ok.marks ?_ HZ;by_cases h0:x.s.size=0
  ·left;exact Zh (Array.eq_empty_of_size_eq_zero h0)
  ·exact .inr ⟨sj h0,by omega⟩
theorem An (n:Wn) (jb:Nat) (s:St) (fl c i:Nat) (x:rj) (w:World) (S:Bl) (hx:x.fits) (hk:aU x.k 8=5) (hop:s.op=true) (hs0:x.s.size≠0) (hm20:s.marks.length < 20) (hg:s.good i) (hB:n.B<=w.heap.size) (h:JD n jb s s 0 fl c w S):
  CP 51 #[zp jb,x.val] w (tf n jb fl c i w S):=by
 obtain ⟨r1,_,_,_,_,_,_,_,r9⟩:=hx;have HK:=fun wx=>xE wx x.k 8 r1.1 r1.2 (by omega) (by omega)
 rw [hk] at HK;obtain ⟨ps,vp,vm,SC,hp,hall,hC⟩:=h.parts;obtain ⟨SJ,hJ,_,_⟩:=ah.fst (WD.thing _ _) hall;obtain ⟨Sa,Sb,hCa,hr,hoff,_⟩:=ah.two (aS.thing _ _ _) hJ;obtain ⟨Sp,hrp,_,_⟩:=ah.fst (ah.thing (dh.thing _ _) (aW.thing _ _ _ _ _ _)) hr;obtain ⟨Sm,hrm,hsubm,_⟩:=ah.third (aW.thing _ _ _ _ _ _) (dh.thing _ _) hr;obtain ⟨adp,capp,hfp⟩:=eL hrp.2;obtain ⟨ad,cap,hfm⟩:=eL hrm.2;have hlen:ps.length=s.pages.length:=by rw [<-hp];simp
 obtain ⟨p,l,hpl,_⟩:=hg.ok.some hop;have hN:0 < ps.length:=by rw [hlen,hpl];simp
 have hN2:=hg.ok.pages;have ne:(Value.slice ad s.marks.length cap).ownBlock≠some jb:=by
  intro e;refine hoff jb ?_ (hsubm jb ?_)
  ·rw [hCa.1];rfl
  ·rw [hrm.1,hfm];exact e
 subst hfm;have hE:=AO hop (DS x.s hs0) (tF x.s) hm20;refine Cf w n.B jb n.Wb x.k x.a x.b x.c x.d x.e x.co x.ro x.s _ SC hC HK _ s.marks.length cap ps.length capp ad adp (iz s.marks) rfl (by rw [<-hfp];rfl) rfl (by rw [<-hop];rfl) hm20 hN (by omega) (sj hs0) hB hrm.2 ne (x.s.extract 0 100) (fun wx=>om wx x.s r9) ?_;intro w0 v w7 w9 hg0 hg7 hA7 hg9;have e1:((ps.length:Nat):Int) - 1=((s.pages.length - 1:Nat):Int):=by omega
 rw [e1] at hA7;obtain ⟨S7,h7,m7⟩:=vC (WD.thing _ _) ((JT _ _ _ _ _ _ _ _).grow hall hg0) hg7 hA7;obtain ⟨S8,h8,m8⟩:=ip (lQ.thing _ _ _ _ _) (WD.thing _ _) h7 3 v (by simp [ni]);have h9:=(JT _ _ _ _ _ _ _ _).grow h8 hg9;have m9:Mv S w S8 w9:=(((Mv.grow hg0 S).trans m7).trans m8).trans (Mv.grow hg9 S8);refine (pm (ah.thing (aS.thing _ _ _) (lQ.thing _ _ _ _ _)) h9 (fun SW hW=>wg n s w9 SW (x.s.extract 0 100) (by have:=tF x.s;omega) hg.ok (ZU hB m9.size) hW)).mono ?_;rintro e w' ⟨rfl,S',h',m'⟩;refine ⟨by rw [hE],rfl,(s.mark (x.s.extract 0 100)).2,S',⟨hg.ok.marked _,hg.fine.marked hg.ok _,?_,?_,?_⟩,?_,m9.trans m'⟩
 ·rw [hE];exact hg.left
 ·rw [hE];exact hg.cl
 ·rw [hE];exact ZU hg.size (by omega)
 ·rw [hE] at h' ⊢;exact JD.make (d:={s with marks:=s.marks++[(x.s.extract 0 100,s.pages.length - 1)]}) hp h'
theorem Ao (n:Wn) (jb:Nat) (s:St) (fl c i:Nat) (x:rj) (w:World) (S:Bl) (hx:x.fits) (hk:aU x.k 8=0) (h80:s.pages.length < 80) (hg:s.good i) (hlim:n.lim < 0) (hB:n.B<=w.heap.size) (ht:bU n.B w) (h:JD n jb s s 0 fl c w S):
  CP 51 #[zp jb,x.val] w (tf n jb fl c i w S):=by
 obtain ⟨r1,r2,r3,_,_,_,_,_,r9⟩:=hx;have HK:=fun wx=>xE wx x.k 8 r1.1 r1.2 (by omega) (by omega)
 rw [hk] at HK;have HP1:=fun wx=>jZ wx x.a 1 r2.1 r2.2 (by omega) (by omega)
 have HP2:=fun wx=>jZ wx x.b 1 r3.1 r3.2 (by omega) (by omega)
 have iW:bG (aw x.a 1) 1 14400000:=df x.a 1 (by omega);have iH:bG (aw x.b 1) 1 14400000:=df x.b 1 (by omega);obtain ⟨ps,vp,vm,SC,hp,hall,hC⟩:=h.parts;obtain ⟨SJ,hJ,_,_⟩:=ah.fst (WD.thing _ _) hall;obtain ⟨Sa,Sb,hCa,hr,hoff,_⟩:=ah.two (aS.thing _ _ _) hJ;obtain ⟨Sp,hrp,hsubp,_⟩:=ah.fst (ah.thing (dh.thing _ _) (aW.thing _ _ _ _ _ _)) hr;obtain ⟨ad,cap,hfp⟩:=eL hrp.2;have hlen:ps.length=s.pages.length:=by rw [<-hp];simp
 have ne:(Value.slice ad ps.length cap).ownBlock≠some jb:=by
  intro e;refine hoff jb ?_ (hsubp jb ?_)
  ·rw [hCa.1];rfl
  ·rw [hrp.1,hfp];exact e
 subst hfp;have REST:∀ (s1:St) (wb:World) (Sx:Bl),s1.good i->s1.op=false->s1.title=s.title->s1.pages=s.pages->s1.marks=s.marks->n.B<=wb.heap.size->bU n.B wb->
   ah (ah (aS n.B jb (ni n.Wb s (.slice ad ps.length cap) vm 0 fl c)) (lQ n.B ps s.marks (.slice ad ps.length cap) vm)) (WD n s1) wb Sx->Mv S w Sx wb->
   ∀ w0 v w7 w9,af wb w0->w0.grownBy w7 (Value.slice ad ps.length cap).ownBlock->gq w0 (Value.slice ad ps.length cap).ownBlock n.B 100 3 (ps.length+1) (iy ps++[.int .i64 (aw x.a 1),.int .i64 (aw x.b 1),.slice none 0 0]) v w7->af ((w7.setCell (zq jb 2) v).setCell (zq jb 4) true) w9->
   CP 34 #[zp n.Wb,(aw x.a 1:Int),(aw x.b 1:Int)] w9 fun e w'=>e=.returned (0:Int)/\tf n jb fl c i w S (.returned true) w':=by
  intro s1 wb Sx hg1 ho1 ht1 hp1 hm1 hBb htb hallb mb w0 v w7 w9 hg0 hg7 hA7 hg9;obtain ⟨S7,h7,m7⟩:=yy (WD.thing _ _) ((JT _ _ _ _ _ _ _ _).grow hallb hg0) hg7 hA7;obtain ⟨S8,h8,m8⟩:=ip (lQ.thing _ _ _ _ _) (WD.thing _ _) h7 2 v (by simp [ni]);obtain ⟨S8',h8',m8'⟩:=ip (lQ.thing _ _ _ _ _) (WD.thing _ _) h8 4 true (by simp [ni]);have h9:=(JT _ _ _ _ _ _ _ _).grow h8' hg9;have mb9:Mv Sx wb S8' w9:=((((Mv.grow hg0 Sx).trans m7).trans m8).trans m8').trans (Mv.grow hg9 S8');have m9:=mb.trans mb9;have tb:=mb9.tabBelow (JT _ _ _ _ _ _ _ _) hallb hBb;have hE:=Dd ho1 hg1.cl iW iH (by rw [hp1];exact h80);refine (pm (ah.thing (aS.thing _ _ _) (lQ.thing _ _ _ _ _)) h9 (fun SW hW=>vW n s1 w9 SW _ _ hlim hg1.ok (ZU hBb mb9.size) (htb.on tb) hW)).mono ?_;rintro e w' ⟨rfl,S',h',m'⟩;refine ⟨by rw [hE],rfl,(s1.page (aw x.a 1) (aw x.b 1)).2,S',⟨hg1.ok.paged _ _,hg1.fine.paged _ _,?_,?_,?_⟩,?_,m9.trans m'⟩
  ·rw [hE];exact hg1.left
  ·rw [hE];exact hg1.cl
  ·rw [hE];show 0<=_;omega
  ·rw [hE] at h' ⊢;refine JD.make (d:={s1 with pages:=(aw x.a 1,aw x.b 1,[])::s1.pages,op:=true,size:=0}) (ps:=(.slice none 0 0,(aw x.a 1,aw x.b 1,[]))::ps) (vp:=v) (vm:=vm) (by rw [hp1, <-hp];rfl) ?_;simp only [ht1,hm1] at h';simp only [ni,ht1,hm1];exact h'
 cases hop:s.op with
 | false=>
  refine zT w n.B jb n.Wb x.k x.a x.b x.c x.d x.e x.co x.ro x.s _ SC hC HK _ ps.length cap ad (iy ps) (aw x.a 1) (aw x.b 1) rfl rfl (by rw [<-hop];rfl) (by omega) hB hrp.2 ne HP1 HP2 ?_;intro wa hga;exact REST s wa S hg hop rfl rfl rfl (ZU hB hga.size) (ht.on (hga.mono hB)) ((JT _ _ _ _ _ _ _ _).grow hall hga) (Mv.grow hga S)
 | true=>
  refine zV w n.B jb n.Wb x.k x.a x.b x.c x.d x.e x.co x.ro x.s _ SC hC HK _ ps.length cap ad (iy ps) (aw x.a 1) (aw x.b 1) rfl rfl (by rw [<-hop];rfl) (by omega) hB hrp.2 ne HP1 HP2 ?_;intro wa hga;have halla:=(JT _ _ _ _ _ _ _ _).grow hall hga;have hEE:=uX (hg.drawing hop);refine (pm (ah.thing (aS.thing _ _ _) (lQ.thing _ _ _ _ _)) halla (fun SW hW=>yf n s wa SW hlim hg.ok (ZU hB hga.size) (ht.on (hga.mono hB)) hW)).mono ?_;rintro e wb ⟨rfl,S2,h2,m2⟩;obtain ⟨SJ2,hJ2,_,_⟩:=ah.fst (WD.thing _ _) h2;obtain ⟨S3,hC3,_,_⟩:=ah.fst (lQ.thing _ _ _ _ _) hJ2;obtain ⟨Sb2,hr2,_,_⟩:=ah.snd (aS.thing _ _ _) hJ2;obtain ⟨Sp2,hrp2,_,_⟩:=ah.fst (ah.thing (dh.thing _ _) (aW.thing _ _ _ _ _ _)) hr2;have mm:=(Mv.grow hga S).trans m2;have tb:=mm.tabBelow (JT _ _ _ _ _ _ _ _) hall hB;refine ⟨by rw [hEE],S3,hC3,hrp2.2,ZU hB mm.size,fun k hk hk2=>m2.keep hk2 (fun e=>by have:=(JT _ _ _ _ _ _ _ _).lt hall e;omega),?_⟩;refine REST s.endPage.2 wb S2 ⟨hg.ok.ended,hg.fine.ended,?_,?_,?_⟩ ?_ ?_ ?_ ?_ (ZU hB mm.size) (ht.on tb) h2 mm
  all_goals rw [hEE]
  ·exact hg.left
  ·exact hg.cl
  ·exact hg.size
theorem CJ (n:Wn) (jb:Nat) (s:St) (fl c i:Nat) (x:rj) (w:World) (S:Bl) (hx:x.fits) (hi:i < 400) (hg:s.good i) (hlim:n.lim < 0) (hB:n.B<=w.heap.size) (ht:bU n.B w) (h:JD n jb s s 0 fl c w S):
  CP 51 #[zp jb,x.val] w (tf n jb fl c i w S):=by
 have hk:=gz x.k 8 (by omega);have hpg:=hg.ok.pages;have hmk:=hg.ok.marks;by_cases k6:aU x.k 8=6
 ·exact xT n jb s fl c i x w S hx k6 hg h
 by_cases k7:aU x.k 8=7
 ·exact xR n jb s fl c i x w S hx k7 hg hlim h
 by_cases k0:aU x.k 8=0
 ·by_cases h80:s.pages.length < 80
  ·exact Ao n jb s fl c i x w S hx k0 h80 hg hlim hB ht h
  ·exact oh n jb s fl c i x w S hx hg h (.inl ⟨k0,by omega⟩)
 cases hop:s.op with
 | false=>exact oh n jb s fl c i x w S hx hg h (.inr (.inl ⟨k0,k6,k7,hop⟩))
 | true=>
  by_cases k5:aU x.k 8=5
  ·by_cases hn:x.s.size=0\/s.marks.length=20
   ·exact oh n jb s fl c i x w S hx hg h (.inr (.inr ⟨k5,hop,hn⟩))
   ·exact An n jb s fl c i x w S hx k5 hop (fun e=>hn (.inl e)) (by omega) hg hB h
  ·exact Al n jb s fl c i x w S hx k6 k7 k0 k5 hop hi hg hlim hB ht h
theorem Ag (w:World) (y Wb:Nat) (a0:Option Addr) (len cap b off:Nat) (sc:Nat->rj) (hm:len<=9223372036854775807) (ha:0 < len->a0=some ⟨b,off,none⟩) (I:Nat->World->Prop) (Z:Ending->World->Prop)
  (h00:Hid (I 0 w))
  (FS:Hid (∀ wr k i,I k wr->i < len->∀ (j:Nat) u,([.int .i64 (sc i).k,.int .i64 (sc i).a,.int .i64 (sc i).b,.int .i64 (sc i).c,.int .i64 (sc i).d,.int .i64 (sc i).e,.int .i64 (sc i).co,.int .i64 (sc i).ro,.string (sc i).s]:List Value)[j]? =some u->wr.cell? (zq b (off+i*9+j))=some u))
  (H1:Hid (∀ wr i,I i wr->i < len->i < 400->CP 51 #[zp y,(sc i).val] wr fun e w'=>e=.returned true/\CP 52 #[zp y] w' fun e w''=>e=.returned true/\I (i+1) w''))
  (HE:Hid (∀ wr i,I i wr->(i=len\/i=400)->wr.cell? y=some (.pointer (some ⟨Wb,0,none⟩))/\((wr.cell? (zq y 4)=some (.bool false)/\CP 18 #[zp Wb] wr fun e w'=>e=.returned (0:Int)/\Z (.returned true) w')\/(wr.cell? (zq y 4)=some (.bool true)/\CP 33 #[zp Wb] wr fun e w1=>e=.returned (0:Int)/\w1.cell? y=some (.pointer (some ⟨Wb,0,none⟩))/\CP 18 #[zp Wb] w1 fun e w'=>e=.returned (0:Int)/\Z (.returned true) w')))):
  CP 22 #[zp y,.slice a0 len cap] w Z:=by
 go_enter func22,ntmps22
 go_wp2_with fail
 go_loopg [5,6,7] (len+1) (fun gg ix _ _ wr=>∃ i:Nat,i<=len/\i<=400/\len - i < gg/\ix=.int .i64 (i:Int)/\Hid (I i wr))
 case atStart=>exact ⟨0,by omega,by omega,by omega,rfl,h00⟩
 case round=>
  obtain ⟨i,hi,hi4,hgk,rfl,hI⟩:=hrel;clear h00;by_cases hlt:i < len
  ·have d1:decide ((i:Int) < (len:Int))=true:=by simp;omega
   by_cases hlt4:i < 400
   ·have d4:decide ((i:Int) < 400)=true:=by simp;omega
    have hae:=ha (by omega);subst hae;have FX:=ai (FS.out wr i i hI.out hlt);have G1:=ai (H1.out wr i hI.out hlt hlt4);clear FS H1 HE hI ha;go_wp2_with (refine wpList_load_mid rfl 76 (.tmp 21) rfl b (off+i*9) rfl _ _ FX.out underlying76 rfl (by kernel_rfl) ?_)
    refine G1.out.mono ?_;rintro e w1 ⟨rfl,hf⟩;have G2:=ai hf;clear hf;go_wp2_with fail
    refine G2.out.mono ?_;rintro e w2 ⟨rfl,hn⟩;have HN:=ai hn;clear hn G1 G2 FX;go_wp2;go_roundg (gk - 1)
    case measure=>omega
    case rel=>exact ⟨i+1,by omega,by omega,by omega,by go_num,HN⟩
   ·have d4:decide ((i:Int) < 400)=false:=by simp;omega
    obtain ⟨c0,e4⟩:=HE.out wr i hI.out (.inr (by omega));clear FS H1 HE hI ha;rcases e4 with ⟨c4,hc⟩ | ⟨c4,he⟩
    ·have HC:=ai hc;clear hc;go_wp2_with fail
     refine HC.out.mono ?_;rintro e w1 ⟨rfl,hz⟩;have HZ:=ai hz;clear hz HC;go_wp2
     first | exact HZ.out | (go_ret;exact HZ.out)
    ·have HC:=ai he;clear he;go_wp2_with fail
     refine HC.out.mono ?_;rintro e w1 ⟨rfl,k0,hz⟩;have HC2:=ai hz;clear hz HC c0 c4;go_wp2_with fail
     refine HC2.out.mono ?_;rintro e w2 ⟨rfl,hz⟩;have HZ:=ai hz;clear hz HC2;go_wp2
     first | exact HZ.out | (go_ret;exact HZ.out)
  ·have d1:decide ((i:Int) < (len:Int))=false:=by simp;omega
   obtain ⟨c0,e4⟩:=HE.out wr i hI.out (.inl (by omega));clear FS H1 HE hI ha;rcases e4 with ⟨c4,hc⟩ | ⟨c4,he⟩
   ·have HC:=ai hc;clear hc;go_wp2_with fail
    refine HC.out.mono ?_;rintro e w1 ⟨rfl,hz⟩;have HZ:=ai hz;clear hz HC;go_wp2
    first | exact HZ.out | (go_ret;exact HZ.out)
   ·have HC:=ai he;clear he;go_wp2_with fail
    refine HC.out.mono ?_;rintro e w1 ⟨rfl,k0,hz⟩;have HC2:=ai hz;clear hz HC c0 c4;go_wp2_with fail
    refine HC2.out.mono ?_;rintro e w2 ⟨rfl,hz⟩;have HZ:=ai hz;clear hz HC2;go_wp2
    first | exact HZ.out | (go_ret;exact HZ.out)
theorem tH (n:Wn) (jb:Nat) (s:St) (c:Nat) (w:World) (S:Bl) (hc:c<=1000000000) (h:JD n jb s s 0 0 c w S):
  CP 52 #[zp jb] w fun e w'=>e=.returned true/\∃ S',JD n jb s s 0 0 (c+1) w' S'/\Mv S w S' w':=by
 obtain ⟨ps,vp,vm,SC,hp,hall,hC⟩:=h.parts;refine (xG w jb c hc n.B _ SC hC rfl rfl).mono ?_;rintro e w' ⟨rfl,hg⟩;obtain ⟨S1,h1,m1⟩:=ip (lQ.thing _ _ _ _ _) (WD.thing _ _) hall 7 ((c:Int)+1:Int) (by simp [ni]);have h2:=(JT _ _ _ _ _ _ _ _).grow h1 hg;refine ⟨rfl,S1,JD.make (vp:=vp) (vm:=vm) hp ?_,m1.trans (Mv.grow hg S1)⟩;have e:(ni n.Wb s vp vm 0 0 c).set 7 (.int .i64 ((c:Int)+1))=ni n.Wb s vp vm 0 0 (c+1):=by simp [ni]
 rw [<-e];exact h2
def E0 (n:Wn) (jb:Nat) (w:World) (S:Bl) (w':World):Prop:=∃ s d c S',St.ok s/\s.fine/\s.cl=true/\s.title=d.title/\s.pages=d.pages/\s.marks=d.marks/\JD n jb s d 0 0 c w' S'/\Mv S w S' w'
theorem sH {s:St} (ho:s.op=false) (hc:s.cl=false):s.close=(0,{s with cl:=true}):=by
 unfold St.close;rw [ZO (by simp [ho,hc])]
theorem Aq (n:Wn) (jb:Nat) (a0:Option Addr) (len cap b off:Nat) (sc:Nat->rj) (w:World) (S:Bl) (hm:len<=9223372036854775807) (ha:0 < len->a0=some ⟨b,off,none⟩) (hf:∀ i,i < len->(sc i).fits) (hlim:n.lim < 0) (hB:n.B<=w.heap.size) (ht:bU n.B w) (hbB:b < n.B\/len=0)
  (FS:∀ i,i < len->∀ (j:Nat) u,([.int .i64 (sc i).k,.int .i64 (sc i).a,.int .i64 (sc i).b,.int .i64 (sc i).c,.int .i64 (sc i).d,.int .i64 (sc i).e,.int .i64 (sc i).co,.int .i64 (sc i).ro,.string (sc i).s]:List Value)[j]? =some u->w.cell? (zq b (off+i*9+j))=some u)
  (h:JD n jb St.new St.new 0 0 0 w S):
  CP 22 #[zp jb,.slice a0 len cap] w fun e w'=>e=.returned true/\E0 n jb w S w':=by
 have TB:∀ {S':Bl} {wr:World},Mv S w S' wr->Below n.B w wr:=fun m=>m.tabBelow (JD.thing n jb St.new St.new 0 0 0) h hB
 refine Ag w jb n.Wb a0 len cap b off sc hm ha (fun i wr=>∃ s S',St.good s i/\JD n jb s s 0 0 i wr S'/\Mv S w S' wr) _ ?_ ?_ ?_ ?_
 ·exact ⟨St.new,S,⟨St.new_ok,St.new_fine,rfl,rfl,YI _⟩,h,Mv.refl _ _⟩
 ·rintro wr k i ⟨s,S',_,_,m⟩ hi j u hu;rw [(TB m).cell (p:=zq b (off+i*9+j)) (by show b < n.B;omega)];exact FS i hi j u hu
 ·rintro wr i ⟨s,S',hg,hJ,m⟩ hi hi4;refine (CJ n jb s 0 i i (sc i) wr S' (hf i hi) hi4 hg hlim (ZU hB m.size) (ht.on (TB m)) hJ).mono ?_;rintro e w1 ⟨rfl,s1,S1,hg1,hJ1,m1⟩;refine ⟨rfl,(tH n jb s1 i w1 S1 (by omega) hJ1).mono ?_⟩;rintro e w2 ⟨rfl,S2,hJ2,m2⟩;exact ⟨rfl,s1,S2,hg1,hJ2,(m.trans m1).trans m2⟩
 ·rintro wr i ⟨s,S',hg,hJ,m⟩ _;obtain ⟨ps,vp,vm,SC,hp,hall,hC⟩:=hJ.parts;refine ⟨hC.at 0 _ rfl,?_⟩
  cases hop:s.op with
  | false=>
   refine .inl ⟨by rw [hC.at 4 _ rfl,hop],?_⟩;have hE:=sH hop hg.cl;refine (pm (JS.thing _ _ _ _ _ _ _) hJ (fun SW hW=>tv n s wr SW hlim hg.ok hg.fine (ZU hB m.size) (ht.on (TB m)) hW)).mono ?_;rintro e w' ⟨rfl,S2,h2,m2⟩;refine ⟨by rw [hE],rfl,s.close.2,s,i,S2,hg.ok.closed,hg.fine.closed,?_,?_,?_,?_,h2,m.trans m2⟩
   all_goals rw [hE]
  | true=>
   refine .inr ⟨by rw [hC.at 4 _ rfl,hop],?_⟩;have hEE:=uX (hg.drawing hop);refine (pm (JS.thing _ _ _ _ _ _ _) hJ (fun SW hW=>yf n s wr SW hlim hg.ok (ZU hB m.size) (ht.on (TB m)) hW)).mono ?_;rintro e w1 ⟨rfl,S1,h1,m1⟩;have m01:=m.trans m1;have h1':JD n jb s.endPage.2 s 0 0 i w1 S1:=h1;obtain ⟨ps1,vp1,vm1,SC1,_,_,hC1⟩:=h1'.parts;refine ⟨by rw [hEE],hC1.at 0 _ rfl,?_⟩;have hE:=sH (s:=s.endPage.2) (by rw [hEE]) (by rw [hEE];exact hg.cl);refine (pm (JS.thing _ _ _ _ _ _ _) h1 (fun SW hW=>tv n s.endPage.2 w1 SW hlim hg.ok.ended hg.fine.ended (ZU hB m01.size) (ht.on (TB m01)) hW)).mono ?_;rintro e w' ⟨rfl,S2,h2,m2⟩;refine ⟨by rw [hE],rfl,s.endPage.2.close.2,s,i,S2,hg.ok.ended.closed,hg.fine.ended.closed,?_,?_,?_,?_,h2,m01.trans m2⟩
   all_goals rw [hE,hEE]
theorem ye (w:World) (n ca cb m c1 c2:Nat) (aa ab ad1 ad2:Option Addr) (t:ByteArray) (hn:n<=1000) (hca:n<=ca) (hcb:n<=cb) (hca2:ca<=9223372036854775807) (hcb2:cb<=9223372036854775807) (hm:m<=1000) (hc1:m<=c1) (hc2:m<=c2) (hc12:c1<=9223372036854775807) (hc22:c2<=9223372036854775807)
  (HM:Hid (0 < m->∃ g1 g2,ad1=some ⟨g1,0,none⟩/\ad2=some ⟨g2,0,none⟩/\g1 < w.heap.size/\g2 < w.heap.size/\∀ i,i < m->∃ (x:ByteArray) (p:Int),w.rangeAt g1 (i*2) [.string x,.int .i64 p]/\w.rangeAt g2 (i*2) [.string x,.int .i64 p]))
  (F:Hid (0 < n->∃ ga gb,aa=some ⟨ga,0,none⟩/\ab=some ⟨gb,0,none⟩/\ga < w.heap.size/\gb < w.heap.size/\∀ i,i < n->∃ (W H:Int) (no c3 c4:Nat) (ad3 ad4:Option Addr),w.rangeAt ga (i*3) [.int .i64 W,.int .i64 H,.slice ad3 no c3]/\w.rangeAt gb (i*3) [.int .i64 W,.int .i64 H,.slice ad4 no c4]/\no<=1000000000/\no<=c3/\no<=c4/\c3<=9223372036854775807/\c4<=9223372036854775807/\
   (0 < no->∃ g1 g2,ad3=some ⟨g1,0,none⟩/\ad4=some ⟨g2,0,none⟩/\g1 < w.heap.size/\g2 < w.heap.size/\∀ k,k < no->∃ (K A X C D E Co Ro:Int) (tt:ByteArray),w.rangeAt g1 (k*9) [.int .i64 K,.int .i64 A,.int .i64 X,.int .i64 C,.int .i64 D,.int .i64 E,.int .i64 Co,.int .i64 Ro,.string tt]/\w.rangeAt g2 (k*9) [.int .i64 K,.int .i64 A,.int .i64 X,.int .i64 C,.int .i64 D,.int .i64 E,.int .i64 Co,.int .i64 Ro,.string tt]))):
  QB 23 #[.agg #[t,.slice aa n ca,.slice ad1 m c1],.agg #[t,.slice ab n cb,.slice ad2 m c2]] w true:=by
 have bA:Below w w ((w.alloc (.cells #[t,.slice aa n ca,.slice ad1 m c1] 29)).alloc (.cells #[t,.slice ab n cb,.slice ad2 m c2] 29)):=((ZQ _ w).alloc (ZV _) _).alloc (by first | (simp;done) | (simp;omega)) _;have ka:((w.alloc (.cells #[t,.slice aa n ca,.slice ad1 m c1] 29)).alloc (.cells #[t,.slice ab n cb,.slice ad2 m c2] 29)).heap[w.heap.size]? =some (.cells #[t,.slice aa n ca,.slice ad1 m c1] 29 (0,0)):=(YQ _ _ w.heap.size (by first | (simp;done) | (simp;omega))).trans (ZB w _);have kb:((w.alloc (.cells #[t,.slice aa n ca,.slice ad1 m c1] 29)).alloc (.cells #[t,.slice ab n cb,.slice ad2 m c2] 29)).heap[w.heap.size+1]? =some (.cells #[t,.slice ab n cb,.slice ad2 m c2] 29 (0,0)):=Yu w _ _;go_enter func23,ntmps23
 go_wp2_with fail
 generalize (w.alloc (.cells #[t,.slice aa n ca,.slice ad1 m c1] 29)).alloc (.cells #[t,.slice ab n cb,.slice ad2 m c2] 29)=w1 at bA ka kb ⊢;obtain ⟨ba,hba⟩:∃ k,w.heap.size=k:=⟨_,rfl⟩;obtain ⟨bb,hbb⟩:∃ k,w.heap.size+1=k:=⟨_,rfl⟩;rw [hbb] at kb ⊢;have HB1:=ai bA;rw [hba] at ka ⊢;have A1:Hid (w1.cell? (zq ba 1)=some (.slice aa n ca)):=by show _=_;rw [Zw w1 ba 1 _ _ (0,0) ka];rfl
 have A2:Hid (w1.cell? (zq ba 2)=some (.slice ad1 m c1)):=by show _=_;rw [Zw w1 ba 2 _ _ (0,0) ka];rfl
 have B1:Hid (w1.cell? (zq bb 1)=some (.slice ab n cb)):=by show _=_;rw [Zw w1 bb 1 _ _ (0,0) kb];rfl
 have B2:Hid (w1.cell? (zq bb 2)=some (.slice ad2 m c2)):=by show _=_;rw [Zw w1 bb 2 _ _ (0,0) kb];rfl
 clear ka kb bA hba hbb;go_loopg [5] (m+1) (fun gg y wr=>∃ i:Nat,i<=m/\m - i < gg/\y=.int .i64 (i:Int)/\Hid (af w1 wr))
 case atStart=>exact ⟨0,by omega,by omega,rfl,af.refl _⟩
 case round=>
  obtain ⟨i,hi,hgi,rfl,HB2⟩:=hrel;have a2:=au HB2.out A2.out;have b2:=au HB2.out B2.out;by_cases hlt:i < m
  ·have d1:decide ((i:Int) < (m:Int))=true:=by simp;omega
   obtain ⟨g1,g2,rfl,rfl,hg1l,hg2l,hR⟩:=HM.out (by omega);obtain ⟨x,p,R1,R2⟩:=hR i hlt;have hb3:Below w w wr:=HB1.out.trans (Zb HB2.out HB1.out.size);have Rg1:Hid (_:Prop):=fun j u hj=>(ZR (a:=zq g1 (i*2+j)) (hb3.block g1 hg1l)).trans (R1 j u hj)
   have Rg2:Hid (_:Prop):=fun j u hj=>(ZR (a:=zq g2 (i*2+j)) (hb3.block g2 hg2l)).trans (R2 j u hj)
   have hg19:=ZK hg1l hb3.size;have hg29:=ZK hg2l hb3.size;clear R1 R2 hR hb3;go_wp2_with fail
   refine ap 10 _ (ag [zq ba 2,.slice g1 m c1,(i:Int),zq g1 (i*2),.agg #[x,p],zq bb 2,.slice g2 m c2,(i:Int),zq g2 (i*2),.agg #[x,p]]) (by kernel_rfl) rfl (by kernel_rfl) aq ?_;simp only [TD];refine ⟨fun w1 hG hd=>?_,fun v0=>?_⟩
   ·clear hd;go_wp2;exact RG
   simp only [TN];refine ⟨fun w1 hG hd=>?_,fun v1=>?_⟩
   ·have d0:v0=.pointer (some ⟨ba,2,none⟩):=hd ⟨0,.data⟩ (by simp) rfl;clear hd;subst d0;have c:=au hG a2;go_wp2;exact RG
   simp only [TN];refine ⟨fun w1 hG hd=>?_,fun v2=>?_⟩
   ·clear hd;go_wp2;exact RG
   simp only [TN];refine ⟨fun w1 hG hd=>?_,fun v3=>?_⟩
   ·have d1:v1=.slice g1 m c1:=hd ⟨1,.data⟩ (by simp) rfl;have d2:v2=.int .i64 (i:Int):=hd ⟨2,.data⟩ (by simp) rfl;clear hd;subst d1 d2;go_wp2;exact RG
   simp only [TN];refine ⟨fun w1 hG hd=>?_,fun v4=>?_⟩
   ·have d3:v3=.pointer (some ⟨g1,i*2,none⟩):=hd ⟨3,.data⟩ (by simp) rfl;clear hd;subst d3;refine wpList_load_mid rfl 98 (.tmp 43) rfl g1 (i*2) rfl [.string x,.int .i64 p] _ (fun j u hj=>(ZR (a:=zq g1 (i*2+j)) (hG.block g1 hg19)).trans (Rg1.out j u hj)) underlying98 rfl (by kernel_rfl) ?_;refine YB ?_;exact ⟨rfl,rfl,rfl,af.refl _⟩
   simp only [TN];refine ⟨fun w1 hG hd=>?_,fun v5=>?_⟩
   ·clear hd;go_wp2;exact RG
   simp only [TN];refine ⟨fun w1 hG hd=>?_,fun v6=>?_⟩
   ·have d5:v5=.pointer (some ⟨bb,2,none⟩):=hd ⟨5,.data⟩ (by simp) rfl;clear hd;subst d5;have c:=au hG b2;go_wp2;exact RG
   simp only [TN];refine ⟨fun w1 hG hd=>?_,fun v7=>?_⟩
   ·clear hd;go_wp2;exact RG
   simp only [TN];refine ⟨fun w1 hG hd=>?_,fun v8=>?_⟩
   ·have d6:v6=.slice g2 m c2:=hd ⟨6,.data⟩ (by simp) rfl;have d7:v7=.int .i64 (i:Int):=hd ⟨7,.data⟩ (by simp) rfl;clear hd;subst d6 d7;go_wp2;exact RG
   simp only [TN];refine ⟨fun w1 hG hd=>?_,fun v9=>?_⟩
   ·have d8:v8=.pointer (some ⟨g2,i*2,none⟩):=hd ⟨8,.data⟩ (by simp) rfl;clear hd;subst d8;refine wpList_load_mid rfl 98 (.tmp 48) rfl g2 (i*2) rfl [.string x,.int .i64 p] _ (fun j u hj=>(ZR (a:=zq g2 (i*2+j)) (hG.block g2 hg29)).trans (Rg2.out j u hj)) underlying98 rfl (by kernel_rfl) ?_;refine YB ?_;exact ⟨rfl,rfl,rfl,af.refl _⟩
   simp only [TN];intro w2 hG hd;have d4:v4=.agg #[x,p]:=hd 4 (by omega);have d9:v9=.agg #[x,p]:=hd 9 (by omega);subst d4 d9;have hb4:=ai (af.trans HB2.out hG);clear hd hG Rg1 Rg2 a2 b2 HB2;go_wp2_with fail
   go_roundg (gk - 1)
   case measure=>omega
   case rel=>exact ⟨i+1,by omega,by omega,by congr 1,hb4⟩
  ·obtain rfl:i=m:=by omega
   have d1:decide ((i:Int) < (i:Int))=false:=by simp
   clear HM;go_wp2_with fail
   go_loopg [6,7,8,9] (n+1) (fun gg y _ _ _ wr=>∃ i:Nat,i<=n/\n - i < gg/\y=.int .i64 (i:Int)/\Hid (af w1 wr))
   case atStart=>exact ⟨0,by omega,by omega,rfl,HB2⟩
   case round=>
    obtain ⟨ix,hix,hgix,rfl,HB3⟩:=hrel;clear a2 b2 HB2;obtain ⟨GK,hGK⟩:∃ GK,GK=gk:=⟨_,rfl⟩;have a1:=au HB3.out A1.out;have b1:=au HB3.out B1.out;by_cases hlt2:ix < n
    ·have d2:decide ((ix:Int) < (n:Int))=true:=by simp;omega
     obtain ⟨ga,gb,rfl,rfl,hgal,hgbl,hR⟩:=F.out (by omega);obtain ⟨W,H,no,c3,c4,ad3,ad4,R1,R2,hno,hc3,hc4,hc32,hc42,hops⟩:=hR ix hlt2;have HOP:=ai hops;have hb3:Below w w wr:=HB1.out.trans (Zb HB3.out HB1.out.size);have Rg1:Hid (_:Prop):=fun j u hj=>(ZR (a:=zq ga (ix*3+j)) (hb3.block ga hgal)).trans (R1 j u hj)
     have Rg2:Hid (_:Prop):=fun j u hj=>(ZR (a:=zq gb (ix*3+j)) (hb3.block gb hgbl)).trans (R2 j u hj)
     have HB9:=ai hb3;clear R1 R2 hR hb3 hops;have gA:af wr ((wr.alloc (.cells #[W,H,.slice ad3 no c3] 100)).alloc (.cells #[W,H,.slice ad4 no c4] 100)):=((ZQ _ wr).alloc (ZV _) _).alloc (by first | (simp;done) | (simp;omega)) _;have kp:((wr.alloc (.cells #[W,H,.slice ad3 no c3] 100)).alloc (.cells #[W,H,.slice ad4 no c4] 100)).heap[wr.heap.size]? =some (.cells #[W,H,.slice ad3 no c3] 100 (0,0)):=(YQ _ _ wr.heap.size (by first | (simp;done) | (simp;omega))).trans (ZB wr _);have kq:((wr.alloc (.cells #[W,H,.slice ad3 no c3] 100)).alloc (.cells #[W,H,.slice ad4 no c4] 100)).heap[wr.heap.size+1]? =some (.cells #[W,H,.slice ad4 no c4] 100 (0,0)):=Yu wr _ _;have GA:=ai gA;have KP:=ai kp;have KQ:=ai kq;have b1':(wr.alloc (.cells #[W,H,.slice ad3 no c3] 100)).cell? (zq bb 1)=some (.slice gb n cb):=au ((ZQ _ wr).alloc (ZV _) _) b1;clear gA kp kq;go_wp2_with (first
      | (refine wpList_load_mid rfl 100 (.tmp 61) rfl ga (ix*3) rfl [.int .i64 W,.int .i64 H,.slice ad3 no c3] _ Rg1.out underlying100 rfl (by kernel_rfl) ?_)
      | (refine wpList_load_mid rfl 100 (.tmp 66) rfl gb (ix*3) rfl [.int .i64 W,.int .i64 H,.slice ad4 no c4] _ (fun j u hj=>au ((ZQ _ wr).alloc (ZV _) _) (Rg2.out j u hj)) underlying100 rfl (by kernel_rfl) ?_))
     generalize (wr.alloc (.cells #[W,H,.slice ad3 no c3] 100)).alloc (.cells #[W,H,.slice ad4 no c4] 100)=w3 at GA KP KQ ⊢;obtain ⟨pb,hpb⟩:∃ k,wr.heap.size=k:=⟨_,rfl⟩;obtain ⟨qb,hqb⟩:∃ k,wr.heap.size+1=k:=⟨_,rfl⟩;rw [hqb] at KQ ⊢;rw [hpb] at KP ⊢;have P2:Hid (w3.cell? (zq pb 2)=some (.slice ad3 no c3)):=by show _=_;rw [Zw w3 pb 2 _ _ (0,0) KP.out];rfl
     have Q2:Hid (w3.cell? (zq qb 2)=some (.slice ad4 no c4)):=by show _=_;rw [Zw w3 qb 2 _ _ (0,0) KQ.out];rfl
     have HB5:=ai (af.trans HB3.out GA.out);have HB6:=ai (Below.trans HB9.out (Zb GA.out HB9.out.size));clear KP KQ GA HB3 HB9 Rg1 Rg2 a1 b1 b1' hpb hqb;go_loopg [9] (no+1) (fun gg y wx=>∃ k:Nat,k<=no/\no - k < gg/\y=.int .i64 (k:Int)/\Hid (af w3 wx))
     case atStart=>exact ⟨0,by omega,by omega,rfl,af.refl _⟩
     case round=>
      obtain ⟨k,hk,hgk2,rfl,HB7⟩:=hrel;have p2:=au HB7.out P2.out;have q2:=au HB7.out Q2.out;by_cases hkl:k < no
      ·have d3:decide ((k:Int) < (no:Int))=true:=by simp;omega
       obtain ⟨g1,g2,rfl,rfl,hg1l,hg2l,hR⟩:=HOP.out (by omega);obtain ⟨K,A,X,C,D,E,Co,Ro,tt,R1,R2⟩:=hR k hkl;have hb3:Below w w wr:=HB6.out.trans (Zb HB7.out HB6.out.size);have Rg1:Hid (_:Prop):=fun j u hj=>(ZR (a:=zq g1 (k*9+j)) (hb3.block g1 hg1l)).trans (R1 j u hj)
       have Rg2:Hid (_:Prop):=fun j u hj=>(ZR (a:=zq g2 (k*9+j)) (hb3.block g2 hg2l)).trans (R2 j u hj)
       have hg19:=ZK hg1l hb3.size;have hg29:=ZK hg2l hb3.size;clear R1 R2 hR hb3;go_wp2_with fail
       refine ap 10 _ (ag [zq pb 2,.slice g1 no c3,(k:Int),zq g1 (k*9),.agg #[K,A,X,C,D,E,Co,Ro,tt],zq qb 2,.slice g2 no c4,(k:Int),zq g2 (k*9),.agg #[K,A,X,C,D,E,Co,Ro,tt]]) (by kernel_rfl) rfl (by kernel_rfl) aq ?_;simp only [TD];refine ⟨fun w1 hG hd=>?_,fun v0=>?_⟩
       ·clear hd;go_wp2;exact RG
       simp only [TN];refine ⟨fun w1 hG hd=>?_,fun v1=>?_⟩
       ·have d0:v0=.pointer (some ⟨pb,2,none⟩):=hd ⟨0,.data⟩ (by simp) rfl;clear hd;subst d0;have c:=au hG p2;go_wp2;exact RG
       simp only [TN];refine ⟨fun w1 hG hd=>?_,fun v2=>?_⟩
       ·clear hd;go_wp2;exact RG
       simp only [TN];refine ⟨fun w1 hG hd=>?_,fun v3=>?_⟩
       ·have d1:v1=.slice g1 no c3:=hd ⟨1,.data⟩ (by simp) rfl;have d2:v2=.int .i64 (k:Int):=hd ⟨2,.data⟩ (by simp) rfl;clear hd;subst d1 d2;go_wp2;exact RG
       simp only [TN];refine ⟨fun w1 hG hd=>?_,fun v4=>?_⟩
       ·have d3:v3=.pointer (some ⟨g1,k*9,none⟩):=hd ⟨3,.data⟩ (by simp) rfl;clear hd;subst d3;refine wpList_load_mid rfl 31 (.tmp 99) rfl g1 (k*9) rfl [.int .i64 K,.int .i64 A,.int .i64 X,.int .i64 C,.int .i64 D,.int .i64 E,.int .i64 Co,.int .i64 Ro,.string tt] _ (fun j u hj=>(ZR (a:=zq g1 (k*9+j)) (hG.block g1 hg19)).trans (Rg1.out j u hj)) underlying31 rfl (by kernel_rfl) ?_;refine YB ?_;exact ⟨rfl,rfl,rfl,af.refl _⟩
       simp only [TN];refine ⟨fun w1 hG hd=>?_,fun v5=>?_⟩
       ·clear hd;go_wp2;exact RG
       simp only [TN];refine ⟨fun w1 hG hd=>?_,fun v6=>?_⟩
       ·have d5:v5=.pointer (some ⟨qb,2,none⟩):=hd ⟨5,.data⟩ (by simp) rfl;clear hd;subst d5;have c:=au hG q2;go_wp2;exact RG
       simp only [TN];refine ⟨fun w1 hG hd=>?_,fun v7=>?_⟩
       ·clear hd;go_wp2;exact RG
       simp only [TN];refine ⟨fun w1 hG hd=>?_,fun v8=>?_⟩
       ·have d6:v6=.slice g2 no c4:=hd ⟨6,.data⟩ (by simp) rfl;have d7:v7=.int .i64 (k:Int):=hd ⟨7,.data⟩ (by simp) rfl;clear hd;subst d6 d7;go_wp2;exact RG
       simp only [TN];refine ⟨fun w1 hG hd=>?_,fun v9=>?_⟩
       ·have d8:v8=.pointer (some ⟨g2,k*9,none⟩):=hd ⟨8,.data⟩ (by simp) rfl;clear hd;subst d8;refine wpList_load_mid rfl 31 (.tmp 104) rfl g2 (k*9) rfl [.int .i64 K,.int .i64 A,.int .i64 X,.int .i64 C,.int .i64 D,.int .i64 E,.int .i64 Co,.int .i64 Ro,.string tt] _ (fun j u hj=>(ZR (a:=zq g2 (k*9+j)) (hG.block g2 hg29)).trans (Rg2.out j u hj)) underlying31 rfl (by kernel_rfl) ?_;refine YB ?_;exact ⟨rfl,rfl,rfl,af.refl _⟩
       simp only [TN];intro w2 hG hd;have d4:v4=.agg #[K,A,X,C,D,E,Co,Ro,tt]:=hd 4 (by omega);have d9:v9=.agg #[K,A,X,C,D,E,Co,Ro,tt]:=hd 9 (by omega);subst d4 d9;have hb8:=ai (af.trans HB7.out hG);clear hd hG Rg1 Rg2 p2 q2 HB7;go_wp2_with fail
       go_roundg (gk - 1)
       case measure=>omega
       case rel=>exact ⟨k+1,by omega,by omega,by congr 1,hb8⟩
      ·obtain rfl:k=no:=by omega
       have d3:decide ((k:Int) < (k:Int))=false:=by simp
       have HB8:=ai (af.trans HB5.out HB7.out);clear HB7 HB5 HB6;go_wp2_with fail
       go_roundg (GK - 1)
       case measure=>omega
       case rel=>exact ⟨ix+1,by omega,by omega,by congr 1,HB8⟩
    ·obtain rfl:ix=n:=by omega
     have d2:decide ((ix:Int) < (ix:Int))=false:=by simp
     have HBF:=ai (HB1.out.trans (Zb HB3.out HB1.out.size));clear HB3 F;go_wp2;go_ret;exact ⟨rfl,HBF.out⟩
structure jw (B:Nat) (K D:World->Bl->List UInt8->Prop) (ok:List UInt8->Prop) (M:Nat) (ty:TypeId) (q q':Value) (f:FuncId) (et:TypeId) (ev:Value):Prop where
 thing:∀ X,aJ B (fun w S=>K w S X)
 hn:∀ wx,(nilAhead 465 ty q "Write").run prog wx=.ok (some false) wx
 hm:∀ wx,(method 465 ty q "Write").run prog wx=.ok (f,q') wx
 he:∀ args wx,(callFunc f args).run prog wx=.ok (.enter f args) wx
 okp:∀ X Y,ok (X++Y)->ok X
 kok:∀ {w S X},K w S X->ok X
 write:∀ w S X (s:ByteArray),K w S X->X.length+s.size<=M->ok (X++s.data.toList)->CP f #[q',s] w (aM D ok et ev S w X s.data.toList (fun w' S'=>K w' S' (X++s.data.toList)))
section
variable {K D:World->Bl->List UInt8->Prop} {ok:List UInt8->Prop} {B M:Nat} {ty:TypeId} {q q':Value} {f:FuncId} {et:TypeId} {ev:Value}
theorem jw.count (d:jw B K D ok M ty q q' f et ev) (hMx:M<=2000000000) (C n0:Nat):jw B (CK K B C n0 ty q) D ok M 162 (zp C) (zp C) 128 et ev where
 thing:=CK.thing d.thing C n0 ty q
 hn:=xQ C
 hm:=uz C
 he:=yE
 okp:=d.okp
 kok:=by
  rintro w S X ⟨R,hK,_⟩;exact d.kok hK
 write:=by
  rintro w S X s ⟨R,hK,rfl,hB,hn,hC,h0,c0,c1,fz⟩ hX hok0;have hK1:K (w.setCell (zq C 1) (((X.length - n0:Nat):Int)+(s.size:Int):Int)) R X:=(d.thing X).keep hK (fun k hr=>Za _ _ _ _ (by intro e;have e':k=C:=e;exact hn (e' ▸ hr))) (by simp [World.setCell]);have hfr:Fr (fun k=>k=C) w (w.setCell (zq C 1) (((X.length - n0:Nat):Int)+(s.size:Int):Int)):=⟨rfl,rfl,rfl,by simp [World.setCell],fun k _ hb=>Za _ _ _ _ hb⟩;have hsz:(w.setCell (zq C 1) (((X.length - n0:Nat):Int)+(s.size:Int):Int)).heap.size=w.heap.size:=by simp [World.setCell]
  have hM1:Mv (cT (cC C) R) w (cT (cC C) R) (w.setCell (zq C 1) (((X.length - n0:Nat):Int)+(s.size:Int):Int)):=⟨hfr.mono (fun k e=>.inl e),fun _ h=>.inl h⟩;refine mG ty q q' f d.hn d.hm d.he w C (X.length - n0) s _ c0 c1 (fz 1) (by omega) (by omega) ((d.write _ R X s hK1 hX hok0).mono ?_);intro e w' hS;obtain ⟨v,rfl⟩:=hS.val;refine ⟨v,rfl,?_⟩;rcases hS with ⟨hok,e,R',hK',hm⟩ | ⟨hok,e,R',Y,hD,h1,h2,hm⟩
  ·have hCR:¬ R' C:=fun hr=>(hm.new C hr).elim hn (fun e=>by omega)
   have hblk:=hm.keep (k:=C) (by omega) hn;refine .inl ⟨hok,e,cT (cC C) R',⟨R',hK',rfl,hB,hCR,by have:=hm.size;omega,by rw [ZY];omega,?_,?_,?_⟩,hM1.trans (hm.mono (fun k e=>.inr e) (fun k e=>e.elim (fun e=>.inr (.inl e)) .inl))⟩
   ·rw [ZR (a:=C) hblk,ZW _ _ _ _ (by simp)];exact c0
   ·rw [ZR (a:=zq C 1) hblk,ZE _ _ _ c1,ZY,aP s];congr 2;omega
   ·intro o;rw [ZH (a:=zq C o) hblk,ZL];exact fz o
  ·exact .inr ⟨hok,e,R',Y,hD,h1,h2,hM1.trans (hm.mono (fun k e=>.inr e) (fun k e=>.inl e))⟩
theorem nv (d:jw B K D ok M ty q q' f et ev) (hM:M<=2000000000) (w:World) (S:Bl) (Fb C:Nat) (begins:List Nat) (sizes:List (Int×Int)) (X:List UInt8) (h:aX K B Fb C ty q begins sizes X w S) (hB:B<=w.heap.size) (ht:bU B w) (hl:begins.length<=1000000) (hX:X.length+100<=M) (hok0:ok (X++aL (begins.length+1))):
  CP 182 #[zp Fb] w (aM D ok et ev S w X (aL (begins.length+1)) (fun w' S'=>aX K B Fb C ty q (begins++[X.length]) sizes (X++aL (begins.length+1)) w' S')):=by
 have hTF:=aX.thing d.thing Fb C ty q begins sizes X;have hbel:∀ {S' w'},Mv S w S' w'->Below B w w':=fun m=>m.below (fun k e=>hTF.ge h e) hB
 obtain ⟨S1,hF,_,kF⟩:=h.fst (CK.thing d.thing C 0 ty q X);obtain ⟨S2,hC,_,_⟩:=h.snd (FB.thing B Fb C begins sizes);have hcnt:=hC.count;obtain ⟨a1,k1,a2,k2,c0,c1,c2,fz⟩:=hF.read;obtain ⟨vb,cb,ow,ne,kb⟩:=hF.begin X.length;have hFb:Fb < w.heap.size:=ZD w _ c0;rw [Nat.sub_zero] at hcnt;refine kS w Fb C X.length begins vb _ hB c0 cb fz hFb hcnt (by omega) hl ow ne ?_;intro w1 hg1 v' w' hg ho hat;obtain ⟨S1',hF',hm'⟩:=kb w1 hg1 v' w' hg ho hat;obtain ⟨S',hs',hm⟩:=kF _ _ _ hF' hm';have hB8:B<=(w'.setCell (zq Fb 1) v').heap.size:=ZU hB hm.size;refine ⟨ht.on (hbel hm),?_⟩;intro w8 hg8;have hs8:=(ah.thing (FB.thing B Fb C (begins++[X.length]) sizes) (CK.thing d.thing C 0 ty q X)).grow hs' hg8;obtain ⟨S8,hC8,hs88,k8⟩:=hs8.snd (FB.thing B Fb C (begins++[X.length]) sizes);have hw:=(d.count hM C 0).write w8 S8 X ⟨(aL (begins.length+1)).toArray⟩ hC8 (by
  have:=ar ((begins.length+1:Nat):Int) (by omega) (by omega);rw [ae,aL,ZY];simp only [ZX,ZS];omega) (by simpa using hok0)
 refine hw.mono ?_;intro e w9 hS;obtain ⟨v,rfl⟩:=hS.val;exact ⟨v,rfl,aM.pre (hm.trans (Mv.grow hg8 S')) (aM.lift hs88 (fun S9 c m9=>k8 _ w9 S9 c m9) hS)⟩
theorem aX.writeM (d:jw B K D ok M ty q q' f et ev) (hM:M<=2000000000) {w:World} {S:Bl} {Fb C:Nat} {begins:List Nat} {sizes:List (Int×Int)} {X:List UInt8} (h:aX K B Fb C ty q begins sizes X w S) (s:ByteArray) (hs:X.length+s.size<=M) (hok0:ok (X++s.data.toList)):
  CP 128 #[zp C,s] w (aM D ok et ev S w X s.data.toList (aX K B Fb C ty q begins sizes (X++s.data.toList))):=by
 obtain ⟨S8,hC8,hs88,k8⟩:=h.snd (FB.thing B Fb C begins sizes);refine ((d.count hM C 0).write w S8 X s hC8 hs hok0).mono ?_;intro e w9 hS;exact aM.lift hs88 (fun S9 c m9=>k8 _ w9 S9 c m9) hS
theorem aX.belM (d:jw B K D ok M ty q q' f et ev) {w w':World} {S S':Bl} {Fb C:Nat} {begins:List Nat} {sizes:List (Int×Int)} {X:List UInt8} (h:aX K B Fb C ty q begins sizes X w S) (hB:B<=w.heap.size) (m:Mv S w S' w'):Below B w w':=m.below (fun _ e=>(aX.thing d.thing Fb C ty q begins sizes X).ge h e) hB
theorem zy (d:jw B K D ok M ty q q' f et ev) (hM:M<=2000000000) (w:World) (S:Bl) (Fb C:Nat) (begins:List Nat) (sizes:List (Int×Int)) (X:List UInt8) (body:ByteArray) (h:aX K B Fb C ty q begins sizes X w S) (hB:B<=w.heap.size) (ht:bU B w) (hl:begins.length<=1000000) (hX:X.length+body.size+200<=M) (hok0:ok (X++aK (begins.length+1) body.data.toList)):
  CP 139 #[zp Fb,body] w (aM D ok et ev S w X (aK (begins.length+1) body.data.toList) (aX K B Fb C ty q (begins++[X.length]) sizes (X++aK (begins.length+1) body.data.toList))):=by
 have hobl:(aL (begins.length+1)).length<=28:=by
  have:=ar ((begins.length+1:Nat):Int) (by omega) (by omega);unfold aL;rw [ZY];simp only [ZX,ZS];omega
 unfold aK at hok0 ⊢;have hok1:ok (X++aL (begins.length+1)):=d.okp _ (body.data.toList++eh) (by rw [ZT];exact hok0);obtain ⟨ob1,hob⟩:∃ o,o=aL (begins.length+1):=⟨_,rfl⟩;have HBO:=ai (nv d hM w S Fb C begins sizes X h hB ht hl (by omega) hok1);rw [<-hob] at HBO hobl hok0 ⊢;obtain ⟨bg,hbg⟩:∃ bg,bg=begins++[X.length]:=⟨_,rfl⟩;rw [<-hbg] at HBO ⊢;clear hob hbg;have hbs:body.size<=2000000000:=by omega
 have HE:Hid ((body++⟨#[10,101,110,100,111,98,106,10]⟩:ByteArray).data.toList=body.data.toList++eh):=by show _=_;rw [ByteArray.data_append];simp [eh]
 have hes:(body++⟨#[10,101,110,100,111,98,106,10]⟩:ByteArray).size=body.size+8:=by rw [ByteArray.size_append];rfl
 go_enter func139,ntmps139
 go_wp2_with fail
 refine HBO.out.mono ?_;rintro e w1 (⟨hok,rfl,S1,h1,m1⟩ | ⟨hok,rfl,S1,Y,hD,p1,p2,m1⟩)
 ·have HW:=ai (aX.writeM d hM h1 (body++⟨#[10,101,110,100,111,98,106,10]⟩) (by rw [ZY,hes];omega) (by rw [HE.out,ZT];exact hok0));obtain ⟨a1,k1,a2,k2,c0,c1,c2,fz,hc,hFb,hCb⟩:=h1.facts;clear h1 c1 c2 fz hc;go_wp2_with fail
  refine HW.out.mono ?_;intro e w2 hS;obtain ⟨v,rfl⟩:=hS.val;rw [HE.out] at hS;have HS:=ai (aM.seq m1 hS);clear hS HW;go_wp2
  first
   | (rw [<-ZT X];exact HS.out)
   | (go_ret;rw [<-ZT X];exact HS.out)
 ·go_wp2;go_ret;exact aM.fail1 d.okp hok hD p1 p2 m1
theorem Cn (d:jw B K D ok M ty q q' f et ev) (hM:M<=2000000000) (w:World) (S:Bl) (Fb C:Nat) (begins:List Nat) (sizes:List (Int×Int)) (X:List UInt8) (h:aX K B Fb C ty q begins sizes X w S) (hX:X.length+200<=M) (hok0:ok (X++eW X)):
  CP 85 #[zp Fb] w (aM D ok et ev S w X (eW X) (aX K B Fb C ty q begins sizes (X++eW X))):=by
 obtain ⟨a1,k1,a2,k2,c0,c1,c2,fz,hc,hFb,hCb⟩:=h.facts;have HQ:=ai (eE w C (X.length:Int) hc);by_cases h0:X=[]
 ·have HW:=ai (aX.writeM d hM h ⟨bi.toArray⟩ (by simp [ByteArray.size,bi];omega) (by rw [eW,ZM h0] at hok0;simpa using hok0));unfold eW;rw [ZM h0];have hlen:(X.length:Int)=0:=by rw [h0];rfl
  rw [hlen] at HQ;unfold bi at HW;go_enter func85,ntmps85
  go_wp2_with fail
  refine HQ.out.mono ?_;rintro e w1 ⟨rfl,rfl⟩;go_wp2_with fail
  refine HW.out.mono ?_;intro e w2 hS;obtain ⟨v,rfl⟩:=hS.val;have HS:=ai hS;clear hS HW;go_wp2
  first
   | exact HS.out
   | (go_ret;exact HS.out)
 ·unfold eW;rw [ZO h0];have hpos:(0:Int) < (X.length:Int):=by have:=Yp.2 h0;omega
  have hok:ok X:=by
   obtain ⟨S1,S2,hF,⟨R,hK,_⟩,_⟩:=h;exact d.kok hK
  go_enter func85,ntmps85
  go_wp2_with fail
  refine HQ.out.mono ?_;rintro e w1 ⟨rfl,rfl⟩;go_wp2;go_ret;exact aM.nil hok (by rw [YX];exact h) (Mv.refl _ _)
theorem uT (d:jw B K D ok M ty q q' f et ev) (hM:M<=2000000000) (w:World) (S:Bl) (Fb C:Nat) (begins:List Nat) (sizes:List (Int×Int)) (X:List UInt8) (n:Nat) (h:aX K B Fb C ty q begins sizes X w S) (hB:B<=w.heap.size) (ht:bU B w) (hl:begins.length<=1000000) (hX:X.length+1000<=M) (hn:n<=2000000000) (hok0:ok (X++(fC++aK (begins.length+1) (Lib.itoa (n:Int))))):
  CP 166 #[zp Fb,n] w (aM D ok et ev S w X (fC++aK (begins.length+1) (Lib.itoa (n:Int))) (aX K B Fb C ty q (begins++[X.length+18]) sizes (X++(fC++aK (begins.length+1) (Lib.itoa (n:Int)))))):=by
 obtain ⟨a1,k1,a2,k2,c0,c1,c2,fz,hc,hFb,hCb⟩:=h.facts;have HW:=ai (aX.writeM d hM h ⟨fC.toArray⟩ (by simp [ByteArray.size,fC];omega) (d.okp _ (aK (begins.length+1) (Lib.itoa (n:Int))) (by simpa [ZT] using hok0)));have hbel:=fun {S' w'} (m:Mv S w S' w')=>aX.belM d h hB m
 have hlen:fC.length=18:=rfl;have hi:=ar (n:Int) (by omega) (by omega);have HI:=ai (fun (w1:World) (ht1:bU B w1)=>bp B w1 (n:Int) (by omega) (by omega) ht1);obtain ⟨si,hsi⟩:∃ si,Lib.itoa (n:Int)=si:=⟨_,rfl⟩;rw [hsi] at HI hi hok0 ⊢;clear hsi;have HW2:Hid (CP 128 #[zp C,.string ⟨#[10,101,110,100,115,116,114,101,97,109,10,101,110,100,111,98,106,10]⟩] w (aM D ok et ev S w X fC (aX K B Fb C ty q begins sizes (X++fC)))):=by
  have:=HW.out;rw [show (⟨fC.toArray⟩:ByteArray).data.toList=fC by simp] at this;exact this
 clear HW;go_enter func166,ntmps166
 go_wp2_with fail
 refine HW2.out.mono ?_;rintro e w1 (⟨hok,rfl,S1,h1,m1⟩ | ⟨hok,rfl,S1,Y,hD,p1,p2,m1⟩)
 ·have hB1:B<=w1.heap.size:=ZU hB m1.size;have ht1:bU B w1:=ht.on (hbel m1);have HX:=ai (HI.out w1 ht1);clear HW2 HI c0 c1 c2 fz hc;go_wp2_with fail
  refine HX.out.mono ?_;rintro e w2 ⟨rfl,hg2⟩;have h2:=(aX.thing d.thing Fb C ty q begins sizes (X++fC)).grow h1 hg2;have HO:=ai (zy d hM w2 S1 Fb C begins sizes (X++fC) ⟨si.toArray⟩ h2 (ZU hB1 hg2.size) (ht1.on (hg2.mono hB1)) hl (by rw [ZY,hlen,ae];omega) (by rw [ZT];exact hok0));clear HX h1 h2;go_wp2_with fail
  refine HO.out.mono ?_;intro e w3 hS;obtain ⟨v,rfl⟩:=hS.val;have HS:=ai (aM.seq (m1.trans (Mv.grow hg2 S1)) hS);clear hS HO;go_wp2
  first
   | (rw [<-ZT X, <-hlen, <-ZY];exact HS.out)
   | (go_ret;rw [<-ZT X, <-hlen, <-ZY];exact HS.out)
 ·go_wp2;go_ret;exact aM.fail1 d.okp hok hD p1 p2 m1
theorem rx (d:jw B K D ok M ty q q' f et ev) (hM:M<=2000000000) (w:World) (S:Bl) (Fb C:Nat) (begins:List Nat) (sizes:List (Int×Int)) (X:List UInt8) (W H:Int) (h:aX K B Fb C ty q begins sizes X w S) (hB:B<=w.heap.size) (ht:bU B w) (hl:begins.length<=100000) (hz:sizes.length<=100000) (hX:X.length+1000<=M) (hok0:ok (X++(eW X++(aL (begins.length+1)++cX (begins.length+2))))):
  CP 167 #[zp Fb,W,H] w (aM D ok et ev S w X (eW X++(aL (begins.length+1)++cX (begins.length+2))) (aX K B Fb C ty q (begins++[X.length+(eW X).length]) (sizes++[(W,H)]) (X++(eW X++(aL (begins.length+1)++cX (begins.length+2)))))):=by
 have hbel:=fun {S' w'} (m:Mv S w S' w')=>aX.belM d h hB m
 have hbl:(eW X).length<=9:=by unfold eW;split <;> simp [bi]
 have hobl:(aL (begins.length+1)).length<=28:=by
  have:=ar ((begins.length+1:Nat):Int) (by omega) (by omega);unfold aL;rw [ZY];simp only [ZX,ZS];omega
 have HB:=ai (Cn d hM w S Fb C begins sizes X h (by omega) (d.okp _ _ (by rw [ZT];exact hok0)));obtain ⟨b0,hb0⟩:∃ b,eW X=b:=⟨_,rfl⟩;rw [hb0] at HB hbl hok0 ⊢;clear hb0;go_enter func167,ntmps167
 go_wp2_with fail
 refine HB.out.mono ?_;rintro e w1 (⟨hok,rfl,S1,h1,m1⟩ | ⟨hok,rfl,S1,Y,hD,p1,p2,m1⟩)
 rotate_left
 ·go_wp2;go_ret;exact aM.fail1 d.okp hok hD p1 p2 m1
 have hB1:B<=w1.heap.size:=ZU hB m1.size;have ht1:bU B w1:=ht.on (hbel m1);have HO:=ai (nv d hM w1 S1 Fb C begins sizes (X++b0) h1 hB1 ht1 (by omega) (by rw [ZY];omega) (d.okp _ (cX (begins.length+2)) (by simpa [ZT] using hok0)));have hbel1:=fun {S' w'} (m:Mv S1 w1 S' w')=>aX.belM d h1 hB1 m
 clear HB;go_wp2_with fail
 refine HO.out.mono ?_;rintro e w2 (⟨hok2,rfl,S2,h2,m2⟩ | ⟨hok2,rfl,S2,Y,hD,p1,p2,m2⟩)
 rotate_left
 ·go_wp2;go_ret;exact aM.seq m1 (aM.fail1 d.okp hok2 hD p1 p2 m2)
 have hB2:B<=w2.heap.size:=ZU hB1 m2.size;have ht2:bU B w2:=ht1.on (hbel1 m2);clear HO;obtain ⟨a1,k1,a2,k2,c0,c1,c2,fz,hc,hFb,hCb⟩:=h2.facts;rw [ZY,XO] at c1;have hnl:=gJ ((begins.length+2:Nat):Int) (by omega) (by omega);have hfl:(cX (begins.length+2)).length<=80:=by
  unfold cX;rw [ZY,ZY];simp only [ZX,ZS];omega
 have HWr:=ai (fun (w1:World) (hG:af w2 w1)=>aX.writeM d hM ((aX.thing d.thing Fb C ty q _ _ _).grow h2 hG) ⟨(cX (begins.length+2)).toArray⟩ (by rw [ZY,ZY,ae];omega) (by simpa [ZT] using hok0));have HN:=ai (fun (w1:World) (hG:af w2 w1)=>dD w1 Fb (begins.length+1) k1 a1 ((Zg hG (p:=zq Fb 1) hFb).trans c1) (by omega));have HI:=ai (fun (w1:World) (hG:af w2 w1)=>jY B w1 ((begins.length+2:Nat):Int) (by omega) (by omega) (ht2.on (Zb hG hB2)));have HF:Hid (cX (begins.length+2)=[60,60,32,47,70,105,108,116,101,114,32,47,70,108,97,116,101,68,101,99,111,100,101,32,47,76,101,110,103,116,104,32]++aD ((begins.length+2:Nat):Int)++[32,62,62,10,115,116,114,101,97,109,10]):=rfl;have HH2:=ai h2;clear h2 c1 c2 fz hc;obtain ⟨fl,hfe⟩:∃ fl,cX (begins.length+2)=fl:=⟨_,rfl⟩;rw [hfe] at HWr HF hfl;have HFe:=ai hfe;obtain ⟨sn,hsn⟩:∃ sn,aD ((begins.length+2:Nat):Int)=sn:=⟨_,rfl⟩;rw [hsn] at HI HF hnl;clear hfe hsn;have hz1:=ae sn;have hz2:=ae ([60,60,32,47,70,105,108,116,101,114,32,47,70,108,97,116,101,68,101,99,111,100,101,32,47,76,101,110,103,116,104,32]++sn);rw [ZY] at hz2;simp only [ZX,ZS] at hz2;obtain ⟨s7,hs7⟩:∃ s7,[60,60,32,47,70,105,108,116,101,114,32,47,70,108,97,116,101,68,101,99,111,100,101,32,47,76,101,110,103,116,104,32]++sn=s7:=⟨_,rfl⟩;rw [hs7] at HF hz2;have HA1:Hid ((⟨#[60,60,32,47,70,105,108,116,101,114,32,47,70,108,97,116,101,68,101,99,111,100,101,32,47,76,101,110,103,116,104,32]⟩:ByteArray)++⟨sn.toArray⟩=⟨s7.toArray⟩):=by
  show _=_
  rw [<-hs7];exact an [60,60,32,47,70,105,108,116,101,114,32,47,70,108,97,116,101,68,101,99,111,100,101,32,47,76,101,110,103,116,104,32] sn
 have HA2:=ai (an s7 [32,62,62,10,115,116,114,101,97,109,10]);clear hs7;go_wp2;refine ap 9 45 (ag [zp Fb,zp Fb,zp Fb,zp C,zp Fb,((begins.length+1+1:Nat):Int),.string ⟨sn.toArray⟩,.string ⟨s7.toArray⟩,.string ⟨fl.toArray⟩]) (by kernel_rfl) rfl (by kernel_rfl) aq ?_;simp only [TD];refine ⟨fun w3 hG hd=>?_,fun v0=>?_⟩
 ·go_wp2;exact RG
 refine ⟨fun w3 hG hd=>?_,fun v1=>?_⟩
 ·simp [ag,Region.binds] at hd;subst hd;go_wp2;exact RG
 refine ⟨fun w3 hG hd=>?_,fun v2=>?_⟩
 ·simp [ag,Region.binds] at hd;subst hd;go_wp2;exact RG
 refine ⟨fun w3 hG hd=>?_,fun v3=>?_⟩
 ·have c:=(Zg hG (p:=Fb) hFb).trans c0;simp [ag,Region.binds] at hd;subst hd;go_wp2;exact RG
 refine ⟨fun w3 hG hd=>?_,fun v4=>?_⟩
 ·go_wp2;exact RG
 refine ⟨fun w3 hG hd=>?_,fun v5=>?_⟩
 ·have HX:=ai (HN.out w3 hG);simp [ag,Region.binds] at hd;subst hd;go_wp2_with fail
  refine HX.out.mono ?_;rintro e w4 ⟨rfl,rfl⟩;go_wp2;exact RG
 refine ⟨fun w3 hG hd=>?_,fun v6=>?_⟩
 ·have HX:=ai (HI.out w3 hG);simp [ag,Region.binds] at hd;subst hd;go_wp2_with fail
  refine HX.out.mono ?_;rintro e w4 ⟨rfl,hB4⟩;go_wp2;exact ⟨rfl,hB4⟩
 refine ⟨fun w3 hG hd=>?_,fun v7=>?_⟩
 ·simp [ag,Region.binds] at hd;subst hd;go_wp2;exact ⟨by unfold ag;exact congrArg Value.string HA1.out,af.refl _⟩
 refine ⟨fun w3 hG hd=>?_,fun v8=>?_⟩
 ·simp [ag,Region.binds] at hd;subst hd;go_wp2;exact ⟨by unfold ag;rw [HF.out];exact congrArg Value.string HA2.out,af.refl _⟩
 intro w3 hG hd;have d3:=hd 3 (by omega);have d8:=hd 8 (by omega);simp [ag] at d3 d8;subst d3 d8;have HX:=ai (HWr.out w3 hG);clear hd HI HN HWr HA1 HA2 HF hz1 hz2 hnl c0;go_wp2_with fail
 refine HX.out.mono ?_;rintro e w4 (⟨hok3,rfl,S3,h3,m3⟩ | ⟨hok3,rfl,S3,Y,hD,p1,p2,m3⟩)
 rotate_left
 ·go_wp2;go_ret;rw [HFe.out];exact aM.seq m1 (aM.seq m2 (aM.pre (Mv.grow hG S2) (.inr ⟨hok3,rfl,S3,Y,hD,p1,p2,m3⟩)))
 obtain ⟨S1',hF3,hsub3,kF3⟩:=h3.fst (CK.thing d.thing C 0 ty q _);obtain ⟨vz,cz,ow,ne,kz⟩:=hF3.sized (W,H);have hFb3:Fb < w4.heap.size:=ZD w4 _ cz;have fz3:=hF3.read.choose_spec.choose_spec.choose_spec.choose_spec.2.2.2;have f2:=fz3 2;obtain ⟨az,kzc,hform⟩:∃ ad cap,vz=.slice ad sizes.length cap:=by
  rcases ow.2 with ⟨hu,hz⟩ | ⟨gg,cap,cur,hu,_⟩
  ·exact ⟨none,0,by rw [hu,hz]⟩
  ·exact ⟨_,_,hu⟩
 subst hform;have hB4:B<=w4.heap.size:=ZU hB2 (ZU hG.size m3.size);have HK:=ai (fun w1 hg1 v' w' hg ho hat=>(kz w1 hg1 v' w' hg ho hat));have HKF:=ai kF3;clear kz kF3 hF3 h3;obtain ⟨Lz,hLz⟩:∃ Lz,sizes.length=Lz:=⟨_,rfl⟩;rw [hLz] at cz ow ne HK hz;clear hLz HX;go_wp2_with (at_builtin;refine bQ rfl (.tmp 37) (.tmp 41) 164 rfl 224 (.agg #[oz,oz]) 2 16 Tryz.infoSz rfl (by omega) underlying164 B _ Lz (rN sizes) rfl (ow.alloc _) (by simp;omega) ⟨w4,0,none⟩ 1 rfl [.int .i64 W,.int .i64 H] rfl (AI _ _ _ _) (by intro u hu;simp at hu;rcases hu with rfl | rfl <;> rfl) (by omega) (by omega) ?_)
 intro v7 w7 hO7 hg7 hat7;have HX:=ai (HK.out _ ((ZQ _ w4).alloc (ZV _) _) v7 w7 hg7 hO7 (by simpa using hat7));have hform7:∃ ad L cap,v7=.slice ad L cap:=by
  rcases hO7.2 with ⟨hu,_⟩ | ⟨gg,cap,cur,hu,_⟩
  ·exact ⟨_,_,_,hu⟩
  ·exact ⟨_,_,_,hu⟩
 obtain ⟨ad7,L7,cap7,hv7⟩:=hform7;rw [hv7] at HX ⊢;clear hv7 HK;have kb:=(hg7.block Fb (by simp;omega) (fun e=>ne e.symm)).trans (YQ w4 _ Fb hFb3);have k2:=(ZR (a:=zq Fb 2) kb).trans cz;have kf2:=(ZH (a:=zq Fb 2) kb).trans f2;clear kb cz f2 ow hO7 hg7 hat7;go_wp2;go_ret;obtain ⟨S5,hF5,m5⟩:=HX.out;obtain ⟨S6,h6,m6⟩:=HKF.out _ _ _ hF5 m5;rw [HFe.out];refine aM.seq m1 (aM.seq m2 (aM.pre (Mv.grow hG S2) (.inl ⟨hok3,rfl,S6,?_,m3.trans m6⟩)));rw [<-ZT X, <-ZT (X++b0), <-ZY];exact h6
end
section
variable {K D:World->Bl->List UInt8->Prop} {ok:List UInt8->Prop} {B M:Nat} {ty:TypeId} {q q':Value} {f:FuncId} {et:TypeId} {ev:Value}
def BB (X:List UInt8) (n:Nat) (Z:List UInt8):List UInt8:=eW X++(aL (n+1)++cX (n+2))++(Z++(fC++aK (n+2) (Lib.itoa (Z.length:Int))))
theorem vV (d:jw B K D ok M ty q q' f et ev) (hM:M<=2000000000) (w:World) (S:Bl) (Fb C:Nat) (begins:List Nat) (sizes:List (Int×Int)) (X:List UInt8) (W H:Int) (Z:ByteArray) (h:aX K B Fb C ty q begins sizes X w S) (hB:B<=w.heap.size) (ht:bU B w) (hl:begins.length<=100000) (hz:sizes.length<=100000) (hX:X.length+Z.size+3000<=M) (hok0:ok (X++BB X begins.length Z.data.toList)):
  CP 145 #[zp Fb,W,H,Z] w fun e w'=>e=.returned .nilIface/\∃ S',aX K B Fb C ty q (begins++[X.length+(eW X).length]++[(X++(eW X++(aL (begins.length+1)++cX (begins.length+2)))++Z.data.toList).length+18]) (sizes++[(W,H)]) (X++BB X begins.length Z.data.toList) w' S'/\Mv S w S' w':=by
 unfold BB at hok0 ⊢;have hbl:(eW X).length<=9:=by unfold eW;split <;> simp [bi]
 have hobl:(aL (begins.length+1)).length<=28:=by
  have:=ar ((begins.length+1:Nat):Int) (by omega) (by omega);unfold aL;rw [ZY];simp only [ZX,ZS];omega
 have hfl:(cX (begins.length+2)).length<=80:=by
  have hnl:=gJ ((begins.length+2:Nat):Int) (by omega) (by omega);unfold cX;rw [ZY,ZY];simp only [ZX,ZS];omega
 have hz0:Z.data.toList.length=Z.size:=aP Z;obtain ⟨b0,hb0⟩:∃ b,eW X++(aL (begins.length+1)++cX (begins.length+2))=b:=⟨_,rfl⟩;have hb0l:b0.length<=200:=by rw [<-hb0];simp only [ZY];omega
 have ok1:ok (X++b0):=d.okp _ (Z.data.toList++(fC++aK (begins.length+2) (Lib.itoa (Z.data.toList.length:Int)))) (by rw [hb0] at hok0;simpa [ZT] using hok0);have ok2:ok (X++b0++Z.data.toList):=d.okp _ (fC++aK (begins.length+2) (Lib.itoa (Z.data.toList.length:Int))) (by rw [hb0] at hok0;simpa [ZT] using hok0);have ok3:ok (X++b0++Z.data.toList++(fC++aK (begins.length+2) (Lib.itoa (Z.size:Int)))):=by rw [hb0,hz0] at hok0;simpa [ZT] using hok0
 have HB:=ai (rx d hM w S Fb C begins sizes X W H h hB ht hl hz (by omega) (by rw [hb0];exact ok1));rw [hb0] at HB ⊢;obtain ⟨bg,hbg⟩:∃ bg,begins++[X.length+(eW X).length]=bg:=⟨_,rfl⟩;have hbgl:bg.length=begins.length+1:=by rw [<-hbg];simp
 rw [hbg] at HB ⊢;have hbel:=fun {S' w'} (m:Mv S w S' w')=>aX.belM d h hB m
 clear hok0 hbg hb0 h;go_enter func145,ntmps145
 go_wp2_with fail
 refine HB.out.mono ?_;rintro e w1 (⟨_,rfl,S1,h1,m1⟩ | ⟨hno,_⟩)
 rotate_left
 ·exact absurd ok1 hno
 have hB1:B<=w1.heap.size:=ZU hB m1.size;have HW:=ai (aX.writeM d hM h1 Z (by rw [ZY];omega) ok2);obtain ⟨a1,k1,a2,k2,c0,c1,c2,fz,hc,hFb,hCb⟩:=h1.facts;clear HB h1 c1 c2 fz hc;go_wp2_with fail
 refine HW.out.mono ?_;rintro e w2 (⟨_,rfl,S2,h2,m2⟩ | ⟨hno,_⟩)
 rotate_left
 ·exact absurd ok2 hno
 have hE:=uT d hM w2 S2 Fb C bg (sizes++[(W,H)]) (X++b0++Z.data.toList) Z.size h2 (ZU hB1 m2.size) (ht.on (hbel (m1.trans m2))) (by omega) (by simp only [ZY,hz0];omega) (by omega) (by rw [hbgl];exact ok3);rw [hbgl] at hE;have HE:=ai hE;clear hE HW h2 c0;go_wp2_with fail
 refine HE.out.mono ?_;rintro e w3 (⟨_,rfl,S3,h3,m3⟩ | ⟨hno,_⟩)
 rotate_left
 ·exact absurd ok3 hno
 have HS:=ai h3;clear h3 HE;go_wp2;go_ret;refine ⟨rfl,S3,?_,(m1.trans m2).trans m3⟩;have:=HS.out;rw [hz0];simpa [ZT] using this
end
section
variable {K D:World->Bl->List UInt8->Prop} {ok:List UInt8->Prop} {B:Nat} {ty:TypeId} {q q':Value} {f:FuncId} {et:TypeId} {ev:Value}
theorem EM (d:jw B K D ok 2000000000 ty q q' f et ev) (Fb C:Nat) (w:World) (S:Bl) (xs:List iB) (X:List UInt8) (ti:ByteArray) (ms:List (ByteArray×Nat)) (adm:Option Addr) (capm:Nat) (hx:∀ x∈xs,kx x) (hX:(X=[]/\xs=[])\/X=aC (aA xs)) (hxl:xs.length<=80) (hti:ti.size<=100) (hm:ms.length<=20) (hms:∀ m∈ms,m.1.size<=100/\m.2<=80) (hB:B<=w.heap.size) (ht:bU B w) (hok0:ok (fO (aA xs) (aQ xs) (ax ms) ti.data.toList))
  (hLm:fB (.slice adm ms.length capm) ms.length (iz ms) w) (hoff:0 < ms.length->∀ b,adm=some ⟨b,0,none⟩->¬ S b) (h:aX K B Fb C ty q (be 9 0 (aA xs)) (aQ xs) X w S):
  CP 95 #[zp Fb,ti,.slice adm ms.length capm] w fun e w'=>e=.returned .nilIface/\∃ bg S',aX K B Fb C ty q bg (aQ xs) (fO (aA xs) (aQ xs) (ax ms) ti.data.toList) w' S'/\Mv S w S' w':=by
 have hzl:(aA xs).length=xs.length:=by simp [aA]
 have hsl:(aQ xs).length=xs.length:=by simp [aQ]
 have hup:=cN hx hxl;have hbeg:=fX hX;have hXl:X.length<=100000000:=by
  have h2:(X++eW X).length<=100000000:=by rw [hbeg];exact hup
  simp at h2;omega
 have hzs:∀ z∈aQ xs,bG z.1 1 14400000/\bG z.2 1 14400000:=by
  intro z hz;simp only [aQ,YC,Yn] at hz;obtain ⟨x,hxm,rfl⟩:=hz;exact ⟨(hx x hxm).2.2.2.2.1,(hx x hxm).2.2.2.2.2⟩
 have hfont:cK (aA xs)=2*xs.length+1:=by rw [cK,hzl]
 have hms2:∀ m∈ax ms,m.1.length<=100/\m.2<=80:=by
  intro m hmm;simp only [ax,YC] at hmm;obtain ⟨y,hy,rfl⟩:=hmm;have:=hms y hy;exact ⟨by show y.1.data.toList.length<=100;rw [aP];omega,this.2⟩
 obtain ⟨hbl,hbl1,hbs,hcat,hinfo⟩:=fW (cK (aA xs)) (aQ xs) (ax ms) ti.data.toList (by omega) (by omega) hzs (by rw [aP];omega) (by simp [ax];omega) hms2;have hcbl:(be 9 0 (aA xs)).length=2*xs.length:=by rw [dy,hzl]
 have hfile:fO (aA xs) (aQ xs) (ax ms) ti.data.toList=aC (aA xs)++xS (aA xs) (aQ xs) (ax ms) ti.data.toList:=rfl;have hend:xS (aA xs) (aQ xs) (ax ms) ti.data.toList=dv (aA xs) (aQ xs) (ax ms) ti.data.toList++iE (eH (aA xs) (aQ xs) (ax ms) ti.data.toList) (l7 (cK (aA xs)) (aQ xs) (ax ms) ti.data.toList) (fo (cK (aA xs)) (aQ xs) (ax ms) ti.data.toList) ((aC (aA xs)).length+(dv (aA xs) (aQ xs) (ax ms) ti.data.toList).length):=rfl;have hobj:dv (aA xs) (aQ xs) (ax ms) ti.data.toList=aF (cK (aA xs)) (cI (cK (aA xs)) (aQ xs) (ax ms) ti.data.toList):=rfl;have hbgs:eH (aA xs) (aQ xs) (ax ms) ti.data.toList=be 9 0 (aA xs)++aO (aC (aA xs)).length (cK (aA xs)) (cI (cK (aA xs)) (aQ xs) (ax ms) ti.data.toList):=rfl;obtain ⟨fi,hfi⟩:∃ fi,cK (aA xs)=fi:=⟨_,rfl⟩;rw [hfi] at hbl hbl1 hbs hcat hinfo hend hobj hbgs hfont;have HEN:∀ wx,B<=wx.heap.size->bU B wx->∀ adz capz,fB (.slice adz (aQ xs).length capz) (aQ xs).length (rN (aQ xs)) wx->fB (.slice adm ms.length capm) ms.length (iz ms) wx->_:=fun wx h1 h2 adz capz h3 h4=>pX wx B fi (aQ xs) ti ms adz adm capz capm h1 h2 (by omega) (by omega) hzs hti hm hms h3 h4
 obtain ⟨bod,hbod⟩:∃ b,cI fi (aQ xs) (ax ms) ti.data.toList=b:=⟨_,rfl⟩;obtain ⟨cat,hcat2⟩:∃ b,l7 fi (aQ xs) (ax ms) ti.data.toList=b:=⟨_,rfl⟩;obtain ⟨inf,hinf2⟩:∃ b,fo fi (aQ xs) (ax ms) ti.data.toList=b:=⟨_,rfl⟩;simp only [hbod,hcat2,hinf2] at hbl hbl1 hbs hcat hinfo hend hobj hbgs HEN;obtain ⟨U,hU⟩:∃ U,aC (aA xs)=U:=⟨_,rfl⟩;rw [hU] at hup hbeg hfile hend hbgs;obtain ⟨cb9,hcb9⟩:∃ c,be 9 0 (aA xs)=c:=⟨_,rfl⟩;have hcble:∀ x∈cb9,x<=U.length:=by
  intro x hxm;rw [<-hcb9] at hxm;have:=jk _ _ _ x hxm;rw [<-hU,aC,bi,ZY];simpa using this
 rw [hcb9] at hcbl hbgs h;have hobs:=fK bod fi (by omega) hbs;rw [hfile,hend,hobj,hbgs] at hok0 ⊢;have hokU:ok U:=d.okp _ _ hok0;have hokO:ok (U++aF fi bod):=d.okp _ _ (by rw [ZT];exact hok0);clear hfile hend hobj hbgs hbod hcat2 hinf2 hcb9 hfi hX hx hms2;have hT:∀ bg Y,aJ B (aX K B Fb C ty q bg (aQ xs) Y):=fun bg Y=>aX.thing d.thing _ _ _ _ _ _ _
 have tb:∀ {S1 w1},Mv S w S1 w1->Below B w w1:=fun m=>m.below (fun _ e=>(hT _ _).ge h e) hB
 have hol:∀ i,(aF fi (bod.take i)).length<=2040*310:=fun i=>by
  have:=fK (bod.take i) fi (by rw [Zk];omega) (fun b hb=>hbs b (List.mem_of_mem_take hb));rw [Zk] at this;omega
 have hxl2:(U++aF fi bod).length<=101000000:=by
  rw [ZY];omega
 have hbgl:(cb9++aO U.length fi bod).length=2*xs.length+bod.length:=by rw [ZY,fP,hcbl]
 have hrows:(bR (cb9++aO U.length fi bod)).length<=20*(cb9++aO U.length fi bod).length:=by
  have gen:∀ l:List Nat,(∀ x∈l,x<=4000000000)->(bR l).length<=20*l.length:=by
   intro l;induction l with
   | nil=>intro _;simp [bR]
   | cons a r ih=>
    intro h;have h1:=ih (fun x hx=>h x (by simp [hx]));have h2:=h_ a (by have:=h a (by simp);omega);simp only [bR,ux,ZY,ZX,ZS];omega
  refine gen _ fun x hx=>?_
  rcases Zu.1 hx with hx | hx
  ·have:=hcble x hx;omega
  ·have:=iT _ _ _ x hx;omega
 have l5:(fu (cb9++aO U.length fi bod)).length<=30000:=by
  have h9:=ar ((2*xs.length+bod.length+1:Nat):Int) (by omega) (by omega);rw [hbgl] at hrows;unfold fu;rw [hbgl];simp only [ZY,ZX,ZS];omega
 refine wW w Fb (2*xs.length) (2*xs.length+bod.length) (aQ xs).length ms.length capm bod.length C (U++aF fi bod).length adm ti (fun i=>bod.getD i []) (fu (cb9++aO U.length fi bod)) (iL (2*xs.length+bod.length+1) cat inf) (Lib.itoa ((U++aF fi bod).length:Int))
  (fun w1=>∃ S1,aX K B Fb C ty q cb9 (aQ xs) U w1 S1/\Mv S w S1 w1)
  (fun Eb eb cb i w1=>∃ S1,ah (zG B Eb (.slice (zp eb) bod.length cb) (fi:Int) (inf:Int) (cat:Int) bod) (aX K B Fb C ty q (cb9++aO U.length fi (bod.take i)) (aQ xs) (U++aF fi (bod.take i))) w1 S1/\Mv S w S1 w1)
  _ (by omega) (by omega) (by omega) (by omega) ?_ ?_ ?_ ?_ ?_ ?_ ?_ ?_ ?_ ?_ ?_ ?_ ?_ ?_
 ·exact l5
 ·have l1:=ar ((2*xs.length+bod.length+1:Nat):Int) (by omega) (by omega);have l2:=bm [47,82,111,111,116] (cat:Int) 5 (by simp) (by omega) (by omega);have l3:=bm [47,73,110,102,111] (inf:Int) 5 (by simp) (by omega) (by omega);simp only [iL,ZY,ZX,ZS];omega
 ·have:=ar ((U++aF fi bod).length:Int) (by omega) (by omega);omega
 ·refine (Cn d (ZV _) w S Fb C _ _ X h (by omega) (by rw [hbeg];exact hokU)).mono ?_;rintro e w' (⟨_,rfl,S',hf',m⟩ | ⟨hno,_⟩)
  ·rw [hbeg] at hf';exact ⟨rfl,S',hf',m⟩
  ·exact absurd (by rw [hbeg];exact hokU) hno
 ·rintro w1 ⟨S1,h1,m1⟩;obtain ⟨a1,k1,a2,k2,c0,c1,c2,_,_,hFb,_⟩:=aX.facts h1;rw [hcbl] at c1;exact ⟨hFb,a2,k2,c2,a1,k1,c1⟩
 ·rintro w1 ⟨S1,h1,m1⟩ adz cz hcz wx hbx;obtain ⟨vb,vz,_,c2,_,hLz⟩:=aX.rows h1;rw [hcz] at c2;have ev:=YM c2;rw [<-ev] at hLz;have hbw:=tb m1;have hz1:=hbw.size;have hz2:=hbx.size;rw [show 2*xs.length+1=fi from hfont.symm];refine (HEN wx (by omega) (ht.on (hbw.trans (hbx.mono (by omega)))) adz cz (hLz.on hbx) ((hLm.turned m1 hoff).on hbx)).mono ?_;rintro e w2 ⟨rfl,hb2,S2,h2⟩;obtain ⟨g,cap,hc1,hc2,h3⟩:=h2.named (B:=B) (by omega) (by omega);have hge:∀ k,S2 k->wx.heap.size<=k:=fun k hk=>(ED.thing wx.heap.size wx.heap.size _ _ _ _).ge h2 hk
  obtain ⟨h4,m4⟩:=ah.new (hT _ _) ((hT _ _).grow h1 hbx) h3 hb2 hge;refine ⟨_,g,cap,rfl,hc1,hc2,_,?_,(m1.trans (Mv.grow hbx _)).trans m4⟩;simpa [aO,aF] using h4
 ·rintro Eb eb cb w1 ⟨S1,⟨R1,R2,h1,_⟩,_⟩;exact h1.read.2.1
 ·rintro Eb eb cb i w1 hi ⟨S1,⟨R1,R2,h1,_⟩,_⟩;refine h1.read.2.2.2.2 i _ ?_;rw [ZJ,ZN hi];rfl
 ·rintro Eb eb cb i w1 hi ⟨S1,h1,m1⟩;have hbw:=tb m1;have hz1:=hbw.size;obtain ⟨R1,hF,_,back⟩:=ah.snd (zG.thing _ _ _ _ _ _ _) h1;have ei:bod.getD i []=bod[i]:=by simp [hi]
  have hbi:=hbs _ (Ys hi);have hlt:(bod.take i).length=i:=by rw [Zk];omega
  have hln:(cb9++aO U.length fi (bod.take i)).length+1=fi+i:=by rw [ZY,fP,hcbl,hlt];omega
  have hoki:ok (U++aF fi (bod.take i)++aK (fi+i) bod[i]):=by
   refine d.okp _ (aF (fi+(i+1)) (bod.drop (i+1))) ?_;have e:aF fi bod=aF fi (bod.take i)++(aK (fi+i) bod[i]++aF (fi+(i+1)) (bod.drop (i+1))):=by
    conv=>lhs;rw [<-Ym i bod,Zo hi]
    rw [dX,hlt];rfl
   rw [e] at hokO;simpa [ZT] using hokO
  have hO:=zy d (ZV _) w1 R1 Fb C _ _ _ ⟨(bod[i]).toArray⟩ hF (by omega) (ht.on hbw) (by omega) (by
   have:=hol i;rw [ZY,ae];omega) (by rw [hln];exact hoki)
  rw [hln] at hO;show CP _ #[_,.string ⟨(bod.getD i []).toArray⟩] w1 _
  rw [ei];refine hO.mono ?_;rintro e w' (⟨_,rfl,S',hf',m⟩ | ⟨hno,_⟩)
  ·obtain ⟨S2,h2,m2⟩:=back _ _ _ hf' m;refine ⟨rfl,S2,?_,m1.trans m2⟩;rw [Zv hi,fj,il,hlt];have e1:(U++aF fi (bod.take i)).length=U.length+(aF fi (bod.take i)).length:=ZY;rw [e1] at h2;simpa [ZT] using h2
  ·exact absurd hoki hno
 ·rintro Eb eb cb w1 ⟨S1,h1,m1⟩;rw [ZA (ZV _)] at h1;obtain ⟨R1,R2,_,h2,_⟩:=h1;obtain ⟨a1,k1,a2,k2,c0,c1,c2,_,cc,hFb,_⟩:=aX.facts h2;rw [hbgl] at c1;exact ⟨hFb,c0,cc,a1,k1,c1⟩
 ·rintro Eb eb cb w1 ⟨S1,h1,m1⟩ wx hbx;have hbw:=tb m1;exact bp B wx _ (by omega) (by omega) (ht.on (hbw.trans (hbx.mono (by have:=hbw.size;omega))))
 ·rintro Eb eb cb w1 ⟨S1,h1,m1⟩ wx hbx;have hbw:=tb m1;have hz1:=hbw.size;have hz2:=hbx.size;rw [ZA (ZV _)] at h1;obtain ⟨R1,R2,_,h2,_⟩:=h1;obtain ⟨_,_,_,_,_,_,_,_,_,hFb,_⟩:=aX.facts h2;obtain ⟨vb,vz,c1,_,hLb,_⟩:=aX.rows h2;obtain ⟨ad,cap,rfl,hc1,hc2,hcell⟩:=hLb;obtain ⟨b,rfl,hb,hcell⟩:=hcell (by rw [hbgl];omega);refine tL wx B Fb b _ cap _ rfl (by omega) (by omega) hc1 hc2 ?_ (by omega) (by omega) (by omega) (ht.on (hbw.trans (hbx.mono (by omega)))) ((hbx.cell (p:=zq Fb 1) hFb).trans c1) (fun i x hx=>(hbx.cell (p:=zq b i) hb).trans (hcell _ _ (Ae _ i x hx)));intro x hx;rcases Zu.1 hx with hx | hx
  ·have:=hcble x hx;omega
  ·have:=iT _ _ _ x hx;omega
 ·rintro Eb eb cb w1 ⟨S1,⟨R1,R2,h1,_⟩,m1⟩ wx hbx;have hbw:=tb m1;have hz1:=hbw.size;have hz2:=hbx.size;obtain ⟨hE,_,c2,c3,_⟩:=h1.read;have htx:∀ wy,af wx wy->bU B wy:=fun wy hg=>ht.on ((hbw.trans (hbx.mono (by omega))).trans (Zb hg (by omega)))
  have l1:=ar ((2*xs.length+bod.length+1:Nat):Int) (by omega) (by omega);have l2:=bm [47,82,111,111,116] (cat:Int) 5 (by simp) (by omega) (by omega);have l3:=bm [47,73,110,102,111] (inf:Int) 5 (by simp) (by omega) (by omega);exact pY wx Eb _ (inf:Int) (cat:Int) _ _ _ (by omega) (by omega) (by omega) (by omega) ((hbx.cell (p:=zq Eb 2) hE).trans c2) ((hbx.cell (p:=zq Eb 3) hE).trans c3) (fun wy hg=>bp B wy _ (by omega) (by omega) (htx wy hg)) (fun wy hg=>dF B wy [47,82,111,111,116] _ (by simp) (by omega) (by omega) (htx wy hg)) (fun wy hg=>dF B wy [47,73,110,102,111] _ (by simp) (by omega) (by omega) (htx wy hg))
 ·rintro Eb eb cb w1 ⟨S1,h1,m1⟩ wx hbx;rw [ZA (ZV _)] at h1;have h2:=(ah.thing (zG.thing _ _ _ _ _ _ _) (hT _ _)).grow h1 hbx;obtain ⟨R1,hF,_,back⟩:=ah.snd (zG.thing _ _ _ _ _ _ _) h2;have l1:=ar ((2*xs.length+bod.length+1:Nat):Int) (by omega) (by omega);have l2:=bm [47,82,111,111,116] (cat:Int) 5 (by simp) (by omega) (by omega);have l3:=bm [47,73,110,102,111] (inf:Int) 5 (by simp) (by omega) (by omega);have l4:=ar ((U.length+(aF fi bod).length:Nat):Int) (by omega) (by omega);have l6:(iL (2*xs.length+bod.length+1) cat inf).length<=1000:=by
   simp only [iL,ZY,ZX,ZS];omega
  have e9:U++(aF fi bod++iE (cb9++aO U.length fi bod) cat inf (U.length+(aF fi bod).length))=U++aF fi bod++(fu (cb9++aO U.length fi bod)++iL (2*xs.length+bod.length+1) cat inf++[115,116,97,114,116,120,114,101,102,10]++Lib.itoa ((U++aF fi bod).length:Int)++[10,37,37,69,79,70,10]):=by
   rw [iE,hbgl,ZY,ZT U]
  have hokE:=hok0;rw [e9] at hokE;refine (aX.writeM d (ZV _) hF _ (by rw [ae];simp only [ZY,ZX,ZS] at hxl2 ⊢;omega) (by simpa using hokE)).mono ?_;rintro e w' (⟨_,rfl,S',hf',m⟩ | ⟨hno,_⟩)
  ·obtain ⟨S2,h3,m3⟩:=back _ _ _ hf' m;obtain ⟨R3,R4,_,h4,_,hS2⟩:=h3;refine ⟨rfl,rfl,cb9++aO U.length fi bod,R4,?_,((m1.trans (Mv.grow hbx _)).trans m3).trans ⟨Fr.refl _ _,fun k hk=>.inl (by rw [hS2];exact .inr hk)⟩⟩;rw [e9];simpa using h4
  ·exact absurd (by simpa using hokE) hno
end
theorem yo (B m:Nat) (t0:List UInt8):jw B (wL B m t0) (fun _ _ _=>False) (fun X=>X <+:t0) 2000000000 190 (zp m) (zp m) 355 0 undef where
 thing:=(g6 B m t0).thing
 hn:=vI m
 hm:=sL m
 he:=qg
 okp:=fun X Y h=>(YT X Y).trans h
 kok:=by
  rintro w S X ⟨r,e,_⟩;exact ⟨r,e.symm⟩
 write:=by
  intro w S X s hK _ hok;refine ((g6 B m t0).write w S X s hK hok).mono ?_;rintro e w' ⟨rfl,S',h',m'⟩;exact .inl ⟨hok,rfl,S',h',m'⟩
theorem u7 (w:World) (ty:TypeId) (q:Value):CP 57 #[.iface ty q] w fun e w'=>e=.returned (zp (w.heap.size+1))/\w'=(w.alloc (.cells #[.iface ty q,oz] 208)).alloc (.cells #[zp w.heap.size,.slice none 0 0,.slice none 0 0] 166):=by
 have HN:=ai (nQ w ty q);go_enter func57,ntmps57
 go_wp2_with fail
 refine HN.out.mono ?_;rintro e w1 ⟨rfl,rfl⟩;go_wp2;go_ret;exact ⟨rfl,rfl⟩
theorem vq (w:World) (l n cap capc cm km mb fb:Nat) (s:ByteArray) (aa ac am:Option Addr) (ti:ByteArray) (cw:Nat->Int) (sh:Nat->Int×Int) (cs:Nat->ByteArray) (I:Nat->World->Prop) (J J2:World->Prop)
  (hn:n<=80) (hcap:n<=cap) (hcap2:cap<=9223372036854775807) (hcapc:n<=capc) (hcapc2:capc<=9223372036854775807)
  (HM:Hid (CP 144 #[s] w fun e w'=>e=.returned (zp mb)/\J w'))
  (HN:Hid (∀ wx,J wx->CP 57 #[.iface 190 (zp mb)] wx fun e w'=>e=.returned (zp fb)/\I 0 w'))
  (FC:Hid (∀ i wx,I i wx->wx.cell? l=some (.string ti)/\wx.cell? (zq l 1)=some (.slice aa n cap)/\wx.cell? (zq l 2)=some (.slice ac n capc)/\wx.cell? (zq l 3)=some (.slice am cm km)))
  (FS:Hid (∀ i wx,i < n->I i wx->∃ g gc,aa=some ⟨g,0,none⟩/\ac=some ⟨gc,0,none⟩/\wx.cell? (zq g (i*3))=some (.int .i64 (cw i))/\wx.cell? (zq g (i*3+1))=some (.int .i64 (sh i).1)/\wx.cell? (zq g (i*3+2))=some (.int .i64 (sh i).2)/\wx.cell? (zq gc i)=some (.string (cs i))))
  (HI:Hid (∀ i wx w',I i wx->Below wx wx w'->I i w'))
  (HP:Hid (∀ i wx,i < n->I i wx->CP 145 #[zp fb,.int .i64 (sh i).1,.int .i64 (sh i).2,.string (cs i)] wx fun e w'=>e=.returned .nilIface/\I (i+1) w'))
  (HE:Hid (∀ wx,I n wx->CP 95 #[zp fb,ti,.slice am cm km] wx fun e w'=>e=.returned .nilIface/\J2 w'))
  (HR:Hid (∀ wx,J2 wx->QE 146 #[zp mb] wx (.string ⟨#[]⟩))):
  CP 97 #[zp l,s] w fun e w'=>e=.returned true/\J2 w':=by
 go_enter func97,ntmps97
 go_wp2_with fail
 refine HM.out.mono ?_;rintro e w1 ⟨rfl,hJ⟩;go_wp2_with fail
 refine (HN.out _ hJ).mono ?_;rintro e w2 ⟨rfl,hI⟩;obtain ⟨c0,c1,c2,c3⟩:=FC.out 0 w2 hI;have HI0:=ai hI;clear HM HN hJ hI c0 c2 c3;go_wp2;go_loopg [19] (n+1) (fun k x wr=>∃ i:Nat,i<=n/\n - i < k/\x=.int .i64 (i:Int)/\I i wr)
 case atStart=>exact ⟨0,by omega,by omega,rfl,HI0.out⟩
 case round=>
  obtain ⟨i,hi,hk,rfl,hIi⟩:=hrel;by_cases hlt:i < n
  ·obtain ⟨g,gc,e1,e2,r0,r1,r2,r3⟩:=FS.out i wr hlt hIi;subst e1 e2;obtain ⟨c0,c1,c2,c3⟩:=FC.out i wr hIi;have HC:Hid (∀ wx,Below wr wr wx->CP 145 #[zp fb,.int .i64 (sh i).1,.int .i64 (sh i).2,.string (cs i)] wx fun e w'=>e=.returned .nilIface/\I (i+1) w'):=fun wx hb=>HP.out i wx hlt (HI.out i wr wx hIi hb)
   have hlr:=ZD wr _ c2;have hgr:=ZD wr _ r3;dsimp only at hlr hgr;have d1:decide ((i:Int) < (n:Int))=true:=by simp;omega
   generalize cw i=z0 at r0;obtain ⟨z1,hz1⟩:∃ z,(sh i).1=z:=⟨_,rfl⟩;obtain ⟨z2,hz2⟩:∃ z,(sh i).2=z:=⟨_,rfl⟩;obtain ⟨z3,hz3⟩:∃ z,cs i=z:=⟨_,rfl⟩;rw [hz1] at r1 HC;rw [hz2] at r2 HC;rw [hz3] at r3 HC;clear hz1 hz2 hz3 c0 c3;go_wp2_with fail
   have hba:Below wr wr (wr.alloc (Obj.cells #[Value.int IntKind.i64 z0,Value.int IntKind.i64 z1,Value.int IntKind.i64 z2] 193)):=(ZQ _ wr).alloc (ZV _) _;have a1:(wr.alloc (Obj.cells #[Value.int IntKind.i64 z0,Value.int IntKind.i64 z1,Value.int IntKind.i64 z2] 193)).cell? (zq wr 1)=z1:=(aS.alloc (B:=0) (vs:=[.int .i64 z0,.int .i64 z1,.int .i64 z2]) (YI _)).at 1 _ rfl;have a2:(wr.alloc (Obj.cells #[Value.int IntKind.i64 z0,Value.int IntKind.i64 z1,Value.int IntKind.i64 z2] 193)).cell? (zq wr 2)=z2:=(aS.alloc (B:=0) (vs:=[.int .i64 z0,.int .i64 z1,.int .i64 z2]) (YI _)).at 2 _ rfl;replace c2:=(hba.cell (p:=zq l 2) hlr).trans c2;replace r3:=(hba.cell (p:=zq gc i) hgr).trans r3;have HC2:Hid (∀ q,CP 145 #[zp fb,z1,z2,z3] ((wr.alloc (Obj.cells #[Value.int IntKind.i64 z0,Value.int IntKind.i64 z1,Value.int IntKind.i64 z2] 193)).drewN q) fun e w'=>e=.returned .nilIface/\I (i+1) w'):=fun q=>HC.out _ ⟨hba.os,hba.tape,hba.output,hba.size,hba.block⟩
   generalize wr.alloc (Obj.cells #[Value.int IntKind.i64 z0,Value.int IntKind.i64 z1,Value.int IntKind.i64 z2] 193)=wa at a1 a2 c2 r3 HC2 ⊢;refine bO 12 (by kernel_rfl) (by kernel_rfl) ?_;simp only [TD]
   repeat (go_big_quiet_step (fail))
   refine Yf ?_;intro _ hw';obtain ⟨nq2,hw''⟩:=hw';subst hw'';go_wp2_with fail
   refine (HC2.out nq2).mono ?_;rintro e w5 ⟨rfl,hI5⟩;clear HC HC2 a1 a2 c1 c2 r0 r1 r2 r3;go_wp2;go_roundg (gk - 1)
   case measure=>omega
   case rel=>exact ⟨i+1,by omega,by omega,by congr 1,hI5⟩
  ·have e:i=n:=by omega
   subst e;have d1:decide ((i:Int) < (i:Int))=false:=by simp
   obtain ⟨c0,c1,c2,c3⟩:=FC.out i wr hIi;have HC:=ai (fun q=>HE.out (wr.drewN q) (HI.out i wr _ hIi ⟨rfl,rfl,rfl,ZV _,fun _ _=>rfl⟩));clear HE HP FS;go_wp2_with fail
   refine bO 9 (by kernel_rfl) (by kernel_rfl) ?_;simp only [TD]
   repeat (go_big_quiet_step (fail))
   refine Yf ?_;intro _ hw';obtain ⟨nq2,hw''⟩:=hw';subst hw'';go_wp2_with fail
   refine (HC.out nq2).mono ?_;rintro e w5 ⟨rfl,hJ5⟩;have HRR:=ai (HR.out w5 hJ5);clear HC HR c0 c1 c2 c3;go_wp2_with fail
   refine HRR.out.mono ?_;rintro e w6 ⟨rfl,rfl⟩;go_wp2;go_ret;exact ⟨rfl,hJ5⟩
end Go.Proofs.YtbklfkpjoinofaaGreatDoor
