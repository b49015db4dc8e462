import Derived.Test.YtbklfkpjoinofaaGreatDoorA35
set_option linter.all false
set_option maxRecDepth 100000
set_option maxHeartbeats 8000000
namespace Go.Proofs.YtbklfkpjoinofaaGreatDoor
open Go.RowKit Go.Proofs.Tryz
theorem Cy (w:World) (B y Wb:Nat) (K A X C D E Co Ro:Int) (t:ByteArray) (vs:List Value) (S:Bl) (hC:aS B y vs w S) (HK:Hid (∀ wx,QE 15 #[K,(8:Int)] wx (0:Int))) (Z:Ending->World->Prop) (n cap:Nat) (ad:Option Addr) (ps:List Value) (W H:Int) (h0:vs[0]? =some (.pointer (some ⟨Wb,0,none⟩))) (hf:vs[2]? =some (.slice ad n cap)) (h4:vs[4]? =some (.bool false)) (hn:n < 80) (hB:B<=w.heap.size) (ow:w.ownsRow B 100 3 (.slice ad n cap) n ps) (ne:(Value.slice ad n cap).ownBlock≠some y) (HP1:Hid (∀ wx,QE 35 #[A,(1:Int)] wx W)) (HP2:Hid (∀ wx,QE 35 #[X,(1:Int)] wx H)) (HW:Hid (∀ wa,af w wa->∀ w0 v w7 w9,af wa w0->w0.grownBy w7 (Value.slice ad n cap).ownBlock->gq w0 (Value.slice ad n cap).ownBlock B 100 3 (n+1) (ps++[.int .i64 W,.int .i64 H,.slice none 0 0]) v w7->af ((w7.setCell (zq y 2) v).setCell (zq y 4) true) w9->CP 34 #[zp Wb,W,H] w9 fun e w'=>e=.returned (0:Int)/\Z (.returned true) w')):
  CP 51 #[zp y,.agg #[K,A,X,C,D,E,Co,Ro,t]] w Z:=by
 go_enter func51,ntmps51
 go_wp2_with fail
 refine (HK.out _).mono ?_;rintro e w1 ⟨rfl,rfl⟩;clear HK;have hrow:(w.alloc (.cells #[K,A,X,C,D,E,Co,Ro,t] 76)).heap[w.heap.size]? =some (.cells #[K,A,X,C,D,E,Co,Ro,t] 76 (0,0)):=ZF w _;have hgw:af w (w.alloc (.cells #[K,A,X,C,D,E,Co,Ro,t] 76)):=(ZT _ w).alloc (ZW _) _;have hCa:=(aS.thing B y vs).grow hC hgw;have hyb:y < w.heap.size:=hC.2.2.1;have HRW:=ai hrow;have HGW:=ai hgw;generalize hwa:w.alloc (.cells #[K,A,X,C,D,E,Co,Ro,t] 76)=wa at HRW HGW hCa ⊢;clear hrow hgw hwa;generalize hb0:w.heap.size=b0 at HRW hyb ⊢;clear hb0;have hb0l:b0 < wa.heap.size:=(ZG.1 HRW.out).1;have c4:=hCa.at 4 _ h4;have c2:=hCa.at 2 _ hf;have d80:decide ((n:Int) < 80)=true:=by simp;omega
 have hCb:=hCa;have owb:=aW.grown ow HGW.out;have hBb:B<=wa.heap.size:=ZU hB HGW.out.size;obtain ⟨S3,hS3⟩:∃ S3,S=S3:=⟨_,rfl⟩;rw [hS3] at hCb;replace HW:=ai (HW.out wa HGW.out);clear hCa hC hS3 ow;go_wp2_with fail
 refine ap 8 _ (Ek wa.heap.size 7 100 #[oz,oz,.slice none 0 0] [.pointer (some ⟨b0,1,none⟩),.int .i64 A,.int .i64 W,.pointer (some ⟨b0,2,none⟩),.int .i64 X,.int .i64 H,.agg #[W,H,.slice none 0 0],undef]) (by kernel_rfl) rfl (by kernel_rfl) nO ?_;simp only [TD];refine ⟨fun w1 hG hd=>?_,fun v0=>?_⟩
 ·clear hd;go_wp2;exact RG
 simp only [TN];refine ⟨fun w1 hG hd=>?_,fun v1=>?_⟩
 ·have d0:v0=.pointer (some ⟨b0,1,none⟩):=hd ⟨0,.data⟩ (by simp) rfl;clear hd;subst d0;have c:w1.cell? (zq b0 1)=A:=by rw [Zw _ b0 1 _ _ _ ((hG.block b0 hb0l).trans HRW.out)];rfl
  go_wp2;exact RG
 simp only [TN];refine ⟨fun w1 hG hd=>?_,fun v2=>?_⟩
 ·have d1:v1=.int .i64 A:=hd ⟨1,.data⟩ (by simp) rfl;clear hd;subst d1;have HX:=ai (HP1.out w1);go_wp2_with fail
  refine HX.out.mono ?_;rintro e w2 ⟨rfl,rfl⟩;go_wp2;exact RG
 simp only [TN];refine ⟨fun w1 hG hd=>?_,fun v3=>?_⟩
 ·clear hd;go_wp2;exact RG
 simp only [TN];refine ⟨fun w1 hG hd=>?_,fun v4=>?_⟩
 ·have d3:v3=.pointer (some ⟨b0,2,none⟩):=hd ⟨3,.data⟩ (by simp) rfl;clear hd;subst d3;have c:w1.cell? (zq b0 2)=X:=by rw [Zw _ b0 2 _ _ _ ((hG.block b0 hb0l).trans HRW.out)];rfl
  go_wp2;exact RG
 simp only [TN];refine ⟨fun w1 hG hd=>?_,fun v5=>?_⟩
 ·have d4:v4=.int .i64 X:=hd ⟨4,.data⟩ (by simp) rfl;clear hd;subst d4;have HX:=ai (HP2.out w1);go_wp2_with fail
  refine HX.out.mono ?_;rintro e w2 ⟨rfl,rfl⟩;go_wp2;exact RG
 simp only [TN];refine ⟨fun w1 hG hd=>?_,fun v6=>?_⟩
 ·have d2:v2=.int .i64 W:=hd ⟨2,.data⟩ (by simp) rfl;have d5:v5=.int .i64 H:=hd ⟨5,.data⟩ (by simp) rfl;clear hd;subst d2 d5;go_wp2;exact RG
 simp only [TN];refine ⟨fun w1 hG hd=>?_,fun v7=>?_⟩
 ·clear hd;go_wp2;exact ⟨⟨_,rfl,hG.size,ZF _ _⟩,(ZT _ _).alloc (ZW _) _⟩
 simp only [TN];intro w2 hG hd;have dag:v6=.agg #[W,H,.slice none 0 0]:=hd 6 (by omega);obtain ⟨g,dnb,hzg,hbg⟩:∃ g,v7=.pointer (some ⟨g,0,none⟩)/\wa.heap.size<=g/\w2.heap[g]? =some (.cells #[oz,oz,.slice none 0 0] 100 (0,0)):=hd 7 (by omega);subst dag dnb;clear hd;have hrow:=YK w2 g _ #[W,H,.slice none 0 0] _ _ hbg;have hb3:af wa (w2.setRow g #[W,H,.slice none 0 0]):=⟨hG.os,hG.tape,hG.output,ZU hG.size (Nat.le_of_eq (by simp [World.setRow])),fun k hk=>(setRow_other _ _ _ _ (by omega)).trans (hG.block k hk)⟩;refine Zj rfl 100 (.tmp 6) (.tmp 71) rfl g #[W,H,.slice none 0 0] rfl rfl _ _ hbg (by kernel_rfl) rfl (by kernel_rfl) ?_;generalize w2.setRow g #[W,H,.slice none 0 0]=w3 at hrow hb3 ⊢;clear hG hbg;have HR3:=ai hrow;have HB3:=ai hb3;have hC3:=(aS.thing B y vs).grow hCb hb3;have ow3:=aW.grown owb hb3;have hB3:B<=w3.heap.size:=ZU hBb hb3.size;have cf3:=hC3.at 2 _ hf;have hy3:y < w3.heap.size:=hC3.2.2.1;have hgy:g≠y:=fun e=>by have:=hCb.2.2.1;omega
 have hgo:some g≠(Value.slice ad n cap).ownBlock:=Eo owb hzg;have hg3:g < w3.heap.size:=(ZG.1 hrow).1;clear hrow hb3;go_wp2_with fail
 refine cW 9 _ 8 (fun w w'=>w.grownBy w' (Value.slice ad n cap).ownBlock) (pK w3 [.pointer (some ⟨y,0,none⟩),.pointer (some ⟨y,0,none⟩),.pointer (some ⟨y,0,none⟩),.pointer (some ⟨y,1,none⟩),.pointer (some ⟨y,2,none⟩),.slice ad n cap,.agg #[W,H,.slice none 0 0],undef,undef] 7 8 [.int .i64 W,.int .i64 H,.slice none 0 0] (Value.slice ad n cap).ownBlock B 100 3 (n+1) (ps++[.int .i64 W,.int .i64 H,.slice none 0 0])) (by kernel_rfl) rfl (by kernel_rfl) (lT _) (fun _ _ _=>lV) (fun _ _ _=>fE) pZ kE ?_;simp only [TD];refine ⟨aB (by decide) fun w1 hG hd=>?_,fun v0=>?_⟩
 ·clear hd;go_wp2;exact RG
 simp only [TN];refine ⟨aB (by decide) fun w1 hG hd=>?_,fun v1=>?_⟩
 ·clear hd;go_wp2;exact RG
 simp only [TN];refine ⟨aB (by decide) fun w1 hG hd=>?_,fun v2=>?_⟩
 ·have d1:v1=.pointer (some ⟨y,0,none⟩):=hd ⟨1,.data⟩ (by simp) rfl;clear hd;subst d1;go_wp2;exact RG
 simp only [TN];refine ⟨aB (by decide) fun w1 hG hd=>?_,fun v3=>?_⟩
 ·have d2:v2=.pointer (some ⟨y,0,none⟩):=hd ⟨2,.data⟩ (by simp) rfl;clear hd;subst d2;go_wp2;exact RG
 simp only [TN];refine ⟨aB (by decide) fun w1 hG hd=>?_,fun v4=>?_⟩
 ·have d3:v3=.pointer (some ⟨y,1,none⟩):=hd ⟨3,.data⟩ (by simp) rfl;clear hd;subst d3;go_wp2;exact RG
 simp only [TN];refine ⟨aB (by decide) fun w1 hG hd=>?_,fun v5=>?_⟩
 ·have d4:v4=.pointer (some ⟨y,2,none⟩):=hd ⟨4,.data⟩ (by simp) rfl;clear hd;subst d4;have c:=(ZQ (a:=zq y 2) (hG.block y hy3 (fun e=>ne e.symm))).trans cf3;go_wp2;exact RG
 simp only [TN];refine ⟨aB (by decide) fun w1 hG hd=>?_,fun v6=>?_⟩
 ·clear hd;refine Zi rfl 100 (.tmp 6) rfl g rfl 100 _ (0,0) _ ((hG.block g hg3 hgo).trans HR3.out) underlying100 rfl (by kernel_rfl) ?_;refine YN ?_;exact ⟨rfl,rfl,rfl,af.refl _⟩
 simp only [TN];refine ⟨aB (by decide) fun w1 hG hd=>?_,fun v7=>?_⟩
 ·have d6:v6=.agg #[W,H,.slice none 0 0]:=hd ⟨6,.data⟩ (by simp) rfl;clear hd;subst d6;go_wp2;exact ⟨jI _ _ (fun k hk=>ZK (ow3.lt k hk).2 (World.grownBy.size hG)),(ZT _ _).alloc (ZW _) _⟩
 simp only [TN];refine ⟨dO rfl fun w1 hG hd=>?_,fun v8=>?_⟩
 ·have d5:v5=.slice ad n cap:=hd ⟨5,.data⟩ (by simp) rfl;have d7:pO _ _ v7 w1:=hd ⟨7,.data⟩ (by simp) rfl;clear hd;subst d5;exact nJ rfl (.tmp 77) (.tmp 79) 26 rfl 100 (.agg #[oz,oz,.slice none 0 0]) 3 40 Tryz.infoPg2 rfl (by omega) underlying26 B (Value.slice ad n cap) n (ps) rfl ow3 hB3 hG v7 rfl [.int .i64 W,.int .i64 H,.slice none 0 0] d7 rfl (by intro u hu;simp at hu;rcases hu with rfl | rfl | rfl <;> rfl) (by omega) (by omega) ⟨_,rfl,by simp [Act.put]⟩
 simp only [TN];intro w7 hG hd;have d0:v0=.pointer (some ⟨y,0,none⟩):=hd 0 (by omega);have d8:gq _ _ _ _ _ _ _ v8 w7:=hd 8 (by omega);subst d0;obtain ⟨ad7,cap7,hv7⟩:=d8.form;subst hv7;have hby:=hG.block y hy3 (fun e=>ne e.symm);have hC7:aS B y vs w7 S3:=(aS.thing B y vs).keep hC3 (fun k hk=>by have e1:=hC3.1;rw [e1] at hk;have e2:k=y:=hk;rw [e2];exact hby) (World.grownBy.size hG);have HG7:=ai hG;have HA7:=ai d8;have cf7:=hC7.at 2 _ hf;have ff7:=hC7.fz 2;have hC8:=(hC7.set 2 (.slice ad7 (n+1) cap7) (Zx.1 hf).1).1;have hr8:=(Yu w7 ⟨y,2,none⟩ g (.slice ad7 (n+1) cap7) hgy).trans ((hG.block g hg3 hgo).trans HR3.out);clear hd hG d8 hby cf3;have c48:=hC8.at 4 _ (by rw [List.getElem?_set_ne (by decide)];exact h4);have f48:=hC8.fz 4;have hC9:=(hC8.set 4 (.bool true) (by rw [List.length_set];exact (Zx.1 h4).1)).1;have hr9:=(Yu _ ⟨y,4,none⟩ g true hgy).trans hr8;have k0:=hC9.at 0 _ (by rw [List.getElem?_set_ne (by decide),List.getElem?_set_ne (by decide)];exact h0);have kt:((w7.setCell (zq y 2) (.slice ad7 (n+1) cap7)).setCell (zq y 4) true).cell? g=W:=by rw [Zw _ g 0 _ _ _ hr9];rfl
 have ku:((w7.setCell (zq y 2) (.slice ad7 (n+1) cap7)).setCell (zq y 4) true).cell? (zq g 1)=H:=by rw [Zw _ g 1 _ _ _ hr9];rfl
 have HW2:=ai (fun w9 h=>HW.out w3 _ w7 w9 HB3.out HG7.out HA7.out h);clear hr8 hr9 hC8 hC9 hC7 HW HG7 HA7 hC3 ow3;go_wp2_with fail
 refine ap 8 _ (ag [zp y,zp y,zp y,zp Wb,zp g,W,zq g 1,H]) (by kernel_rfl) rfl (by kernel_rfl) aq ?_;simp only [TD];refine ⟨fun w1 hG hd=>?_,fun v0=>?_⟩
 ·clear hd;go_wp2;exact RG
 simp only [TN];refine ⟨fun w1 hG hd=>?_,fun v1=>?_⟩
 ·have d0:v0=.pointer (some ⟨y,0,none⟩):=hd ⟨0,.data⟩ (by simp) rfl;clear hd;subst d0;go_wp2;exact RG
 simp only [TN];refine ⟨fun w1 hG hd=>?_,fun v2=>?_⟩
 ·have d1:v1=.pointer (some ⟨y,0,none⟩):=hd ⟨1,.data⟩ (by simp) rfl;clear hd;subst d1;go_wp2;exact RG
 simp only [TN];refine ⟨fun w1 hG hd=>?_,fun v3=>?_⟩
 ·have d2:v2=.pointer (some ⟨y,0,none⟩):=hd ⟨2,.data⟩ (by simp) rfl;clear hd;subst d2;have c:=aw hG k0;go_wp2;exact RG
 simp only [TN];refine ⟨fun w1 hG hd=>?_,fun v4=>?_⟩
 ·clear hd;go_wp2;exact RG
 simp only [TN];refine ⟨fun w1 hG hd=>?_,fun v5=>?_⟩
 ·have d4:v4=.pointer (some ⟨g,0,none⟩):=hd ⟨4,.data⟩ (by simp) rfl;clear hd;subst d4;have c:=aw hG kt;go_wp2;exact RG
 simp only [TN];refine ⟨fun w1 hG hd=>?_,fun v6=>?_⟩
 ·clear hd;go_wp2;exact RG
 simp only [TN];refine ⟨fun w1 hG hd=>?_,fun v7=>?_⟩
 ·have d6:v6=.pointer (some ⟨g,1,none⟩):=hd ⟨6,.data⟩ (by simp) rfl;clear hd;subst d6;have c:=aw hG ku;go_wp2;exact RG
 simp only [TN];intro w9 hG hd;have d3:v3=.pointer (some ⟨Wb,0,none⟩):=hd 3 (by omega);have d5:v5=.int .i64 W:=hd 5 (by omega);have d7:v7=.int .i64 H:=hd 7 (by omega);subst d3 d5 d7;clear hd;go_wp2_with fail
 refine (HW2.out w9 hG).mono ?_;rintro e w10 ⟨rfl,hz⟩;have HZZ:=ai hz;clear hz;go_wp2
 first | exact HZZ.out | (go_ret;exact HZZ.out)
theorem Cz (w:World) (B y Wb:Nat) (K A X C D E Co Ro:Int) (t:ByteArray) (vs:List Value) (S:Bl) (hC:aS B y vs w S) (HK:Hid (∀ wx,QE 15 #[K,(8:Int)] wx (0:Int))) (Z:Ending->World->Prop) (n cap:Nat) (ad:Option Addr) (ps:List Value) (W H:Int) (h0:vs[0]? =some (.pointer (some ⟨Wb,0,none⟩))) (hf:vs[2]? =some (.slice ad n cap)) (h4:vs[4]? =some (.bool true)) (hn:n < 80) (hB:B<=w.heap.size) (ow:w.ownsRow B 100 3 (.slice ad n cap) n ps) (ne:(Value.slice ad n cap).ownBlock≠some y) (HP1:Hid (∀ wx,QE 35 #[A,(1:Int)] wx W)) (HP2:Hid (∀ wx,QE 35 #[X,(1:Int)] wx H)) (HE:Hid (∀ wa,af w wa->CP 33 #[zp Wb] wa fun e wb=>e=.returned (0:Int)/\∃ S3,aS B y vs wb S3/\wb.ownsRow B 100 3 (.slice ad n cap) n ps/\B<=wb.heap.size/\(∀ k,w.heap.size<=k->k < wa.heap.size->wb.heap[k]? =wa.heap[k]?)/\∀ w0 v w7 w9,af wb w0->w0.grownBy w7 (Value.slice ad n cap).ownBlock->gq w0 (Value.slice ad n cap).ownBlock B 100 3 (n+1) (ps++[.int .i64 W,.int .i64 H,.slice none 0 0]) v w7->af ((w7.setCell (zq y 2) v).setCell (zq y 4) true) w9->CP 34 #[zp Wb,W,H] w9 fun e w'=>e=.returned (0:Int)/\Z (.returned true) w')):
  CP 51 #[zp y,.agg #[K,A,X,C,D,E,Co,Ro,t]] w Z:=by
 go_enter func51,ntmps51
 go_wp2_with fail
 refine (HK.out _).mono ?_;rintro e w1 ⟨rfl,rfl⟩;clear HK;have hrow:(w.alloc (.cells #[K,A,X,C,D,E,Co,Ro,t] 76)).heap[w.heap.size]? =some (.cells #[K,A,X,C,D,E,Co,Ro,t] 76 (0,0)):=ZF w _;have hgw:af w (w.alloc (.cells #[K,A,X,C,D,E,Co,Ro,t] 76)):=(ZT _ w).alloc (ZW _) _;have hCa:=(aS.thing B y vs).grow hC hgw;have hyb:y < w.heap.size:=hC.2.2.1;have HRW:=ai hrow;have HGW:=ai hgw;generalize hwa:w.alloc (.cells #[K,A,X,C,D,E,Co,Ro,t] 76)=wa at HRW HGW hCa ⊢;clear hrow hgw hwa;generalize hb0:w.heap.size=b0 at HRW hyb ⊢;have hb0':w.heap.size<=b0:=Nat.le_of_eq hb0;clear hb0;have hb0l:b0 < wa.heap.size:=(ZG.1 HRW.out).1;have c4:=hCa.at 4 _ h4;have c2:=hCa.at 2 _ hf;have d80:decide ((n:Int) < 80)=true:=by simp;omega
 have c0:=hCa.at 0 _ h0;replace HE:=ai (HE.out wa HGW.out);clear hCa hC ow;go_wp2_with fail
 refine HE.out.mono ?_;rintro e wb ⟨rfl,S3,hCb,owb,hBb,hkb,hcont⟩;replace HRW:=ai ((hkb b0 hb0' hb0l).trans HRW.out);replace hb0l:b0 < wb.heap.size:=(ZG.1 HRW.out).1;have HW:=ai hcont;clear hkb hcont HE c0 c4 c2;go_wp2_with fail
 refine ap 8 _ (Ek wb.heap.size 7 100 #[oz,oz,.slice none 0 0] [.pointer (some ⟨b0,1,none⟩),.int .i64 A,.int .i64 W,.pointer (some ⟨b0,2,none⟩),.int .i64 X,.int .i64 H,.agg #[W,H,.slice none 0 0],undef]) (by kernel_rfl) rfl (by kernel_rfl) nO ?_;simp only [TD];refine ⟨fun w1 hG hd=>?_,fun v0=>?_⟩
 ·clear hd;go_wp2;exact RG
 simp only [TN];refine ⟨fun w1 hG hd=>?_,fun v1=>?_⟩
 ·have d0:v0=.pointer (some ⟨b0,1,none⟩):=hd ⟨0,.data⟩ (by simp) rfl;clear hd;subst d0;have c:w1.cell? (zq b0 1)=A:=by rw [Zw _ b0 1 _ _ _ ((hG.block b0 hb0l).trans HRW.out)];rfl
  go_wp2;exact RG
 simp only [TN];refine ⟨fun w1 hG hd=>?_,fun v2=>?_⟩
 ·have d1:v1=.int .i64 A:=hd ⟨1,.data⟩ (by simp) rfl;clear hd;subst d1;have HX:=ai (HP1.out w1);go_wp2_with fail
  refine HX.out.mono ?_;rintro e w2 ⟨rfl,rfl⟩;go_wp2;exact RG
 simp only [TN];refine ⟨fun w1 hG hd=>?_,fun v3=>?_⟩
 ·clear hd;go_wp2;exact RG
 simp only [TN];refine ⟨fun w1 hG hd=>?_,fun v4=>?_⟩
 ·have d3:v3=.pointer (some ⟨b0,2,none⟩):=hd ⟨3,.data⟩ (by simp) rfl;clear hd;subst d3;have c:w1.cell? (zq b0 2)=X:=by rw [Zw _ b0 2 _ _ _ ((hG.block b0 hb0l).trans HRW.out)];rfl
  go_wp2;exact RG
 simp only [TN];refine ⟨fun w1 hG hd=>?_,fun v5=>?_⟩
 ·have d4:v4=.int .i64 X:=hd ⟨4,.data⟩ (by simp) rfl;clear hd;subst d4;have HX:=ai (HP2.out w1);go_wp2_with fail
  refine HX.out.mono ?_;rintro e w2 ⟨rfl,rfl⟩;go_wp2;exact RG
 simp only [TN];refine ⟨fun w1 hG hd=>?_,fun v6=>?_⟩
 ·have d2:v2=.int .i64 W:=hd ⟨2,.data⟩ (by simp) rfl;have d5:v5=.int .i64 H:=hd ⟨5,.data⟩ (by simp) rfl;clear hd;subst d2 d5;go_wp2;exact RG
 simp only [TN];refine ⟨fun w1 hG hd=>?_,fun v7=>?_⟩
 ·clear hd;go_wp2;exact ⟨⟨_,rfl,hG.size,ZF _ _⟩,(ZT _ _).alloc (ZW _) _⟩
 simp only [TN];intro w2 hG hd;have dag:v6=.agg #[W,H,.slice none 0 0]:=hd 6 (by omega);obtain ⟨g,dnb,hzg,hbg⟩:∃ g,v7=.pointer (some ⟨g,0,none⟩)/\wb.heap.size<=g/\w2.heap[g]? =some (.cells #[oz,oz,.slice none 0 0] 100 (0,0)):=hd 7 (by omega);subst dag dnb;clear hd;have hrow:=YK w2 g _ #[W,H,.slice none 0 0] _ _ hbg;have hb3:af wb (w2.setRow g #[W,H,.slice none 0 0]):=⟨hG.os,hG.tape,hG.output,ZU hG.size (Nat.le_of_eq (by simp [World.setRow])),fun k hk=>(setRow_other _ _ _ _ (by omega)).trans (hG.block k hk)⟩;refine Zj rfl 100 (.tmp 6) (.tmp 71) rfl g #[W,H,.slice none 0 0] rfl rfl _ _ hbg (by kernel_rfl) rfl (by kernel_rfl) ?_;generalize w2.setRow g #[W,H,.slice none 0 0]=w3 at hrow hb3 ⊢;clear hG hbg;have HR3:=ai hrow;have HB3:=ai hb3;have hC3:=(aS.thing B y vs).grow hCb hb3;have ow3:=aW.grown owb hb3;have hB3:B<=w3.heap.size:=ZU hBb hb3.size;have cf3:=hC3.at 2 _ hf;have hy3:y < w3.heap.size:=hC3.2.2.1;have hgy:g≠y:=fun e=>by have:=hCb.2.2.1;omega
 have hgo:some g≠(Value.slice ad n cap).ownBlock:=Eo owb hzg;have hg3:g < w3.heap.size:=(ZG.1 hrow).1;clear hrow hb3;go_wp2_with fail
 refine cW 9 _ 8 (fun w w'=>w.grownBy w' (Value.slice ad n cap).ownBlock) (pK w3 [.pointer (some ⟨y,0,none⟩),.pointer (some ⟨y,0,none⟩),.pointer (some ⟨y,0,none⟩),.pointer (some ⟨y,1,none⟩),.pointer (some ⟨y,2,none⟩),.slice ad n cap,.agg #[W,H,.slice none 0 0],undef,undef] 7 8 [.int .i64 W,.int .i64 H,.slice none 0 0] (Value.slice ad n cap).ownBlock B 100 3 (n+1) (ps++[.int .i64 W,.int .i64 H,.slice none 0 0])) (by kernel_rfl) rfl (by kernel_rfl) (lT _) (fun _ _ _=>lV) (fun _ _ _=>fE) pZ kE ?_;simp only [TD];refine ⟨aB (by decide) fun w1 hG hd=>?_,fun v0=>?_⟩
 ·clear hd;go_wp2;exact RG
 simp only [TN];refine ⟨aB (by decide) fun w1 hG hd=>?_,fun v1=>?_⟩
 ·clear hd;go_wp2;exact RG
 simp only [TN];refine ⟨aB (by decide) fun w1 hG hd=>?_,fun v2=>?_⟩
 ·have d1:v1=.pointer (some ⟨y,0,none⟩):=hd ⟨1,.data⟩ (by simp) rfl;clear hd;subst d1;go_wp2;exact RG
 simp only [TN];refine ⟨aB (by decide) fun w1 hG hd=>?_,fun v3=>?_⟩
 ·have d2:v2=.pointer (some ⟨y,0,none⟩):=hd ⟨2,.data⟩ (by simp) rfl;clear hd;subst d2;go_wp2;exact RG
 simp only [TN];refine ⟨aB (by decide) fun w1 hG hd=>?_,fun v4=>?_⟩
 ·have d3:v3=.pointer (some ⟨y,1,none⟩):=hd ⟨3,.data⟩ (by simp) rfl;clear hd;subst d3;go_wp2;exact RG
 simp only [TN];refine ⟨aB (by decide) fun w1 hG hd=>?_,fun v5=>?_⟩
 ·have d4:v4=.pointer (some ⟨y,2,none⟩):=hd ⟨4,.data⟩ (by simp) rfl;clear hd;subst d4;have c:=(ZQ (a:=zq y 2) (hG.block y hy3 (fun e=>ne e.symm))).trans cf3;go_wp2;exact RG
 simp only [TN];refine ⟨aB (by decide) fun w1 hG hd=>?_,fun v6=>?_⟩
 ·clear hd;refine Zi rfl 100 (.tmp 6) rfl g rfl 100 _ (0,0) _ ((hG.block g hg3 hgo).trans HR3.out) underlying100 rfl (by kernel_rfl) ?_;refine YN ?_;exact ⟨rfl,rfl,rfl,af.refl _⟩
 simp only [TN];refine ⟨aB (by decide) fun w1 hG hd=>?_,fun v7=>?_⟩
 ·have d6:v6=.agg #[W,H,.slice none 0 0]:=hd ⟨6,.data⟩ (by simp) rfl;clear hd;subst d6;go_wp2;exact ⟨jI _ _ (fun k hk=>ZK (ow3.lt k hk).2 (World.grownBy.size hG)),(ZT _ _).alloc (ZW _) _⟩
 simp only [TN];refine ⟨dO rfl fun w1 hG hd=>?_,fun v8=>?_⟩
 ·have d5:v5=.slice ad n cap:=hd ⟨5,.data⟩ (by simp) rfl;have d7:pO _ _ v7 w1:=hd ⟨7,.data⟩ (by simp) rfl;clear hd;subst d5;exact nJ rfl (.tmp 77) (.tmp 79) 26 rfl 100 (.agg #[oz,oz,.slice none 0 0]) 3 40 Tryz.infoPg2 rfl (by omega) underlying26 B (Value.slice ad n cap) n (ps) rfl ow3 hB3 hG v7 rfl [.int .i64 W,.int .i64 H,.slice none 0 0] d7 rfl (by intro u hu;simp at hu;rcases hu with rfl | rfl | rfl <;> rfl) (by omega) (by omega) ⟨_,rfl,by simp [Act.put]⟩
 simp only [TN];intro w7 hG hd;have d0:v0=.pointer (some ⟨y,0,none⟩):=hd 0 (by omega);have d8:gq _ _ _ _ _ _ _ v8 w7:=hd 8 (by omega);subst d0;obtain ⟨ad7,cap7,hv7⟩:=d8.form;subst hv7;have hby:=hG.block y hy3 (fun e=>ne e.symm);have hC7:aS B y vs w7 S3:=(aS.thing B y vs).keep hC3 (fun k hk=>by have e1:=hC3.1;rw [e1] at hk;have e2:k=y:=hk;rw [e2];exact hby) (World.grownBy.size hG);have HG7:=ai hG;have HA7:=ai d8;have cf7:=hC7.at 2 _ hf;have ff7:=hC7.fz 2;have hC8:=(hC7.set 2 (.slice ad7 (n+1) cap7) (Zx.1 hf).1).1;have hr8:=(Yu w7 ⟨y,2,none⟩ g (.slice ad7 (n+1) cap7) hgy).trans ((hG.block g hg3 hgo).trans HR3.out);clear hd hG d8 hby cf3;have c48:=hC8.at 4 _ (by rw [List.getElem?_set_ne (by decide)];exact h4);have f48:=hC8.fz 4;have hC9:=(hC8.set 4 (.bool true) (by rw [List.length_set];exact (Zx.1 h4).1)).1;have hr9:=(Yu _ ⟨y,4,none⟩ g true hgy).trans hr8;have k0:=hC9.at 0 _ (by rw [List.getElem?_set_ne (by decide),List.getElem?_set_ne (by decide)];exact h0);have kt:((w7.setCell (zq y 2) (.slice ad7 (n+1) cap7)).setCell (zq y 4) true).cell? g=W:=by rw [Zw _ g 0 _ _ _ hr9];rfl
 have ku:((w7.setCell (zq y 2) (.slice ad7 (n+1) cap7)).setCell (zq y 4) true).cell? (zq g 1)=H:=by rw [Zw _ g 1 _ _ _ hr9];rfl
 have HW2:=ai (fun w9 h=>HW.out w3 _ w7 w9 HB3.out HG7.out HA7.out h);clear hr8 hr9 hC8 hC9 hC7 HW HG7 HA7 hC3 ow3;go_wp2_with fail
 refine ap 8 _ (ag [zp y,zp y,zp y,zp Wb,zp g,W,zq g 1,H]) (by kernel_rfl) rfl (by kernel_rfl) aq ?_;simp only [TD];refine ⟨fun w1 hG hd=>?_,fun v0=>?_⟩
 ·clear hd;go_wp2;exact RG
 simp only [TN];refine ⟨fun w1 hG hd=>?_,fun v1=>?_⟩
 ·have d0:v0=.pointer (some ⟨y,0,none⟩):=hd ⟨0,.data⟩ (by simp) rfl;clear hd;subst d0;go_wp2;exact RG
 simp only [TN];refine ⟨fun w1 hG hd=>?_,fun v2=>?_⟩
 ·have d1:v1=.pointer (some ⟨y,0,none⟩):=hd ⟨1,.data⟩ (by simp) rfl;clear hd;subst d1;go_wp2;exact RG
 simp only [TN];refine ⟨fun w1 hG hd=>?_,fun v3=>?_⟩
 ·have d2:v2=.pointer (some ⟨y,0,none⟩):=hd ⟨2,.data⟩ (by simp) rfl;clear hd;subst d2;have c:=aw hG k0;go_wp2;exact RG
 simp only [TN];refine ⟨fun w1 hG hd=>?_,fun v4=>?_⟩
 ·clear hd;go_wp2;exact RG
 simp only [TN];refine ⟨fun w1 hG hd=>?_,fun v5=>?_⟩
 ·have d4:v4=.pointer (some ⟨g,0,none⟩):=hd ⟨4,.data⟩ (by simp) rfl;clear hd;subst d4;have c:=aw hG kt;go_wp2;exact RG
 simp only [TN];refine ⟨fun w1 hG hd=>?_,fun v6=>?_⟩
 ·clear hd;go_wp2;exact RG
 simp only [TN];refine ⟨fun w1 hG hd=>?_,fun v7=>?_⟩
 ·have d6:v6=.pointer (some ⟨g,1,none⟩):=hd ⟨6,.data⟩ (by simp) rfl;clear hd;subst d6;have c:=aw hG ku;go_wp2;exact RG
 simp only [TN];intro w9 hG hd;have d3:v3=.pointer (some ⟨Wb,0,none⟩):=hd 3 (by omega);have d5:v5=.int .i64 W:=hd 5 (by omega);have d7:v7=.int .i64 H:=hd 7 (by omega);subst d3 d5 d7;clear hd;go_wp2_with fail
 refine (HW2.out w9 hG).mono ?_;rintro e w10 ⟨rfl,hz⟩;have HZZ:=ai hz;clear hz;go_wp2
 first | exact HZZ.out | (go_ret;exact HZZ.out)
theorem DH (w:World) (B y Wb:Nat) (K A X C D E Co Ro:Int) (t:ByteArray) (vs:List Value) (S:Bl) (hC:aS B y vs w S) (HK:Hid (∀ wx,QE 15 #[K,(8:Int)] wx (0:Int))) (Z:Ending->World->Prop) (n cap:Nat) (ad:Option Addr) (op:Bool) (hf:vs[2]? =some (.slice ad n cap)) (h4:vs[4]? =some (.bool op)) (hn:n=80) (HZ:Hid (∀ wa,af w wa->Z (.returned true) wa)):
  CP 51 #[zp y,.agg #[K,A,X,C,D,E,Co,Ro,t]] w Z:=by
 go_enter func51,ntmps51
 go_wp2_with fail
 refine (HK.out _).mono ?_;rintro e w1 ⟨rfl,rfl⟩;clear HK;have hrow:(w.alloc (.cells #[K,A,X,C,D,E,Co,Ro,t] 76)).heap[w.heap.size]? =some (.cells #[K,A,X,C,D,E,Co,Ro,t] 76 (0,0)):=ZF w _;have hgw:af w (w.alloc (.cells #[K,A,X,C,D,E,Co,Ro,t] 76)):=(ZT _ w).alloc (ZW _) _;have hCa:=(aS.thing B y vs).grow hC hgw;have hyb:y < w.heap.size:=hC.2.2.1;have HRW:=ai hrow;have HGW:=ai hgw;generalize hwa:w.alloc (.cells #[K,A,X,C,D,E,Co,Ro,t] 76)=wa at HRW HGW hCa ⊢;clear hrow hgw hwa;generalize hb0:w.heap.size=b0 at HRW hyb ⊢;clear hb0;subst hn;have c4:=hCa.at 4 _ h4;have c2:=hCa.at 2 _ hf;have HZ2:=ai (HZ.out wa HGW.out);clear hCa hC HZ;go_wp2
 all_goals first | exact HZ2.out | (go_ret;exact HZ2.out)
theorem DJ (w:World) (B y Wb:Nat) (K A X C D E Co Ro:Int) (t:ByteArray) (vs:List Value) (S:Bl) (hC:aS B y vs w S) (Z:Ending->World->Prop) (k:Nat) (HK:Hid (∀ wx,QE 15 #[K,(8:Int)] wx (k:Int))) (hk8:k < 8) (h6:((k:Int)==6)=false) (h7:((k:Int)==7)=false) (h50:((k:Int)==0)=false) (h4:vs[4]? =some (.bool false)) (HZ:Hid (∀ wa,af w wa->Z (.returned true) wa)):
  CP 51 #[zp y,.agg #[K,A,X,C,D,E,Co,Ro,t]] w Z:=by
 go_enter func51,ntmps51
 go_wp2_with fail
 refine (HK.out _).mono ?_;rintro e w1 ⟨rfl,rfl⟩;clear HK;have hrow:(w.alloc (.cells #[K,A,X,C,D,E,Co,Ro,t] 76)).heap[w.heap.size]? =some (.cells #[K,A,X,C,D,E,Co,Ro,t] 76 (0,0)):=ZF w _;have hgw:af w (w.alloc (.cells #[K,A,X,C,D,E,Co,Ro,t] 76)):=(ZT _ w).alloc (ZW _) _;have hCa:=(aS.thing B y vs).grow hC hgw;have hyb:y < w.heap.size:=hC.2.2.1;have HRW:=ai hrow;have HGW:=ai hgw;generalize hwa:w.alloc (.cells #[K,A,X,C,D,E,Co,Ro,t] 76)=wa at HRW HGW hCa ⊢;clear hrow hgw hwa;generalize hb0:w.heap.size=b0 at HRW hyb ⊢;clear hb0;have c4:=hCa.at 4 _ h4;have HZ2:=ai (HZ.out wa HGW.out);clear hCa hC HZ;go_wp2
 all_goals first | exact HZ2.out | (go_ret;exact HZ2.out)
theorem zy (w:World) (B y Wb:Nat) (K A X C D E Co Ro:Int) (t:ByteArray) (vs:List Value) (S:Bl) (hC:aS B y vs w S) (HK:Hid (∀ wx,QE 15 #[K,(8:Int)] wx (5:Int))) (Z:Ending->World->Prop) (h4:vs[4]? =some (.bool true)) (n cap:Nat) (ad:Option Addr) (hf:vs[3]? =some (.slice ad n cap)) (hn:n<=20) (ht0:t=⟨#[]⟩\/(t.toList.isEmpty=false/\n=20)) (HZ:Hid (∀ wa,af w wa->Z (.returned true) wa)):
  CP 51 #[zp y,.agg #[K,A,X,C,D,E,Co,Ro,t]] w Z:=by
 go_enter func51,ntmps51
 go_wp2_with fail
 refine (HK.out _).mono ?_;rintro e w1 ⟨rfl,rfl⟩;clear HK;have hrow:(w.alloc (.cells #[K,A,X,C,D,E,Co,Ro,t] 76)).heap[w.heap.size]? =some (.cells #[K,A,X,C,D,E,Co,Ro,t] 76 (0,0)):=ZF w _;have hgw:af w (w.alloc (.cells #[K,A,X,C,D,E,Co,Ro,t] 76)):=(ZT _ w).alloc (ZW _) _;have hCa:=(aS.thing B y vs).grow hC hgw;have hyb:y < w.heap.size:=hC.2.2.1;have HRW:=ai hrow;have HGW:=ai hgw;generalize hwa:w.alloc (.cells #[K,A,X,C,D,E,Co,Ro,t] 76)=wa at HRW HGW hCa ⊢;clear hrow hgw hwa;generalize hb0:w.heap.size=b0 at HRW hyb ⊢;clear hb0;have c4:=hCa.at 4 _ h4;have c3:=hCa.at 3 _ hf;have c8:wa.cell? (zq b0 8)=t:=by rw [Zw _ b0 8 _ _ _ HRW.out];rfl
 have HZ2:=ai (HZ.out wa HGW.out);clear hCa hC HZ;rcases ht0 with ht0 | ⟨ht0,hn0⟩
 ·subst ht0;go_wp2
  first | exact HZ2.out | (go_ret;exact HZ2.out)
 ·subst hn0;go_wp2
  first | exact HZ2.out | (go_ret;exact HZ2.out)
def gB (o:bj):bj:={o with s:=⟨#[]⟩}
def ry (sp:Nat):Nat->St->ByteArray->Nat->St×Nat
 | 0,s,_,c=>(s,c)
 | f+1,s,t,c=>if t.size=0 then (s,c) else ry sp f (s.data (t.extract 0 (min sp t.size))).2 (t.extract (min sp t.size) t.size) (c+1)
def g_ (sp:Nat) (s:St) (c:Nat) (o:bj):St×Nat:=if o.k=4/\0 < sp then ry sp o.s.size (s.begin (gB o)).2 o.s c else ((s.draw o).2,c)
theorem Cc {s:St} {o:bj} (hdr:s.drawing=true) (ho:o.is) (hr:s.size+o.text.length<=1048576):s.draw o=(0,{s with pages:=s.put o,size:=s.size+o.text.length,g:=s.g.op o}):=by
 unfold St.draw;rw [ZO (by simp [hdr]),ZO (fun h=>h ho),ZO (by omega)]
theorem vY (t:ByteArray) (k:Nat) (hk:k<=t.size):(t.extract 0 k).size=k/\(t.extract k t.size).size=t.size - k/\t.extract 0 k++t.extract k t.size=t:=by
 refine ⟨by rw [ByteArray.size_extract];omega,by rw [ByteArray.size_extract];omega,?_⟩;refine Zd (Array.toList_inj.1 ?_);rw [oL,Zg,Zg,YV,YV];simp only [List.extract,List.drop_zero,Nat.sub_zero];have e:(t.data.toList.drop k).take (t.size - k)=t.data.toList.drop k:=Zy (by rw [Za,aP];exact ZW _);rw [e,Yq]
def DB (s0:St) (o:bj) (s:St) (t:ByteArray):Prop:=∃ i g,i++t=o.s/\
 s=if t.size=0 then {s0 with img:=o,left:=0,pages:=s0.put o,size:=s0.size+o.text.length,g:=g} else {s0 with img:={o with s:=i},left:=t.size,size:=s0.size+o.text.length,g:=g}
theorem DB.cl {s0:St} {o:bj} {s:St} {t:ByteArray} (h:DB s0 o s t):s.cl=s0.cl:=by
 obtain ⟨i,g,_,h2⟩:=h;rw [h2];split <;> rfl
theorem DB.next {s0:St} {o:bj} {s:St} {t:ByteArray} (h:DB s0 o s t) (ht:0 < t.size) {k:Nat} (hk:0 < k) (hk2:k<=t.size):(s.data (t.extract 0 k)).1=0/\DB s0 o (s.data (t.extract 0 k)).2 (t.extract k t.size):=by
 obtain ⟨e1,e2,e3⟩:=vY t k hk2;obtain ⟨i,g,h1,h2⟩:=h;rw [ZO (by omega)] at h2;subst h2;obtain ⟨u,hu⟩:∃ u,t.extract 0 k=u:=⟨_,rfl⟩;obtain ⟨v,hv⟩:∃ v,t.extract k t.size=v:=⟨_,rfl⟩;rw [hu] at e1 e3 ⊢;rw [hv] at e2 e3 ⊢;have h3:i++u++v=o.s:=by rw [ByteArray.append_assoc,e3];exact h1
 unfold St.data;dsimp only;rw [ZO (by omega),ZO (by omega)];by_cases h4:u.size < t.size
 ·rw [ZN h4];refine ⟨rfl,i++u,g.wr u.data.toList,h3,?_⟩;rw [ZO (by omega),show t.size - u.size=v.size by omega];rfl
 ·rw [ZO h4];refine ⟨rfl,i++u,(g.wr u.data.toList).wr vq,h3,?_⟩;rw [ZN (by omega)];have hv0:=lZ (t:=v) (by omega);rw [hv0] at h3;have h5:i++u=o.s:=by rw [<-h3];exact (ByteArray.append_empty).symm
  have hm:({o with s:=i++u}:bj)=o:=by rw [h5]
  simp only [St.more,hm];rfl
theorem DB.start {s:St} {o:bj} (hdr:s.drawing=true) (ho:o.is) (hk:o.k=4) (hr:s.size+o.text.length<=1048576):0 < o.s.size/\(s.begin (gB o)).1=0/\DB s o (s.begin (gB o)).2 o.s:=by
 obtain ⟨ha,hb,h | h | h | h⟩:=ho
 ·omega
 ·omega
 ·omega
 obtain ⟨_,hc,hd,hco,hro,he,hs⟩:=h;have hpos:0 < o.co*o.ro:=Int.mul_pos (by have:=hco.1;omega) (by have:=hro.1;omega);have hz:(o.co*o.ro).toNat=o.s.size:=by omega
 have t1:(gB o).text.length=o.headB.length+6:=by
  rw [yS (o:=gB o) hk];show (o.headB++([]++[10,69,73,32,81,10])).length=_
  simp
 have t2:o.text.length=o.headB.length+o.s.size+6:=by rw [yS hk];simp;omega
 have hf:(gB o).isFrame:=⟨hk,rfl,he,ha,hb,hc,hd,hco,hro⟩;unfold St.begin;rw [ZO (by simp [hdr]),ZO (fun h=>h hf)];have hz2:((gB o).co*(gB o).ro).toNat=o.s.size:=hz;rw [hz2,ZO (by omega)];refine ⟨by omega,rfl,⟨#[]⟩,s.g.wr (gB o).headB,ByteArray.empty_append,?_⟩;rw [ZO (by omega),show s.size+(gB o).text.length+o.s.size=s.size+o.text.length by omega];rfl
theorem wU {s0:St} {o:bj} {sp:Nat} (hsp:0 < sp):∀ (f:Nat) (s:St) (t:ByteArray) (c:Nat),DB s0 o s t->t.size<=f->s.ok->s.fine->DB s0 o (ry sp f s t c).1 ⟨#[]⟩/\(ry sp f s t c).1.ok/\(ry sp f s t c).1.fine/\(ry sp f s t c).2<=c+f
 | 0,s,t,c,h,hf,ok,fi=>by
  have e:=lZ (t:=t) (by omega);rw [e] at h;exact ⟨h,ok,fi,ZW _⟩
 | f+1,s,t,c,h,hf,ok,fi=>by
  unfold ry;by_cases h0:t.size=0
  ·rw [ZN h0];have e:=lZ (t:=t) h0;rw [e] at h;exact ⟨h,ok,fi,by omega⟩
  ·rw [ZO h0];obtain ⟨e1,e2,e3⟩:=vY t (min sp t.size) (by omega);obtain ⟨a,b,c',d⟩:=wU hsp f _ (t.extract (min sp t.size) t.size) (c+1) (h.next (by omega) (by omega:0 < min sp t.size) (by omega)).2 (by omega) (ok.fed _) (fi.fed _);exact ⟨a,b,c',by omega⟩
theorem oF {sp c:Nat} {s:St} {o:bj} (hdr:s.drawing=true) (ho:o.is) (hr:s.size+o.text.length<=1048576) (hok:s.ok) (hfi:s.fine):(∃ im g,(g_ sp s c o).1={s with img:=im,left:=0,pages:=s.put o,size:=s.size+o.text.length,g:=g})/\(g_ sp s c o).1.ok/\(g_ sp s c o).1.fine/\(g_ sp s c o).2<=c+o.s.size:=by
 unfold g_;by_cases h:o.k=4/\0 < sp
 ·rw [ZN h];obtain ⟨_,_,hM⟩:=DB.start hdr ho h.1 hr;obtain ⟨⟨i,g,_,e⟩,b,c',d⟩:=wU h.2 o.s.size _ o.s c hM (ZW _) (hok.began _) (hfi.began _);exact ⟨⟨o,g,by rw [e,ZN (show (⟨#[]⟩:ByteArray).size=0 from rfl)]⟩,b,c',d⟩
 ·rw [ZO h];refine ⟨⟨s.img,s.g.op o,?_⟩,hok.drawn _,hfi.drawn _,by show c<=_;omega⟩;rw [Cc hdr ho hr];have hl:=(St.drawing_of hdr).2;show ({s with pages:=s.put o,size:=s.size+o.text.length,g:=s.g.op o}:St)=_
  rw [<-hl]
theorem xT (n:Wn) (jb:Nat) (s d:St) (sp fl c:Nat) (w:World) (S:Bl) (o:bj) (hsp:0 < sp) (hsp2:sp<=1000) (hfl:fl<=5) (hk:o.k=4) (ho:o.is) (hos:o.s.size<=400) (hc:c<=1000000) (hlim:n.lim < 0) (hok:s.ok) (hcl:s.cl=false) (hdr:s.drawing=true) (hroom:s.size+o.text.length<=1048576) (hB:n.B<=w.heap.size) (ht:bU n.B w) (h:JD n jb s d sp fl c w S):
  CP 149 #[zp jb,o.val] w fun e w'=>e=.returned true/\∃ S',JD n jb (ry sp o.s.size (s.begin (gB o)).2 o.s c).1 d sp fl (ry sp o.s.size (s.begin (gB o)).2 o.s c).2 w' S'/\Mv S w S' w':=by
 obtain ⟨hpos,hb0,hM⟩:=DB.start hdr ho hk hroom;obtain ⟨fin,hfin⟩:∃ r,ry sp o.s.size (s.begin (gB o)).2 o.s c=r:=⟨_,rfl⟩;rw [hfin];obtain ⟨ps,vp,vm,SC,hp,hall,hC⟩:=h.parts;refine yN w jb n.Wb sp o.k o.a o.b o.c o.d o.e o.co o.ro o.s (by omega) hsp hsp2 (fun t wr=>∃ s' c' f S',DB s o s' t/\s'.ok/\JD n jb s' d sp fl c' wr S'/\Mv S w S' wr/\t.size<=f/\(f+c'=c+o.s.size/\c<=c')/\ry sp f s' t c'=fin) _ (hC.at 0 _ rfl) hC.2.2.1 ?_ ?_ ?_ ?_
 ·intro wa hg;refine (oh (JS.thing _ _ _ _ _ _ _) ((JD.thing n jb s d sp fl c).grow h hg) (fun SW hW=>sm n s wa SW (gB o) hlim hok (ZU hB hg.size) (ht.on (hg.mono hB)) hW)).mono ?_;rintro e w' ⟨rfl,S',h',m'⟩;exact ⟨by rw [hb0],_,c,o.s.size,S',hM,hok.began _,h',(Mv.grow hg S).trans m',ZW _,⟨by omega,ZW _⟩,hfin⟩
 ·rintro t wr ⟨s',c',f,S',hm,hok',hJ,m,hf,hcf,hr⟩;obtain ⟨ps,vp,vm,SC,hp,hall,hC⟩:=hJ.parts;exact ⟨by omega,hC.at 0 _ rfl,hC.at 5 _ rfl⟩
 ·rintro t wr w9 ⟨s',c',f,S',hm,hok',hJ,m,hf,hcf,hr⟩ ht0 hg;obtain ⟨f,rfl⟩:∃ f',f=f'+1:=⟨f - 1,by omega⟩;obtain ⟨e1,e2,e3⟩:=vY t (min sp t.size) (by omega);obtain ⟨hz,hn⟩:=hm.next ht0 (by omega:0 < min sp t.size) (by omega);refine (oh (JS.thing _ _ _ _ _ _ _) ((JD.thing n jb s' d sp fl c').grow hJ hg) (fun SW hW=>vI n s' w9 SW (t.extract 0 (min sp t.size)) (by omega) hlim hok' hW)).mono ?_;rintro e w1 ⟨rfl,S1,h1,m1⟩;refine ⟨by rw [hz],(pR n jb _ d sp fl c' w1 S1 (by omega) hfl hlim (hok'.fed _) (hn.cl.trans hcl) h1).mono ?_⟩;rintro e w2 ⟨rfl,S2,h2,m2⟩;refine ⟨rfl,_,c'+1,f,S2,hn,hok'.fed _,h2,((m.trans (Mv.grow hg S')).trans m1).trans m2,by omega,⟨by omega,by omega⟩,?_⟩;rw [<-hr];show _=if t.size=0 then _ else _
  rw [ZO (by omega)]
 ·rintro t wr ⟨s',c',f,S',hm,hok',hJ,m,hf,hcf,hr⟩ ht0;have e:fin=(s',c'):=by
   rw [<-hr]
   cases f with
   | zero=>rfl
   | succ f=>show (if t.size=0 then _ else _)=_;rw [ZN ht0]
  rw [e];exact ⟨S',hJ,m⟩
theorem AB (n:Wn) (jb:Nat) (s:St) (sp fl c:Nat) (w:World) (S:Bl) (o:bj) (hsp2:sp<=1000) (hfl:fl<=5) (hc9:c<=1000000) (ho:o.is) (hos:o.s.size<=400) (hlim:n.lim < 0) (hok:s.ok) (hfi:s.fine) (hcl:s.cl=false) (hdr:s.drawing=true) (hroom:s.size+o.text.length<=1048576) (hB:n.B<=w.heap.size) (ht:bU n.B w) (h:JD n jb s s sp fl c w S):
  CP 99 #[zp jb,o.val] w (GF n jb w S (g_ sp s c o) sp fl):=by
 have hop:s.op=true:=by unfold St.drawing at hdr;simp at hdr;exact hdr.1
 obtain ⟨p,l,hpl,hpz⟩:=hok.some hop;have hl:=hok.pages;have hsz:=hok.size;obtain ⟨SJ,hJ,hsubJ,backJ⟩:=ah.fst (WD.thing _ _) h;obtain ⟨ps,vp,vm,hp,hS⟩:=hJ;rw [hpl] at hp;obtain ⟨x,ps',rfl⟩:∃ x ps',ps=x::ps':=by
  cases ps with
  | nil=>simp at hp
  | cons x ps'=>exact ⟨x,ps',rfl⟩
 obtain ⟨v0,q⟩:=x;simp only [Yo,List.cons.injEq] at hp;obtain ⟨rfl,hp⟩:=hp;obtain ⟨W,H,ops⟩:=q;have hlen:ps'.length+1<=80:=by
  rw [hpl] at hl;simp at hl;rw [<-hp] at hl;simpa using hl
 have hpn:ops.length<=1000000000:=by
  simp only at hpz;omega
 obtain ⟨Sa,Sb,hc,hr,hoff,back⟩:=ah.two (aS.thing _ _ _) hS;obtain ⟨Sp,Sq,hrp,hrq,hoff2,hsubq,backq⟩:=ah.two2 (aW.thing _ _ _ _ _ _) hr;obtain ⟨So,hro,hsubo,backo⟩:=ah.fst (aW.thing _ _ _ _ _ _) hrq;obtain ⟨S1,hm,hsub1,back1⟩:=ah.snd (dh.thing _ _) hro;obtain ⟨hS1,ow⟩:=hm;simp only at hS1 ow;obtain ⟨ad,cp,hform⟩:=eL ow;obtain ⟨g,cap,hfp,hcap,hcap2,hgl⟩:=iF hrp.2 (by simp);obtain ⟨Sr0,hrr0,hsubr0,_⟩:=ah.fst (ah.thing (dh.thing _ _) (aW.thing _ _ _ _ _ _)) hr;have hgy:jb≠g:=fun e=>hoff jb (by rw [hc.1];rfl) (hsubr0 jb (by rw [hrr0.1,hfp,e];rfl))
 have inq:∀ k,(Value.slice ad ops.length cp).ownBlock=some k->Sq k:=fun k e=>hsubo k (hsub1 k (by rw [hS1,hform];exact e))
 have ne:(Value.slice ad ops.length cp).ownBlock≠some jb:=fun e=>hoff jb (by rw [hc.1];rfl) (hsubq jb (inq jb e))
 have neg:(Value.slice ad ops.length cp).ownBlock≠some g:=fun e=>hoff2 g (by rw [hrp.1,hfp];rfl) (inq g e)
 have cg:=(show w.ownsRow n.B 100 3 (.slice g ((v0,W,H,ops)::ps').length cap) _ _ by rw [<-hfp];exact hrp.2).cellAt (ps'.length*3+2) (by simp;omega);have hget:(iy ((v0,(W,H,ops))::ps'))[ps'.length*3+2]? =some v0:=by
  rw [iy,Zb (by rw [eT];omega),eT,show ps'.length*3+2 - ps'.length*3=2 by omega];rfl
 rw [hget,hform] at cg;have hrp':=hrp;rw [hfp] at hrp';have fg:=(hrp'.cellAt (ps'.length*3+2) (by rw [eT];simp;omega)).2;refine DX w n.B jb g n.Wb (ps'.length+1) cap ops.length cp ps'.length sp ad o.k o.a o.b o.c o.d o.e o.co o.ro o.s (k_ ops) rfl (by omega) (by simpa using hcap) hcap2 hpn (hc.at 0 _ rfl) (by rw [hc.at 2 _ rfl,hfp];rfl) (hc.at 5 _ rfl) cg fg hc.2.2.1 hgl hgy hB (by rw [<-hform];exact ow) ne neg _ ?_;intro v w7 hg hA w9 hG9;obtain ⟨kr,km⟩:=hA.moved hg;rw [<-hform] at km;have m0:Mv S1 w (ob v) w7:=by rw [hS1];exact (Mv.grow ((ZT _ w).alloc (ZW _) _) (ob v0)).trans km
 obtain ⟨So',ho',mo⟩:=back1 (aW n.B 31 9 v (ops++[o]).length (k_ (ops++[o]))) w7 _ (by rw [qG,ZY];exact kr) m0;obtain ⟨Sq',hq',mq⟩:=backo _ _ _ ho' mo;obtain ⟨Sb',hb',mb⟩:=backq _ _ _ hq' mq;rw [hfp] at hb';obtain ⟨Sr,hrr,_,backr⟩:=ah.fst (ah.thing (ah.thing (dh.thing _ _) (aW.thing _ _ _ _ _ _)) (aW.thing _ _ _ _ _ _)) hb';obtain ⟨kp,mp⟩:=hrr.put (ps'.length*3+2) v;rw [Aj _ _ _ _ (ops++[o])] at kp;obtain ⟨Sz,hz,mz⟩:=backr _ _ _ kp mp;obtain ⟨SJ',hJ',mJ'⟩:=back _ _ _ hz (mb.trans mz);rw [<-hfp] at hJ';have hE:=Cc hdr ho hroom;have hJn:JS n.B jb n.Wb (s.draw o).2 sp fl c (w7.setCell (zq g (ps'.length*3+2)) v) SJ':=by
  rw [hE];exact ⟨(v,(W,H,ops++[o]))::ps',vp,vm,by simp [St.put,hpl,hp],hJ'⟩
 obtain ⟨S8,h8,m8⟩:=backJ _ _ _ hJn mJ';have h9:=(ah.thing (JS.thing _ _ _ _ _ _ _) (WD.thing _ _)).grow h8 hG9;have m9:=m8.trans (Mv.grow hG9 S8);have tb:=m9.tabBelow (JD.thing n jb s s sp fl c) h hB;obtain ⟨⟨im,gg,hV⟩,_⟩:=oF (sp:=sp) (c:=c) hdr ho hroom hok hfi;by_cases hkp:o.k=4/\0 < sp
 ·rw [ZN hkp];refine (xT n jb s (s.draw o).2 sp fl c w9 S8 o hkp.2 hsp2 hfl hkp.1 ho hos hc9 hlim hok hcl hdr hroom (ZU hB m9.size) (ht.on tb) h9).mono ?_;rintro e w' ⟨rfl,S',h',m'⟩;refine ⟨rfl,rfl,S',?_,m9.trans m'⟩;have hD:g_ sp s c o=ry sp o.s.size (s.begin (gB o)).2 o.s c:=by unfold g_;rw [ZN hkp]
  rw [<-hD] at h';obtain ⟨A1,A2,q1,q2,q3,q4⟩:=h';exact ⟨A1,A2,q1.like (by rw [hV,hE]) (by rw [hV,hE]) (by rw [hV,hE]) (by rw [hV,hE]),q2,q3,q4⟩
 ·rw [ZO hkp];have hD:g_ sp s c o=((s.draw o).2,c):=by unfold g_;rw [ZO hkp]
  rw [hD];obtain ⟨SW,hW,_,backW⟩:=ah.snd (JS.thing _ _ _ _ _ _ _) h9;refine (xd n s w9 SW o (by omega) hlim hok (ZU hB m9.size) (ht.on tb) hW).mono ?_;rintro e w' ⟨rfl,SW',hW',mW⟩;obtain ⟨S',h',m'⟩:=backW _ _ _ hW' mW;exact ⟨by rw [hE],rfl,S',h',m9.trans m'⟩
structure St.good (s:St) (i:Nat):Prop where
 ok:s.ok
 fine:s.fine
 left:s.left=0
 cl:s.cl=false
 size:s.size<=1500*i
theorem St.good.next {s:St} {i:Nat} (h:s.good i):s.good (i+1):=⟨h.ok,h.fine,h.left,h.cl,ZU h.size (by omega)⟩
theorem St.good.drawing {s:St} {i:Nat} (h:s.good i) (ho:s.op=true):s.drawing=true:=by unfold St.drawing;rw [ho,h.left];rfl
def vB (n:Wn) (jb:Nat) (sp fl:Nat) (r:St×Nat) (w:World) (S:Bl) (e:Ending) (w':World):Prop:=e=.returned true/\∃ S',JD n jb r.1 r.1 sp fl r.2 w' S'/\Mv S w S' w'
theorem oX {s:St} (hc:s.cl=false) {t:ByteArray} (ht:t.size<=100):s.titled t=(0,{s with title:=t}):=by
 unfold St.titled;rw [ZO (by simp [hc]),ZO (by omega)]
theorem tc {s:St} (ho:s.op=false) (hc:s.cl=false) {W H:Int} (hW:bG W 1 14400000) (hH:bG H 1 14400000) (hl:s.pages.length < 80):s.page W H=(0,{s with pages:=(W,H,[])::s.pages,op:=true,size:=0,g:=(lJ,[])}):=by
 unfold St.page;rw [ZO (by simp [ho,hc]),ZO (fun h=>h.elim (fun f=>f hW) (fun f=>f hH)),ZO (by omega)]
theorem oO {s:St} (ho:s.op=true) {t:ByteArray} (ht:t.size≠0) (ht2:t.size<=100) (hm:s.marks.length < 20):s.mark t=(0,{s with marks:=s.marks++[(t,s.pages.length - 1)]}):=by
 unfold St.mark;rw [ZO (by simp [ho]),ZO (by omega),ZO (by omega)]
theorem pG {s:St} (hd:s.drawing=true):s.endPage=(0,{s with op:=false,zs:=(s.g.2++aV s.g.1)::s.zs}):=by
 unfold St.endPage;rw [ZN hd]
theorem j6 (s:ByteArray):(s.extract 0 100).size<=100:=by simp;omega
theorem sd (s:ByteArray) (h:s.size≠0):(s.extract 0 100).size≠0:=by rw [ByteArray.size_extract];omega
theorem Av (n:Wn) (jb:Nat) (s:St) (sp fl c i:Nat) (x:pE) (w:World) (S:Bl) (hx:x.fits) (hk:aM x.k 8=6) (hg:s.good i) (h:JD n jb s s sp fl c w S):
  CP 51 #[zp jb,x.val] w (vB n jb sp fl ((s.titled (x.s.extract 0 100)).2,c) w S):=by
 obtain ⟨r1,_,_,_,_,_,_,_,r9⟩:=hx;have HK:=fun wx=>xE wx x.k 8 r1.1 r1.2 (by omega) (by omega)
 rw [hk] at HK;obtain ⟨ps,vp,vm,SC,hp,hall,hC⟩:=h.parts;refine CD w n.B jb n.Wb x.k x.a x.b x.c x.d x.e x.co x.ro x.s _ SC hC HK _ rfl (by simp [o5]) (x.s.extract 0 100) (fun wx=>qC wx x.s r9) ?_;intro wa w9 hga hg9;obtain ⟨S1,h1,m1⟩:=jw (lQ.thing _ _ _ _ _) (WD.thing _ _) ((JT _ _ _ _ _ _ _ _).grow hall hga) 1 (.string (x.s.extract 0 100)) (by simp [o5]);have h9:=(JT _ _ _ _ _ _ _ _).grow h1 hg9;have m9:Mv S w S1 w9:=((Mv.grow hga S).trans m1).trans (Mv.grow hg9 S1);have hE:=oX hg.cl (j6 x.s);refine (oh (ah.thing (aS.thing _ _ _) (lQ.thing _ _ _ _ _)) h9 (fun SW hW=>uc n s w9 SW (x.s.extract 0 100) (by have:=j6 x.s;omega) hW)).mono ?_;rintro e w' ⟨rfl,S',h',m'⟩;refine ⟨by rw [hE],rfl,S',?_,m9.trans m'⟩;rw [hE] at h' ⊢;exact JD.make (d:={s with title:=x.s.extract 0 100}) hp h'
theorem Aq (n:Wn) (jb:Nat) (s:St) (sp fl c i:Nat) (x:pE) (w:World) (S:Bl) (hx:x.fits) (hk:aM x.k 8=7) (hg:s.good i) (hlim:n.lim < 0) (h:JD n jb s s sp fl c w S):
  CP 51 #[zp jb,x.val] w (vB n jb sp fl (s,c) w S):=by
 obtain ⟨r1,_,_,_,_,_,_,_,r9⟩:=hx;have HK:=fun wx=>xE wx x.k 8 r1.1 r1.2 (by omega) (by omega)
 rw [hk] at HK;obtain ⟨ps,vp,vm,SC,hp,hall,hC⟩:=h.parts;refine Cx w n.B jb n.Wb x.k x.a x.b x.c x.d x.e x.co x.ro x.s _ SC hC HK _ rfl ?_;intro wa hga;have h9:=(JT _ _ _ _ _ _ _ _).grow hall hga;refine (oh (ah.thing (aS.thing _ _ _) (lQ.thing _ _ _ _ _)) h9 (fun SW hW=>m_ n s wa SW hlim hg.ok hW)).mono ?_;rintro e w' ⟨rfl,S',h',m'⟩;have hf:s.flush=0:=by unfold St.flush;rw [hg.cl];rfl
 exact ⟨by rw [hf],rfl,S',JD.make hp h',(Mv.grow hga S).trans m'⟩
theorem CU (n:Wn) (jb:Nat) (s:St) (sp fl c i:Nat) (x:pE) (w:World) (S:Bl) (hx:x.fits) (h6:aM x.k 8≠6) (h7:aM x.k 8≠7) (h0:aM x.k 8≠0) (h5:aM x.k 8≠5) (hop:s.op=true) (hi:i < 400) (hsp2:sp<=1000) (hfl:fl<=5) (hc9:c<=1000000) (hg:s.good i) (hlim:n.lim < 0) (hB:n.B<=w.heap.size) (ht:bU n.B w) (h:JD n jb s s sp fl c w S):
  CP 51 #[zp jb,x.val] w (vB n jb sp fl (g_ sp s c (zr x)) w S):=by
 have hx0:=hx;obtain ⟨r1,_,_,_,_,_,_,_,r9⟩:=hx;have HK:=fun wx=>xE wx x.k 8 r1.1 r1.2 (by omega) (by omega)
 obtain ⟨ps,vp,vm,SC,hp,hall,hC⟩:=h.parts;refine DG w n.B jb n.Wb x.k x.a x.b x.c x.d x.e x.co x.ro x.s _ SC hC _ (aM x.k 8) HK (eP _ _ (by omega)) (by simp;omega) (by simp;omega) (by simp;omega) (by simp;omega) (by rw [<-hop];rfl) ?_;intro wa hga;refine (Fu wa x hx0).mono ?_;rintro e w1 ⟨rfl,hb⟩;refine ⟨(zr x).val,rfl,?_⟩;have hgr:af w w1:=af.trans hga hb;have h1:=(JD.thing n jb s s sp fl c).grow h hgr;obtain ⟨ho,hos⟩:=BC x;have htx:=pD (zr x) ho hos;have hsz:=hg.size;refine (AB n jb s sp fl c w1 S (zr x) hsp2 hfl hc9 ho hos hlim hg.ok hg.fine hg.cl (hg.drawing hop) (by omega) (ZU hB hgr.size) (ht.on (hgr.mono hB)) h1).mono ?_;rintro e w' ⟨rfl,S',h',m'⟩;exact ⟨rfl,rfl,S',h',(Mv.grow hgr S).trans m'⟩
theorem qA (n:Wn) (jb:Nat) (s:St) (sp fl c i:Nat) (x:pE) (w:World) (S:Bl) (hx:x.fits) (hg:s.good i) (h:JD n jb s s sp fl c w S)
  (hc:(aM x.k 8=0/\s.pages.length=80)\/(aM x.k 8≠0/\aM x.k 8≠6/\aM x.k 8≠7/\s.op=false)\/(aM x.k 8=5/\s.op=true/\(x.s.size=0\/s.marks.length=20))):
  CP 51 #[zp jb,x.val] w (vB n jb sp fl (s,c) w S):=by
 obtain ⟨r1,_,_,_,_,_,_,_,r9⟩:=hx;have HK:=fun wx=>xE wx x.k 8 r1.1 r1.2 (by omega) (by omega)
 obtain ⟨ps,vp,vm,SC,hp,hall,hC⟩:=h.parts;have HZ:∀ wa,af w wa->vB n jb sp fl (s,c) w S (.returned true) wa:=fun wa hga=>⟨rfl,S,(JD.thing n jb s s sp fl c).grow h hga,Mv.grow hga S⟩
 obtain ⟨SJ,hJ,_,_⟩:=ah.fst (WD.thing _ _) hall;obtain ⟨Sb,hr,_,_⟩:=ah.snd (aS.thing _ _ _) hJ;obtain ⟨Sp,hrp,_,_⟩:=ah.fst (ah.thing (dh.thing _ _) (aW.thing _ _ _ _ _ _)) hr;obtain ⟨Sm,hrm,_,_⟩:=ah.third (aW.thing _ _ _ _ _ _) (dh.thing _ _) hr;obtain ⟨adp,capp,hfp⟩:=eL hrp.2;obtain ⟨adm,capm,hfm⟩:=eL hrm.2;have hlen:ps.length=s.pages.length:=by rw [<-hp];simp
 rcases hc with ⟨hk,hl⟩ | ⟨k0,k6,k7,ho⟩ | ⟨hk,ho,hs⟩
 ·rw [hk] at HK;exact DH w n.B jb n.Wb x.k x.a x.b x.c x.d x.e x.co x.ro x.s _ SC hC HK _ ps.length capp adp s.op (by rw [<-hfp];rfl) rfl (by omega) HZ
 ·exact DJ w n.B jb n.Wb x.k x.a x.b x.c x.d x.e x.co x.ro x.s _ SC hC _ (aM x.k 8) HK (eP _ _ (by omega)) (by simp;omega) (by simp;omega) (by simp;omega) (by rw [<-ho];rfl) HZ
 ·rw [hk] at HK;refine zy w n.B jb n.Wb x.k x.a x.b x.c x.d x.e x.co x.ro x.s _ SC hC HK _ (by rw [<-ho];rfl) s.marks.length capm adm (by rw [<-hfm];rfl) hg.ok.marks ?_ HZ;by_cases h0:x.s.size=0
  ·left;exact Zd (Array.eq_empty_of_size_eq_zero h0)
  ·exact .inr ⟨sj h0,by omega⟩
theorem CV (n:Wn) (jb:Nat) (s:St) (sp fl c i:Nat) (x:pE) (w:World) (S:Bl) (hx:x.fits) (hk:aM x.k 8=5) (hop:s.op=true) (hs0:x.s.size≠0) (hm20:s.marks.length < 20) (hg:s.good i) (hB:n.B<=w.heap.size) (h:JD n jb s s sp fl c w S):
  CP 51 #[zp jb,x.val] w (vB n jb sp fl ((s.mark (x.s.extract 0 100)).2,c) w S):=by
 obtain ⟨r1,_,_,_,_,_,_,_,r9⟩:=hx;have HK:=fun wx=>xE wx x.k 8 r1.1 r1.2 (by omega) (by omega)
 rw [hk] at HK;obtain ⟨ps,vp,vm,SC,hp,hall,hC⟩:=h.parts;obtain ⟨SJ,hJ,_,_⟩:=ah.fst (WD.thing _ _) hall;obtain ⟨Sa,Sb,hCa,hr,hoff,_⟩:=ah.two (aS.thing _ _ _) hJ;obtain ⟨Sp,hrp,_,_⟩:=ah.fst (ah.thing (dh.thing _ _) (aW.thing _ _ _ _ _ _)) hr;obtain ⟨Sm,hrm,hsubm,_⟩:=ah.third (aW.thing _ _ _ _ _ _) (dh.thing _ _) hr;obtain ⟨adp,capp,hfp⟩:=eL hrp.2;obtain ⟨ad,cap,hfm⟩:=eL hrm.2;have hlen:ps.length=s.pages.length:=by rw [<-hp];simp
 obtain ⟨p,l,hpl,_⟩:=hg.ok.some hop;have hN:0 < ps.length:=by rw [hlen,hpl];simp
 have hN2:=hg.ok.pages;have ne:(Value.slice ad s.marks.length cap).ownBlock≠some jb:=by
  intro e;refine hoff jb ?_ (hsubm jb ?_)
  ·rw [hCa.1];rfl
  ·rw [hrm.1,hfm];exact e
 subst hfm;have hE:=oO hop (sd x.s hs0) (j6 x.s) hm20;refine DI w n.B jb n.Wb x.k x.a x.b x.c x.d x.e x.co x.ro x.s _ SC hC HK _ s.marks.length cap ps.length capp ad adp (iz s.marks) rfl (by rw [<-hfp];rfl) rfl (by rw [<-hop];rfl) hm20 hN (by omega) (sj hs0) hB hrm.2 ne (x.s.extract 0 100) (fun wx=>qC wx x.s r9) ?_;intro w0 v w7 w9 hg0 hg7 hA7 hg9;have e1:((ps.length:Nat):Int) - 1=((s.pages.length - 1:Nat):Int):=by omega
 rw [e1] at hA7;obtain ⟨S7,h7,m7⟩:=yk (WD.thing _ _) ((JT _ _ _ _ _ _ _ _).grow hall hg0) hg7 hA7;obtain ⟨S8,h8,m8⟩:=jw (lQ.thing _ _ _ _ _) (WD.thing _ _) h7 3 v (by simp [o5]);have h9:=(JT _ _ _ _ _ _ _ _).grow h8 hg9;have m9:Mv S w S8 w9:=(((Mv.grow hg0 S).trans m7).trans m8).trans (Mv.grow hg9 S8);refine (oh (ah.thing (aS.thing _ _ _) (lQ.thing _ _ _ _ _)) h9 (fun SW hW=>Dz n s w9 SW (x.s.extract 0 100) (by have:=j6 x.s;omega) hg.ok (ZU hB m9.size) hW)).mono ?_;rintro e w' ⟨rfl,S',h',m'⟩;refine ⟨by rw [hE],rfl,S',?_,m9.trans m'⟩;rw [hE] at h' ⊢;exact JD.make (d:={s with marks:=s.marks++[(x.s.extract 0 100,s.pages.length - 1)]}) hp h'
theorem CW (n:Wn) (jb:Nat) (s:St) (sp fl c i:Nat) (x:pE) (w:World) (S:Bl) (hx:x.fits) (hk:aM x.k 8=0) (h80:s.pages.length < 80) (hg:s.good i) (hlim:n.lim < 0) (hB:n.B<=w.heap.size) (ht:bU n.B w) (h:JD n jb s s sp fl c w S):
  CP 51 #[zp jb,x.val] w (vB n jb sp fl (((if s.op then s.endPage.2 else s).page (au x.a 1) (au x.b 1)).2,c) w S):=by
 obtain ⟨r1,r2,r3,_,_,_,_,_,r9⟩:=hx;have HK:=fun wx=>xE wx x.k 8 r1.1 r1.2 (by omega) (by omega)
 rw [hk] at HK;have HP1:=fun wx=>lM wx x.a 1 r2.1 r2.2 (by omega) (by omega)
 have HP2:=fun wx=>lM wx x.b 1 r3.1 r3.2 (by omega) (by omega)
 have iW:bG (au x.a 1) 1 14400000:=bo x.a 1 (by omega);have iH:bG (au x.b 1) 1 14400000:=bo x.b 1 (by omega);obtain ⟨ps,vp,vm,SC,hp,hall,hC⟩:=h.parts;obtain ⟨SJ,hJ,_,_⟩:=ah.fst (WD.thing _ _) hall;obtain ⟨Sa,Sb,hCa,hr,hoff,_⟩:=ah.two (aS.thing _ _ _) hJ;obtain ⟨Sp,hrp,hsubp,_⟩:=ah.fst (ah.thing (dh.thing _ _) (aW.thing _ _ _ _ _ _)) hr;obtain ⟨ad,cap,hfp⟩:=eL hrp.2;have hlen:ps.length=s.pages.length:=by rw [<-hp];simp
 have ne:(Value.slice ad ps.length cap).ownBlock≠some jb:=by
  intro e;refine hoff jb ?_ (hsubp jb ?_)
  ·rw [hCa.1];rfl
  ·rw [hrp.1,hfp];exact e
 subst hfp;have REST:∀ (s1:St) (wb:World) (Sx:Bl),s1.good i->s1.op=false->s1.title=s.title->s1.pages=s.pages->s1.marks=s.marks->n.B<=wb.heap.size->bU n.B wb->
   ah (ah (aS n.B jb (o5 n.Wb s (.slice ad ps.length cap) vm sp fl c)) (lQ n.B ps s.marks (.slice ad ps.length cap) vm)) (WD n s1) wb Sx->Mv S w Sx wb->
   ∀ w0 v w7 w9,af wb w0->w0.grownBy w7 (Value.slice ad ps.length cap).ownBlock->gq w0 (Value.slice ad ps.length cap).ownBlock n.B 100 3 (ps.length+1) (iy ps++[.int .i64 (au x.a 1),.int .i64 (au x.b 1),.slice none 0 0]) v w7->af ((w7.setCell (zq jb 2) v).setCell (zq jb 4) true) w9->
   CP 34 #[zp n.Wb,(au x.a 1:Int),(au x.b 1:Int)] w9 fun e w'=>e=.returned (0:Int)/\vB n jb sp fl ((s1.page (au x.a 1) (au x.b 1)).2,c) w S (.returned true) w':=by
  intro s1 wb Sx hg1 ho1 ht1 hp1 hm1 hBb htb hallb mb w0 v w7 w9 hg0 hg7 hA7 hg9;obtain ⟨S7,h7,m7⟩:=BD (WD.thing _ _) ((JT _ _ _ _ _ _ _ _).grow hallb hg0) hg7 hA7;obtain ⟨S8,h8,m8⟩:=jw (lQ.thing _ _ _ _ _) (WD.thing _ _) h7 2 v (by simp [o5]);obtain ⟨S8',h8',m8'⟩:=jw (lQ.thing _ _ _ _ _) (WD.thing _ _) h8 4 true (by simp [o5]);have h9:=(JT _ _ _ _ _ _ _ _).grow h8' hg9;have mb9:Mv Sx wb S8' w9:=((((Mv.grow hg0 Sx).trans m7).trans m8).trans m8').trans (Mv.grow hg9 S8');have m9:=mb.trans mb9;have tb:=mb9.tabBelow (JT _ _ _ _ _ _ _ _) hallb hBb;have hE:=tc ho1 hg1.cl iW iH (by rw [hp1];exact h80);refine (oh (ah.thing (aS.thing _ _ _) (lQ.thing _ _ _ _ _)) h9 (fun SW hW=>vW n s1 w9 SW _ _ hlim hg1.ok (ZU hBb mb9.size) (htb.on tb) hW)).mono ?_;rintro e w' ⟨rfl,S',h',m'⟩;refine ⟨by rw [hE],rfl,S',?_,m9.trans m'⟩;rw [hE] at h' ⊢;refine JD.make (d:={s1 with pages:=(au x.a 1,au x.b 1,[])::s1.pages,op:=true,size:=0,g:=(lJ,[])}) (ps:=(.slice none 0 0,(au x.a 1,au x.b 1,[]))::ps) (vp:=v) (vm:=vm) (by rw [hp1, <-hp];rfl) ?_;simp only [ht1,hm1] at h';simp only [o5,ht1,hm1];exact h'
 cases hop:s.op with
 | false=>
  rw [ZO (by decide)];refine Cy w n.B jb n.Wb x.k x.a x.b x.c x.d x.e x.co x.ro x.s _ SC hC HK _ ps.length cap ad (iy ps) (au x.a 1) (au x.b 1) rfl rfl (by rw [<-hop];rfl) (by omega) hB hrp.2 ne HP1 HP2 ?_;intro wa hga;exact REST s wa S hg hop rfl rfl rfl (ZU hB hga.size) (ht.on (hga.mono hB)) ((JT _ _ _ _ _ _ _ _).grow hall hga) (Mv.grow hga S)
 | true=>
  rw [ZN rfl];refine Cz w n.B jb n.Wb x.k x.a x.b x.c x.d x.e x.co x.ro x.s _ SC hC HK _ ps.length cap ad (iy ps) (au x.a 1) (au x.b 1) rfl rfl (by rw [<-hop];rfl) (by omega) hB hrp.2 ne HP1 HP2 ?_;intro wa hga;have halla:=(JT _ _ _ _ _ _ _ _).grow hall hga;have hEE:=pG (hg.drawing hop);refine (oh (ah.thing (aS.thing _ _ _) (lQ.thing _ _ _ _ _)) halla (fun SW hW=>yf n s wa SW hlim hg.ok (ZU hB hga.size) (ht.on (hga.mono hB)) hW)).mono ?_;rintro e wb ⟨rfl,S2,h2,m2⟩;obtain ⟨SJ2,hJ2,_,_⟩:=ah.fst (WD.thing _ _) h2;obtain ⟨S3,hC3,_,_⟩:=ah.fst (lQ.thing _ _ _ _ _) hJ2;obtain ⟨Sb2,hr2,_,_⟩:=ah.snd (aS.thing _ _ _) hJ2;obtain ⟨Sp2,hrp2,_,_⟩:=ah.fst (ah.thing (dh.thing _ _) (aW.thing _ _ _ _ _ _)) hr2;have mm:=(Mv.grow hga S).trans m2;have tb:=mm.tabBelow (JT _ _ _ _ _ _ _ _) hall hB;refine ⟨by rw [hEE],S3,hC3,hrp2.2,ZU hB mm.size,fun k hk hk2=>m2.keep hk2 (fun e=>by have:=(JT _ _ _ _ _ _ _ _).lt hall e;omega),?_⟩;refine REST s.endPage.2 wb S2 ⟨hg.ok.ended,hg.fine.ended,?_,?_,?_⟩ ?_ ?_ ?_ ?_ (ZU hB mm.size) (ht.on tb) h2 mm
  all_goals rw [hEE]
  ·exact hg.left
  ·exact hg.cl
  ·exact hg.size
def tP (sp:Nat) (s:St) (c:Nat) (x:pE):St×Nat:=
 if aM x.k 8=6 then ((s.titled (x.s.extract 0 100)).2,c)
 else if aM x.k 8=7 then (s,c)
 else if aM x.k 8=0 then (if s.pages.length < 80 then (((if s.op then s.endPage.2 else s).page (au x.a 1) (au x.b 1)).2,c) else (s,c))
 else if s.op=false then (s,c)
 else if aM x.k 8=5 then (if x.s.size=0\/s.marks.length=20 then (s,c) else ((s.mark (x.s.extract 0 100)).2,c))
 else g_ sp s c (zr x)
theorem D9 (n:Wn) (jb:Nat) (s:St) (sp fl c i:Nat) (x:pE) (w:World) (S:Bl) (hx:x.fits) (hi:i < 400) (hsp2:sp<=1000) (hfl:fl<=5) (hc9:c<=1000000) (hg:s.good i) (hlim:n.lim < 0) (hB:n.B<=w.heap.size) (ht:bU n.B w) (h:JD n jb s s sp fl c w S):
  CP 51 #[zp jb,x.val] w (vB n jb sp fl (tP sp s c x) w S):=by
 have hk:=eP x.k 8 (by omega);have hpg:=hg.ok.pages;have hmk:=hg.ok.marks;unfold tP;by_cases k6:aM x.k 8=6
 ·rw [ZN k6];exact Av n jb s sp fl c i x w S hx k6 hg h
 rw [ZO k6];by_cases k7:aM x.k 8=7
 ·rw [ZN k7];exact Aq n jb s sp fl c i x w S hx k7 hg hlim h
 rw [ZO k7];by_cases k0:aM x.k 8=0
 ·rw [ZN k0];by_cases h80:s.pages.length < 80
  ·rw [ZN h80];exact CW n jb s sp fl c i x w S hx k0 h80 hg hlim hB ht h
  ·rw [ZO h80];exact qA n jb s sp fl c i x w S hx hg h (.inl ⟨k0,by omega⟩)
 rw [ZO k0];by_cases ho:s.op=false
 ·rw [ZN ho];exact qA n jb s sp fl c i x w S hx hg h (.inr (.inl ⟨k0,k6,k7,ho⟩))
 rw [ZO ho];have hop:s.op=true:=by cases e:s.op with | true=>rfl | false=>exact absurd e ho
 by_cases k5:aM x.k 8=5
 ·rw [ZN k5];by_cases hn:x.s.size=0\/s.marks.length=20
  ·rw [ZN hn];exact qA n jb s sp fl c i x w S hx hg h (.inr (.inr ⟨k5,hop,hn⟩))
  ·rw [ZO hn];exact CV n jb s sp fl c i x w S hx k5 hop (fun e=>hn (.inl e)) (by omega) hg hB h
 ·rw [ZO k5];exact CU n jb s sp fl c i x w S hx k6 k7 k0 k5 hop hi hsp2 hfl hc9 hg hlim hB ht h
theorem CI (w:World) (y Wb:Nat) (a0:Option Addr) (len cap b off:Nat) (sc:Nat->pE) (hm:len<=9223372036854775807) (ha:0 < len->a0=some ⟨b,off,none⟩) (I:Nat->World->Prop) (Z:Ending->World->Prop)
  (h00:Hid (I 0 w))
  (FS:Hid (∀ wr k i,I k wr->i < len->∀ (j:Nat) u,([.int .i64 (sc i).k,.int .i64 (sc i).a,.int .i64 (sc i).b,.int .i64 (sc i).c,.int .i64 (sc i).d,.int .i64 (sc i).e,.int .i64 (sc i).co,.int .i64 (sc i).ro,.string (sc i).s]:List Value)[j]? =some u->wr.cell? (zq b (off+i*9+j))=some u))
  (H1:Hid (∀ wr i,I i wr->i < len->i < 400->CP 51 #[zp y,(sc i).val] wr fun e w'=>e=.returned true/\CP 52 #[zp y] w' fun e w''=>e=.returned true/\I (i+1) w''))
  (HE:Hid (∀ wr i,I i wr->i=min len 400->wr.cell? y=some (.pointer (some ⟨Wb,0,none⟩))/\((wr.cell? (zq y 4)=some (.bool false)/\CP 18 #[zp Wb] wr fun e w'=>e=.returned (0:Int)/\Z (.returned true) w')\/(wr.cell? (zq y 4)=some (.bool true)/\CP 33 #[zp Wb] wr fun e w1=>e=.returned (0:Int)/\w1.cell? y=some (.pointer (some ⟨Wb,0,none⟩))/\CP 18 #[zp Wb] w1 fun e w'=>e=.returned (0:Int)/\Z (.returned true) w')))):
  CP 22 #[zp y,.slice a0 len cap] w Z:=by
 go_enter func22,ntmps22
 go_wp2_with fail
 go_loopg [5,6,7] (len+1) (fun gg ix _ _ wr=>∃ i:Nat,i<=len/\i<=400/\len - i < gg/\ix=.int .i64 (i:Int)/\Hid (I i wr))
 case atStart=>exact ⟨0,by omega,by omega,by omega,rfl,h00⟩
 case round=>
  obtain ⟨i,hi,hi4,hgk,rfl,hI⟩:=hrel;clear h00;by_cases hlt:i < len
  ·have d1:decide ((i:Int) < (len:Int))=true:=by simp;omega
   by_cases hlt4:i < 400
   ·have d4:decide ((i:Int) < 400)=true:=by simp;omega
    have hae:=ha (by omega);subst hae;have FX:=ai (FS.out wr i i hI.out hlt);have G1:=ai (H1.out wr i hI.out hlt hlt4);clear FS H1 HE hI ha;go_wp2_with (refine wpList_load_mid rfl 76 (.tmp 21) rfl b (off+i*9) rfl _ _ FX.out underlying76 rfl (by kernel_rfl) ?_)
    refine G1.out.mono ?_;rintro e w1 ⟨rfl,hf⟩;have G2:=ai hf;clear hf;go_wp2_with fail
    refine G2.out.mono ?_;rintro e w2 ⟨rfl,hn⟩;have HN:=ai hn;clear hn G1 G2 FX;go_wp2;go_roundg (gk - 1)
    case measure=>omega
    case rel=>exact ⟨i+1,by omega,by omega,by omega,by go_num,HN⟩
   ·have d4:decide ((i:Int) < 400)=false:=by simp;omega
    obtain ⟨c0,e4⟩:=HE.out wr i hI.out (by omega);clear FS H1 HE hI ha;rcases e4 with ⟨c4,hc⟩ | ⟨c4,he⟩
    ·have HC:=ai hc;clear hc;go_wp2_with fail
     refine HC.out.mono ?_;rintro e w1 ⟨rfl,hz⟩;have HZ:=ai hz;clear hz HC;go_wp2
     first | exact HZ.out | (go_ret;exact HZ.out)
    ·have HC:=ai he;clear he;go_wp2_with fail
     refine HC.out.mono ?_;rintro e w1 ⟨rfl,k0,hz⟩;have HC2:=ai hz;clear hz HC c0 c4;go_wp2_with fail
     refine HC2.out.mono ?_;rintro e w2 ⟨rfl,hz⟩;have HZ:=ai hz;clear hz HC2;go_wp2
     first | exact HZ.out | (go_ret;exact HZ.out)
  ·have d1:decide ((i:Int) < (len:Int))=false:=by simp;omega
   obtain ⟨c0,e4⟩:=HE.out wr i hI.out (by omega);clear FS H1 HE hI ha;rcases e4 with ⟨c4,hc⟩ | ⟨c4,he⟩
   ·have HC:=ai hc;clear hc;go_wp2_with fail
    refine HC.out.mono ?_;rintro e w1 ⟨rfl,hz⟩;have HZ:=ai hz;clear hz HC;go_wp2
    first | exact HZ.out | (go_ret;exact HZ.out)
   ·have HC:=ai he;clear he;go_wp2_with fail
    refine HC.out.mono ?_;rintro e w1 ⟨rfl,k0,hz⟩;have HC2:=ai hz;clear hz HC c0 c4;go_wp2_with fail
    refine HC2.out.mono ?_;rintro e w2 ⟨rfl,hz⟩;have HZ:=ai hz;clear hz HC2;go_wp2
    first | exact HZ.out | (go_ret;exact HZ.out)
structure St.like (a b:St):Prop where
 title:a.title=b.title
 pages:a.pages=b.pages
 marks:a.marks=b.marks
 op:a.op=b.op
 size:a.size=b.size
theorem Eu {s:St} (h:¬ s.op=false):s.op=true:=by cases e:s.op with | true=>rfl | false=>exact absurd e h
theorem St.good.page {s:St} {i:Nat} (hg:s.good i) (h80:s.pages.length < 80) (x:pE):((if s.op then s.endPage.2 else s).page (au x.a 1) (au x.b 1)).2.good (i+1)/\((if s.op then s.endPage.2 else s).page (au x.a 1) (au x.b 1)).2.like {s with pages:=(au x.a 1,au x.b 1,[])::s.pages,op:=true,size:=0}:=by
 have iW:bG (au x.a 1) 1 14400000:=bo x.a 1 (by omega);have iH:bG (au x.b 1) 1 14400000:=bo x.b 1 (by omega)
 cases hop:s.op with
 | false=>
  rw [ZO (by decide)];have hE:=tc hop hg.cl iW iH h80;exact ⟨⟨hg.ok.paged _ _,hg.fine.paged _ _,by rw [hE];exact hg.left,by rw [hE];exact hg.cl,by rw [hE];exact YO _⟩,by rw [hE];exact ⟨rfl,rfl,rfl,rfl,rfl⟩⟩
 | true=>
  rw [ZN rfl];have hEE:=pG (hg.drawing hop);have hE:=tc (s:=s.endPage.2) (by rw [hEE]) (by rw [hEE];exact hg.cl) iW iH (by rw [hEE];exact h80);exact ⟨⟨hg.ok.ended.paged _ _,hg.fine.ended.paged _ _,by rw [hE,hEE];exact hg.left,by rw [hE,hEE];exact hg.cl,by rw [hE];exact YO _⟩,by rw [hE,hEE];exact ⟨rfl,rfl,rfl,rfl,rfl⟩⟩
theorem B8 {sp c i:Nat} {s:St} {x:pE} (hg:s.good i) (hi:i < 400):(tP sp s c x).1.good (i+1)/\(tP sp s c x).2<=c+400:=by
 unfold tP;split
 ·have hE:=oX hg.cl (j6 x.s);exact ⟨⟨hg.ok.titled _,hg.fine.titled _,by rw [hE];exact hg.left,by rw [hE];exact hg.cl,by rw [hE];exact ZU hg.size (by omega)⟩,by show c<=_;omega⟩
 split
 ·exact ⟨hg.next,by show c<=_;omega⟩
 split
 ·split
  ·rename_i h80
   exact ⟨(hg.page h80 x).1,by show c<=_;omega⟩
  ·exact ⟨hg.next,by show c<=_;omega⟩
 split
 ·exact ⟨hg.next,by show c<=_;omega⟩
 rename_i ho
 have hop:=Eu ho;split
 ·split
  ·exact ⟨hg.next,by show c<=_;omega⟩
  ·rename_i hn
   have hmk:=hg.ok.marks;have hE:=oO hop (sd x.s (fun e=>hn (.inl e))) (j6 x.s) (by omega);exact ⟨⟨hg.ok.marked _,hg.fine.marked hg.ok _,by rw [hE];exact hg.left,by rw [hE];exact hg.cl,by rw [hE];exact ZU hg.size (by omega)⟩,by show c<=_;omega⟩
 ·obtain ⟨h1,h2⟩:=BC x;have htx:=pD (zr x) h1 h2;have hsz:=hg.size;obtain ⟨⟨im,gg,hV⟩,b1,b2,b3⟩:=oF (sp:=sp) (c:=c) (hg.drawing hop) h1 (by omega:s.size+(zr x).text.length<=1048576) hg.ok hg.fine;exact ⟨⟨b1,b2,by rw [hV],by rw [hV];exact hg.cl,by rw [hV];show s.size+(zr x).text.length<=_;omega⟩,by omega⟩
theorem Cw {sp sq c e i:Nat} {s p:St} {x:pE} (hg:s.good i) (hp:p.good i) (hi:i < 400) (h:s.like p):(tP sp s c x).1.like (tP sq p e x).1:=by
 unfold tP;rw [h.pages,h.op,h.marks];split
 ·rw [oX hg.cl (j6 x.s),oX hp.cl (j6 x.s)];exact ⟨rfl,h.pages,h.marks,h.op,h.size⟩
 split
 ·exact h
 split
 ·split
  ·rename_i h80
   have a:=(hg.page (by rw [h.pages];exact h80) x).2;have b:=(hp.page h80 x).2;rw [h.op] at a;exact ⟨a.title.trans (h.title.trans b.title.symm),a.pages.trans ((by rw [h.pages]:(_:List (Int×Int×List bj))=_).trans b.pages.symm),a.marks.trans (h.marks.trans b.marks.symm),a.op.trans b.op.symm,a.size.trans b.size.symm⟩
  ·exact h
 split
 ·exact h
 rename_i ho
 have hop:=Eu ho;have hos:s.op=true:=h.op.trans hop;split
 ·split
  ·exact h
  ·rename_i hn
   have hmk:=hp.ok.marks;rw [oO hos (sd x.s (fun e=>hn (.inl e))) (j6 x.s) (by rw [h.marks];omega),oO hop (sd x.s (fun e=>hn (.inl e))) (j6 x.s) (by omega)];exact ⟨h.title,h.pages,by show s.marks++_=p.marks++_;rw [h.marks,h.pages],h.op,h.size⟩
 ·obtain ⟨h1,h2⟩:=BC x;have htx:=pD (zr x) h1 h2;have hs1:=hg.size;have hs2:=hp.size;obtain ⟨⟨im,gg,hV⟩,_⟩:=oF (sp:=sp) (c:=c) (hg.drawing hos) h1 (by omega:s.size+(zr x).text.length<=1048576) hg.ok hg.fine;obtain ⟨⟨im2,gg2,hV2⟩,_⟩:=oF (sp:=sq) (c:=e) (hp.drawing hop) h1 (by omega:p.size+(zr x).text.length<=1048576) hp.ok hp.fine;rw [hV,hV2];exact ⟨h.title,by show s.put _=p.put _;unfold St.put;rw [h.pages],h.marks,h.op,by show s.size+_=p.size+_;rw [h.size]⟩
def gV (sp:Nat) (sc:Nat->pE):Nat->St×Nat
 | 0=>(St.new,0)
 | i+1=>((tP sp (gV sp sc i).1 (gV sp sc i).2 (sc i)).1,(tP sp (gV sp sc i).1 (gV sp sc i).2 (sc i)).2+1)
theorem na (sp:Nat) (sc:Nat->pE):∀ i,i<=400->(gV sp sc i).1.good i/\(gV sp sc i).2<=401*i
 | 0,_=>⟨⟨St.new_ok,St.new_fine,rfl,rfl,YO _⟩,YO _⟩
 | i+1,hi=>by
  obtain ⟨a,b⟩:=na sp sc i (by omega);obtain ⟨q,r⟩:=B8 (sp:=sp) (c:=(gV sp sc i).2) (x:=sc i) a (by omega);exact ⟨q,by show _+1<=_;omega⟩
theorem va (sp sq:Nat) (sc:Nat->pE):∀ i,i<=400->(gV sp sc i).1.like (gV sq sc i).1
 | 0,_=>⟨rfl,rfl,rfl,rfl,rfl⟩
 | i+1,hi=>Cw (na sp sc i (by omega)).1 (na sq sc i (by omega)).1 (by omega) (va sp sq sc i (by omega))
def mc (s:St):St:=(if s.op then s.endPage.2 else s).close.2
theorem oy {s:St} (ho:s.op=false) (hc:s.cl=false):s.close=(0,{s with cl:=true}):=by
 unfold St.close;rw [ZO (by simp [ho,hc])]
theorem Ce {s:St} {i:Nat} (hg:s.good i):(mc s).ok/\(mc s).fine/\(mc s).cl=true/\(mc s).title=s.title/\(mc s).pages=s.pages/\(mc s).marks=s.marks:=by
 unfold mc
 cases hop:s.op with
 | false=>
  rw [ZO (by decide)];have hE:=oy hop hg.cl;exact ⟨hg.ok.closed,hg.fine.closed,by rw [hE],by rw [hE],by rw [hE],by rw [hE]⟩
 | true=>
  rw [ZN rfl];have hEE:=pG (hg.drawing hop);have hE:=oy (s:=s.endPage.2) (by rw [hEE]) (by rw [hEE];exact hg.cl);exact ⟨hg.ok.ended.closed,hg.fine.ended.closed,by rw [hE],by rw [hE,hEE],by rw [hE,hEE],by rw [hE,hEE]⟩
def GG (n:Wn) (jb:Nat) (s d:St) (sp fl:Nat) (w:World) (S:Bl) (w':World):Prop:=∃ c S',JD n jb s d sp fl c w' S'/\Mv S w S' w'
theorem qB (n:Wn) (jb sp fl:Nat) (a0:Option Addr) (len cap b off:Nat) (sc:Nat->pE) (w:World) (S:Bl) (hsp2:sp<=1000) (hfl:fl<=5) (hm:len<=9223372036854775807) (ha:0 < len->a0=some ⟨b,off,none⟩) (hf:∀ i,i < len->(sc i).fits) (hlim:n.lim < 0) (hB:n.B<=w.heap.size) (ht:bU n.B w) (hbB:b < n.B\/len=0)
  (FS:∀ i,i < len->∀ (j:Nat) u,([.int .i64 (sc i).k,.int .i64 (sc i).a,.int .i64 (sc i).b,.int .i64 (sc i).c,.int .i64 (sc i).d,.int .i64 (sc i).e,.int .i64 (sc i).co,.int .i64 (sc i).ro,.string (sc i).s]:List Value)[j]? =some u->w.cell? (zq b (off+i*9+j))=some u)
  (h:JD n jb St.new St.new sp fl 0 w S):
  CP 22 #[zp jb,.slice a0 len cap] w fun e w'=>e=.returned true/\GG n jb (mc (gV sp sc (min len 400)).1) (gV sp sc (min len 400)).1 sp fl w S w':=by
 have TB:∀ {S':Bl} {wr:World},Mv S w S' wr->Below n.B w wr:=fun m=>m.tabBelow (JD.thing n jb St.new St.new sp fl 0) h hB
 refine CI w jb n.Wb a0 len cap b off sc hm ha (fun i wr=>i<=400/\∃ S',JD n jb (gV sp sc i).1 (gV sp sc i).1 sp fl (gV sp sc i).2 wr S'/\Mv S w S' wr) _ ?_ ?_ ?_ ?_
 ·exact ⟨YO _,S,h,Mv.refl _ _⟩
 ·rintro wr k i ⟨_,S',_,m⟩ hi j u hu;rw [(TB m).cell (p:=zq b (off+i*9+j)) (by show b < n.B;omega)];exact FS i hi j u hu
 ·rintro wr i ⟨_,S',hJ,m⟩ hi hi4;obtain ⟨hg,hc⟩:=na sp sc i (by omega);obtain ⟨hg1,hal⟩:=B8 (sp:=sp) (c:=(gV sp sc i).2) (x:=sc i) hg hi4;refine (D9 n jb _ sp fl _ i (sc i) wr S' (hf i hi) hi4 hsp2 hfl (by omega) hg hlim (ZU hB m.size) (ht.on (TB m)) hJ).mono ?_;rintro e w1 ⟨rfl,S1,hJ1,m1⟩;refine ⟨rfl,(pR n jb _ _ sp fl _ w1 S1 (by omega) hfl hlim hg1.ok hg1.cl hJ1).mono ?_⟩;rintro e w2 ⟨rfl,S2,hJ2,m2⟩;exact ⟨rfl,by omega,S2,hJ2,(m.trans m1).trans m2⟩
 ·rintro wr i ⟨hi4,S',hJ,m⟩ rfl;have hg:=(na sp sc (min len 400) (by omega)).1;obtain ⟨ps,vp,vm,SC,hp,hall,hC⟩:=hJ.parts;refine ⟨hC.at 0 _ rfl,?_⟩;obtain ⟨s,hs⟩:∃ s,(gV sp sc (min len 400)).1=s:=⟨_,rfl⟩;rw [hs] at hg hJ hC hp hall ⊢;generalize (gV sp sc (min len 400)).2=i at hJ hC hall;have hev:∀ b:Bool,s.op=b->mc s=(if b then s.endPage.2 else s).close.2:=fun b e=>by unfold mc;rw [e]
  cases hop:s.op with
  | false=>
   refine .inl ⟨by rw [hC.at 4 _ rfl,hop],?_⟩;have hE:=oy hop hg.cl;refine (oh (JS.thing _ _ _ _ _ _ _) hJ (fun SW hW=>tv n s wr SW hlim hg.ok hg.fine (ZU hB m.size) (ht.on (TB m)) hW)).mono ?_;rintro e w' ⟨rfl,S2,h2,m2⟩;rw [hev _ hop,ZO (by decide)];exact ⟨by rw [hE],rfl,i,S2,h2,m.trans m2⟩
  | true=>
   refine .inr ⟨by rw [hC.at 4 _ rfl,hop],?_⟩;have hEE:=pG (hg.drawing hop);refine (oh (JS.thing _ _ _ _ _ _ _) hJ (fun SW hW=>yf n s wr SW hlim hg.ok (ZU hB m.size) (ht.on (TB m)) hW)).mono ?_;rintro e w1 ⟨rfl,S1,h1,m1⟩;have m01:=m.trans m1;have h1':JD n jb s.endPage.2 s sp fl i w1 S1:=h1;obtain ⟨ps1,vp1,vm1,SC1,_,_,hC1⟩:=h1'.parts;refine ⟨by rw [hEE],hC1.at 0 _ rfl,?_⟩;have hE:=oy (s:=s.endPage.2) (by rw [hEE]) (by rw [hEE];exact hg.cl);refine (oh (JS.thing _ _ _ _ _ _ _) h1 (fun SW hW=>tv n s.endPage.2 w1 SW hlim hg.ok.ended hg.fine.ended (ZU hB m01.size) (ht.on (TB m01)) hW)).mono ?_;rintro e w' ⟨rfl,S2,h2,m2⟩;rw [hev _ hop,ZN rfl];exact ⟨by rw [hE],rfl,i,S2,h2,m01.trans m2⟩
section
open Go.RowKit Go.Shelf
attribute [local go_sem] Oper.semAt_some
theorem zB (s:ByteArray) (w:World):
  CP 187 #[s] w fun e W'=>e=.returned (.func (.func 218) #[] #[zp w.heap.size])/\W'=w.alloc (.cells #[s] 9):=by
 have hmf:∀ (fn:Fn) (first cap:Array Value) (w:World),(Instr.makeFunc fn first cap).run prog w=.ok (.func fn first cap) w:=fun _ _ _ _=>rfl
 go_enter func187,ntmps187
 go_wp2;go_ret;exact ⟨rfl,rfl⟩
theorem yw (s:ByteArray) (w:World):
  CP 142 #[s] w fun e W'=>e=.returned (.func (.func 186) #[] #[zp w.heap.size])/\W'=w.alloc (.cells #[s] 9):=by
 have hmf:∀ (fn:Fn) (first cap:Array Value) (w:World),(Instr.makeFunc fn first cap).run prog w=.ok (.func fn first cap) w:=fun _ _ _ _=>rfl
 go_enter func142,ntmps142
 go_wp2;go_ret;exact ⟨rfl,rfl⟩
def Cj (bods:List (List UInt8)) (j:Nat) (args:Array Value) (j':Nat):Prop:=∃ h:j < bods.length,j'=j+1/\args=#[.int .i64 ((j+1:Nat):Int),.string ⟨(bods[j]).toArray⟩]
def B9 (M:List Nat) (i:Nat):Nat:=if i=0 then 0 else M.getD (i - 1) 0
theorem yy (B b:Nat) (s:ByteArray) (M:List Nat) (bods:List (List UInt8)) (xi:World->Prop) (hpre:∀ w w',xi w->Below B w w'->xi w') (hM:M.length=bods.length+1) (hbl:bods.length<=1000000) (hsz:s.size<=2000000000)
  (hmono:∀ i (h:i < M.length),B9 M i<=M[i]/\M[i]<=s.size)
  (HQ:Hid (∀ b,tO Fence.wide prog 218 #[zp b] B (aS B b [.string s]) xi 0 (fun _=>True) (B_ M) (fun i=>i=bods.length+1)))
  (HBo:Hid (∀ i (h:i+1 < M.length) (h':i < bods.length) W,xi W->B<=W.heap.size->QB 188 #[.string (s.extract (B9 M (i+1)) M[i+1])] W (.string ⟨(bods[i]).toArray⟩))):
  tO Fence.wide prog 186 #[zp b] B (aS B b [.string s]) xi 0 (fun _=>True) (Cj bods) (fun j=>j=bods.length):=by
 rintro l K Kx hK hKx _ W hp hBW hY S h0;have hCt:=aS.thing B b [.string s];obtain ⟨SC,kC,_,_⟩:=ah.fst (hK 0) h0;have c0:W.cell? ⟨b,0,none⟩=some (.string s):=kC.at 0 _ rfl;have hge:=fun k=>(ah.thing hCt (hK 0)).ge (k:=k) h0
 have HO:=ai (zB s);have hblw:b < W.heap.size:=ZD W _ c0;obtain ⟨n,hn⟩:∃ n,W.heap.size=n:=⟨_,rfl⟩;obtain ⟨W3,hW3⟩:∃ W3,((W.alloc (Obj.cells #[Value.func (Fn.yield l) #[] #[]] 189)).alloc (Obj.cells #[Value.int IntKind.i64 0] 3)).alloc (Obj.cells #[Value.int IntKind.i64 0] 3)=W3:=⟨_,rfl⟩;have hb3:Below n W W3:=by
  rw [<-hW3, <-hn];exact (((ZT _ W).alloc (ZW _) _).alloc (by simp) _).alloc (by simp;omega) _
 have hz3:W3.heap.size=n+1+1+1:=by rw [<-hW3];simp [hn]
 have c3:W3.cell? ⟨b,0,none⟩=some (.string s):=(hb3.cell (p:=⟨b,0,none⟩) (by show b < n;omega)).trans c0;have bx3:∃ S3,Bx B n [[.func (.yield l) #[] #[]],[.int .i64 0],[.int .i64 0]] W3 S3:=by
  obtain ⟨S1,b1⟩:=(Bx.nil B W hBW).snoc [.func (.yield l) #[] #[]] 189 (by simp);obtain ⟨S2,b2⟩:=b1.snoc [.int .i64 0] 3 (by simp);obtain ⟨S3,b3⟩:=b2.snoc [.int .i64 0] 3 (by simp);rw [hn,hW3] at b3;exact ⟨S3,b3⟩
 obtain ⟨S3,b3⟩:=bx3;obtain ⟨a1,a2⟩:=ah.new (ah.thing hCt (hK 0)) h0 b3 (by rw [hn];exact hb3) (fun k e=>by rw [b3.1] at e;rw [hn];exact e.1);have hB3:B<=W3.heap.size:=by omega
 have hC4:=aS.alloc (B:=B) (vs:=[.string s]) (w:=W3) (t:=9) hB3;obtain ⟨a3,a4⟩:=ah.new (ah.thing (Bx.thing B _ _) (ah.thing hCt (hK 0))) a1 hC4 ((ZT _ _).alloc (ZW _) _) (fun k e=>Nat.le_of_eq (Eq.symm e));have a5:=a2.trans a4;have hB4:B<=(W3.alloc (Obj.cells #[Value.string s] 9)).heap.size:=by simp;omega
 have hbel4:Below B W (W3.alloc (Obj.cells #[Value.string s] 9)):=a5.below hge hBW;have HA:=ai a3;have HM:=ai a5;have HK0:=ai h0;clear a1 a2 a3 a4 a5 hC4 b3 h0;refine callsIn_of_wp_marks func186 rfl trivial ?_ rfl;simp only [ntmps186,List.size_toArray,ZX,ZR,Nat.reduceAdd,Nat.reduceSub,Array.replicate_succ,Array.replicate_zero,List.push_toArray,List.append_toArray,Zq,ZE];rw [<-hW3] at c3;have HW3:=ai hW3;have HN:=ai hn;have HZ3:=ai hz3;clear hW3 hn hz3
 gi_wp2
 refine ⟨trivial,rfl,(callsIn_wide.2 (HO.out _)).mono ?_⟩;rintro e W' ⟨rfl,rfl⟩;have hn:=HN.out;have hz3:=HZ3.out;have hW3:=HW3.out;rw [hW3] at c3 ⊢;rw [hz3] at HA HM ⊢;obtain ⟨W4,hW4⟩:∃ W4,W3.alloc (Obj.cells #[Value.string s] 9)=W4:=⟨_,rfl⟩;rw [hW4] at HA HM hB4 hbel4 ⊢;have hz4:n+1+1+1 < W4.heap.size:=by rw [<-hW4];simp;omega
 rw [hn];clear hW4 hW3 HO c3 c0 kC HN HZ3 HW3 hz3 hn
 gi_wp2
 refine ot (B:=B) rfl (fun _=>trivial) rfl rfl (enters_of func218 (by kernel_rfl) rfl) (HQ.out _) (fun W1 hb=>hpre _ _ (hpre _ _ hp hbel4) hb) (aS.thing _ _ _) ?hps
  (fun i=>ah (Bx B n [[.func (.yield l) #[] #[]],[.int .i64 (i:Int)],[.int .i64 (B9 M i:Int)]]) (ah (aS B b [.string s]) (K (i - 1))))
  (fun j W S=>∃ i:Nat,j=.ret/\ah (Bx B n [[.func (.yield l) #[] #[]],[.int .i64 (i:Int)],[.int .i64 (B9 M i:Int)]]) (ah (aS B b [.string s]) Kx) W S) ?hI ?hIx (fun a _ _ _=>trivial) hB4 HA.out ?round ?done ?stop
 case hps=>
  rintro a args a' ⟨_,_,rfl⟩;rfl
 case hI=>exact fun a=>ah.thing (Bx.thing _ _ _) (ah.thing hCt (hK _))
 case hIx=>exact fun j=>aJ.any fun i=>aJ.pure (ah.thing (Bx.thing _ _ _) (ah.thing hCt hKx))
 case round=>
  rintro l' i args i' W0 ⟨hi,rfl,rfl⟩
  gi_wp2
  refine ⟨trivial,?_⟩;rintro W5 S5 h5 hb5;obtain ⟨R1,bx,_,backB⟩:=ah.fst (ah.thing hCt (hK _)) h5;obtain ⟨R2,kc,_,_⟩:=ah.mid (Bx.thing _ _ _) (hK _) h5;obtain ⟨R3,kk,_,backK⟩:=ah.third (Bx.thing _ _ _) hCt h5;have y0:W5.cell? ⟨n,0,none⟩=some (.func (.yield l) #[] #[]):=bx.at 0 0 _ _ rfl rfl;have y1:W5.cell? ⟨n+1,0,none⟩=some (.int .i64 (i:Int)):=bx.at 1 0 _ _ rfl rfl;have y2:W5.cell? ⟨n+1+1,0,none⟩=some (.int .i64 (B9 M i:Int)):=bx.at 2 0 _ _ rfl rfl;have yb:W5.cell? ⟨b,0,none⟩=some (.string s):=kc.at 0 _ rfl;obtain ⟨hm1,hm2⟩:=hmono i hi;obtain ⟨nx,hnx⟩:∃ nx,M[i]=nx:=⟨_,rfl⟩;obtain ⟨av,hav⟩:∃ av,B9 M i=av:=⟨_,rfl⟩;have HB1:Hid (∀ (_:0 < i) (h2:i - 1 < bods.length) (W:World),xi W->B<=W.heap.size->QB 188 #[.string (s.extract (B9 M i) M[i])] W (.string ⟨(bods[i - 1]).toArray⟩)):=by
   intro h' h2;have:=HBo.out (i - 1) (by omega) h2;have e:i - 1+1=i:=by omega
   simp only [e] at this;exact this
  simp only [hnx,hav] at HB1 hm1 hm2 y2 ⊢;have ln0:n < W5.heap.size:=by have:=hb5.size;omega
  have ln1:n+1 < W5.heap.size:=by have:=hb5.size;omega
  have ln2:n+1+1 < W5.heap.size:=by have:=hb5.size;omega
  have lnb:b < W5.heap.size:=ZD W5 _ yb;have q1:decide (nx < av)=false:=by simp;omega
  have q2:decide (s.size < nx)=false:=by simp;omega
  have q3:decide ((nx:Int) < (av:Int))=false:=by simp;omega
  have q4:decide ((s.size:Int) < (nx:Int))=false:=by simp;omega
  have ln0:n < W5.heap.size:=by have:=hb5.size;omega
  have ln1:n+1 < W5.heap.size:=by have:=hb5.size;omega
  have ln2:n+1+1 < W5.heap.size:=by have:=hb5.size;omega
  have lnb:b < W5.heap.size:=ZD W5 _ yb;have q1:decide (nx < av)=false:=by simp;omega
  have q2:decide (s.size < nx)=false:=by simp;omega
  have q3:decide ((nx:Int) < (av:Int))=false:=by simp;omega
  have q4:decide ((s.size:Int) < (nx:Int))=false:=by simp;omega
  have ln0:n < W5.heap.size:=by have:=hb5.size;omega
  have ln1:n+1 < W5.heap.size:=by have:=hb5.size;omega
  have ln2:n+1+1 < W5.heap.size:=by have:=hb5.size;omega
  have lnb:b < W5.heap.size:=ZD W5 _ yb;have q1:decide (nx < av)=false:=by simp;omega
  have q2:decide (s.size < nx)=false:=by simp;omega
  have q3:decide ((nx:Int) < (av:Int))=false:=by simp;omega
  have q4:decide ((s.size:Int) < (nx:Int))=false:=by simp;omega
  by_cases h0i:i=0
  ·subst h0i
   gi_wp2
   refine qN (fun _=>trivial) 10 _ (ag [(0:Int),false,false,undef,undef,undef,undef,undef,undef,undef]) (by kernel_rfl) rfl (by kernel_rfl) (by kernel_rfl) aq ?_;simp only [TD];refine ⟨fun w1 hG hd=>?_,fun v0=>?_⟩
   ·clear hd;have cc:=(Zc hG (p:=⟨n+1,0,none⟩) ln1).trans y1
    gi_wp2
    exact RG
   simp only [TN];refine ⟨fun w1 hG hd=>?_,fun v1=>?_⟩
   ·have d0:v0=.int .i64 0:=hd ⟨0,.data⟩ (by simp) rfl;clear hd;subst d0
    gi_wp2
    exact RG
   simp only [TN];refine ⟨fun w1 hG hd=>?_,fun v2=>?_⟩
   ·have d1:v1=.bool false:=hd ⟨1,.data⟩ (by simp) rfl;clear hd;subst d1
    gi_wp2
    exact RG
   simp only [TN];refine ⟨fun w1 hG hd=>?_,fun v3=>?_⟩
   ·have d2:v2=.bool false:=hd ⟨2,.guard⟩ (by simp) rfl;clear hd;subst d2
    gi_wp2
    exact RG
   simp only [TN];refine ⟨fun w1 hG hd=>?_,fun v4=>?_⟩
   ·have d2:v2=.bool false:=hd ⟨2,.guard⟩ (by simp) rfl;clear hd;subst d2
    gi_wp2
    exact RG
   simp only [TN];refine ⟨fun w1 hG hd=>?_,fun v5=>?_⟩
   ·have d2:v2=.bool false:=hd ⟨2,.guard⟩ (by simp) rfl;clear hd;subst d2
    gi_wp2
    exact RG
   simp only [TN];refine ⟨fun w1 hG hd=>?_,fun v6=>?_⟩
   ·have d2:v2=.bool false:=hd ⟨2,.guard⟩ (by simp) rfl;clear hd;subst d2
    gi_wp2
    exact RG
   simp only [TN];refine ⟨fun w1 hG hd=>?_,fun v7=>?_⟩
   ·have d2:v2=.bool false:=hd ⟨2,.guard⟩ (by simp) rfl;clear hd;subst d2
    gi_wp2
    exact RG
   simp only [TN];refine ⟨fun w1 hG hd=>?_,fun v8=>?_⟩
   ·have d5:v5=undef:=hd ⟨5,.data⟩ (by simp) rfl;have d6:v6=undef:=hd ⟨6,.data⟩ (by simp) rfl;have d7:v7=undef:=hd ⟨7,.data⟩ (by simp) rfl;have d2:v2=.bool false:=hd ⟨2,.guard⟩ (by simp) rfl;clear hd;subst d5 d6 d7 d2
    gi_wp2
    exact RG
   simp only [TN];refine ⟨fun w1 hG hd=>?_,fun v9=>?_⟩
   ·have d8:v8=undef:=hd ⟨8,.data⟩ (by simp) rfl;have d2:v2=.bool false:=hd ⟨2,.guard⟩ (by simp) rfl;clear hd;subst d8 d2
    gi_wp2
    refine ⟨trivial,?_⟩
    gi_wp2
    exact RG
   simp only [TN];intro w1 hG hd;have d0:v0=.int .i64 0:=hd 0 (by omega);have d1:v1=.bool false:=hd 1 (by omega);have d2:v2=.bool false:=hd 2 (by omega);have d3:v3=undef:=hd 3 (by omega);have d4:v4=undef:=hd 4 (by omega);have d5:v5=undef:=hd 5 (by omega);have d6:v6=undef:=hd 6 (by omega);have d7:v7=undef:=hd 7 (by omega);have d8:v8=undef:=hd 8 (by omega);have d9:v9=undef:=hd 9 (by omega);subst d0 d1 d2 d3 d4 d5 d6 d7 d8 d9;clear hd;have h6:=(ah.thing (Bx.thing _ _ _) (ah.thing hCt (hK _))).grow h5 hG;obtain ⟨R6,bx6,_,backB6⟩:=ah.fst (ah.thing hCt (hK _)) h6;have z1:w1.cell? ⟨n+1,0,none⟩=some (.int .i64 0):=bx6.at 1 0 _ _ rfl rfl;have z2:w1.cell? ⟨n+1+1,0,none⟩=some (.int .i64 (av:Int)):=by rw [<-hav];exact bx6.at 2 0 _ _ rfl rfl
   have f1:w1.frozen? ⟨n+1,0,none⟩=false:=bx6.fz 1 0 (by simp);have f2:w1.frozen? ⟨n+1+1,0,none⟩=false:=bx6.fz 2 0 (by simp)
   gi_wp2
   refine ⟨(fun _ h=>nomatch h),?_⟩
   gi_wp2
   obtain ⟨b1,m1⟩:=bx6.set 1 0 _ (.int .i64 ((0+1:Nat):Int)) rfl (by simp);obtain ⟨b2,m2⟩:=b1.set 2 0 _ (.int .i64 (nx:Int)) rfl (by simp);obtain ⟨S7,h7,m7⟩:=backB6 _ _ _ b2 (m1.trans m2);refine ⟨S7,?_,(Mv.grow hG S5).trans m7⟩;have ea:B9 M (0+1)=nx:=by rw [<-hnx];simp [B9,hi]
   dsimp only;rw [ea];exact h7
  ·have hi1:i - 1 < bods.length:=by omega
   obtain ⟨bd,hbd⟩:∃ bd,bods[i - 1]=bd:=⟨_,rfl⟩;have HB2:Hid (∀ w1,af W5 w1->QB 188 #[.string (s.extract av nx)] w1 (.string ⟨bd.toArray⟩)):=by
    intro w1 hG;have:=HB1.out (by omega) hi1 w1 (hpre _ _ hp (hbel4.trans (hb5.trans (hG.mono (ZU hB4 hb5.size))))) (ZU hB4 (ZU hb5.size hG.size));rw [hbd] at this;exact this
   have p1:decide ((0:Int) < (i:Int))=true:=by simp;omega
   have p2:decide (0 < i)=true:=by simp;omega
   gi_wp2
   refine qN (fun _=>trivial) 10 _ (ag [.int .i64 (i:Int),true,true,.func (.yield l) #[] #[],.int .i64 (i:Int),s,.int .i64 (av:Int),.int .i64 (nx:Int),.string (s.extract av nx),.string ⟨bd.toArray⟩]) (by kernel_rfl) rfl (by kernel_rfl) (by kernel_rfl) aq ?_;simp only [TD];refine ⟨fun w1 hG hd=>?_,fun v0=>?_⟩
   ·clear hd;have cc:=(Zc hG (p:=⟨n+1,0,none⟩) ln1).trans y1
    gi_wp2
    exact RG
   simp only [TN];refine ⟨fun w1 hG hd=>?_,fun v1=>?_⟩
   ·have d0:v0=.int .i64 (i:Int):=hd ⟨0,.data⟩ (by simp) rfl;clear hd;subst d0
    gi_wp2
    exact RG
   simp only [TN];refine ⟨fun w1 hG hd=>?_,fun v2=>?_⟩
   ·have d1:v1=.bool true:=hd ⟨1,.data⟩ (by simp) rfl;clear hd;subst d1
    gi_wp2
    exact RG
   simp only [TN];refine ⟨fun w1 hG hd=>?_,fun v3=>?_⟩
   ·have d2:v2=.bool true:=hd ⟨2,.guard⟩ (by simp) rfl;clear hd;subst d2;have cc:=(Zc hG (p:=⟨n,0,none⟩) ln0).trans y0
    gi_wp2
    exact RG
   simp only [TN];refine ⟨fun w1 hG hd=>?_,fun v4=>?_⟩
   ·have d2:v2=.bool true:=hd ⟨2,.guard⟩ (by simp) rfl;clear hd;subst d2;have cc:=(Zc hG (p:=⟨n+1,0,none⟩) ln1).trans y1
    gi_wp2
    exact RG
   simp only [TN];refine ⟨fun w1 hG hd=>?_,fun v5=>?_⟩
   ·have d2:v2=.bool true:=hd ⟨2,.guard⟩ (by simp) rfl;clear hd;subst d2;have cc:=(Zc hG (p:=⟨b,0,none⟩) lnb).trans yb
    gi_wp2
    exact RG
   simp only [TN];refine ⟨fun w1 hG hd=>?_,fun v6=>?_⟩
   ·have d2:v2=.bool true:=hd ⟨2,.guard⟩ (by simp) rfl;clear hd;subst d2;have cc:=(Zc hG (p:=⟨n+1+1,0,none⟩) ln2).trans y2
    gi_wp2
    exact RG
   simp only [TN];refine ⟨fun w1 hG hd=>?_,fun v7=>?_⟩
   ·have d2:v2=.bool true:=hd ⟨2,.guard⟩ (by simp) rfl;clear hd;subst d2
    gi_wp2
    exact RG
   simp only [TN];refine ⟨fun w1 hG hd=>?_,fun v8=>?_⟩
   ·have d5:v5=.string s:=hd ⟨5,.data⟩ (by simp) rfl;have d6:v6=.int .i64 (av:Int):=hd ⟨6,.data⟩ (by simp) rfl;have d7:v7=.int .i64 (nx:Int):=hd ⟨7,.data⟩ (by simp) rfl;have d2:v2=.bool true:=hd ⟨2,.guard⟩ (by simp) rfl;clear hd;subst d5 d6 d7 d2
    gi_wp2
    exact RG
   simp only [TN];refine ⟨fun w1 hG hd=>?_,fun v9=>?_⟩
   ·have d8:v8=.string (s.extract av nx):=hd ⟨8,.data⟩ (by simp) rfl;have d2:v2=.bool true:=hd ⟨2,.guard⟩ (by simp) rfl;clear hd;subst d8 d2;have HX:=ai (HB2.out w1 hG)
    gi_wp2
    refine ⟨trivial,rfl,(CallsIn.inRound l' (callsIn_wide.2 HX.out)).mono ?_⟩;rintro e w2 ⟨rfl,hB2⟩
    gi_wp2
    exact ⟨rfl,hB2⟩
   simp only [TN];intro w1 hG hd;have d0:v0=.int .i64 (i:Int):=hd 0 (by omega);have d1:v1=.bool true:=hd 1 (by omega);have d2:v2=.bool true:=hd 2 (by omega);have d3:v3=.func (.yield l) #[] #[]:=hd 3 (by omega);have d4:v4=.int .i64 (i:Int):=hd 4 (by omega);have d5:v5=.string s:=hd 5 (by omega);have d6:v6=.int .i64 (av:Int):=hd 6 (by omega);have d7:v7=.int .i64 (nx:Int):=hd 7 (by omega);have d8:v8=.string (s.extract av nx):=hd 8 (by omega);have d9:v9=.string ⟨bd.toArray⟩:=hd 9 (by omega);subst d0 d1 d2 d3 d4 d5 d6 d7 d8 d9;clear hd;have h6:=(ah.thing (Bx.thing _ _ _) (ah.thing hCt (hK _))).grow h5 hG;obtain ⟨R6,kk6,_,backK6⟩:=ah.third (Bx.thing _ _ _) hCt h6;have hbw:Below B W w1:=hbel4.trans (hb5.trans (hG.mono (ZU hB4 hb5.size)));obtain ⟨fn,tmps,assign,body,hy,hR⟩:=hY (i - 1) _ _ w1 R6 ⟨hi1,rfl,rfl⟩ kk6 hbw;have ei:i - 1+1=i:=by omega
   rw [ei,hbd] at hy;rw [ei] at hR
   gi_wp2
   refine ⟨rfl,RoundIn.mono hR ?_⟩;rintro e w2 (⟨rfl,SK3,kK3,mK3⟩ | ⟨rfl,SK3,kK3,mK3⟩)
   ·obtain ⟨S8,h8,m8⟩:=backK6 _ _ _ kK3 mK3;obtain ⟨R9,bx6,_,backB6⟩:=ah.fst (ah.thing hCt (hK _)) h8;have z1:w2.cell? ⟨n+1,0,none⟩=some (.int .i64 (i:Int)):=bx6.at 1 0 _ _ rfl rfl;have z2:w2.cell? ⟨n+1+1,0,none⟩=some (.int .i64 (av:Int)):=by rw [<-hav];exact bx6.at 2 0 _ _ rfl rfl
    have f1:w2.frozen? ⟨n+1,0,none⟩=false:=bx6.fz 1 0 (by simp);have f2:w2.frozen? ⟨n+1+1,0,none⟩=false:=bx6.fz 2 0 (by simp);have hil:i<=1000000000:=by omega
    gi_wp2
    obtain ⟨b1,m1⟩:=bx6.set 1 0 _ (.int .i64 ((i+1:Nat):Int)) rfl (by simp);obtain ⟨b2,m2⟩:=b1.set 2 0 _ (.int .i64 (nx:Int)) rfl (by simp);obtain ⟨S7,h7,m7⟩:=backB6 _ _ _ b2 (m1.trans m2);refine ⟨S7,?_,((Mv.grow hG S5).trans m8).trans m7⟩;have ea:B9 M (i+1)=nx:=by rw [<-hnx];simp [B9,hi]
    dsimp only;rw [ea];exact h7
   ·obtain ⟨S8,h8,m8⟩:=backK6 _ _ _ kK3 mK3
    gi_wp2
    refine ⟨S8,⟨i,rfl,?_⟩,(Mv.grow hG S5).trans m8⟩;exact h8
 case done=>
  rintro D i W6 S6 rfl hs hm;obtain ⟨T3,k3,_,back3⟩:=ah.snd (ah.thing (aS.thing _ _ _) (ah.thing (Bx.thing _ _ _) (ah.thing hCt (hK _)))) hs
  gi_wp2
  obtain ⟨p6,m6⟩:=k3.put (.deferred none);obtain ⟨T7,k7,m7⟩:=back3 _ _ _ p6 m6;obtain ⟨T8,k8,m8⟩:=ah.drop k7;obtain ⟨T9,k9,m9⟩:=ah.drop (ah.swap k8);obtain ⟨T10,k10,m10⟩:=ah.drop (ah.swap k9);refine ⟨by simp,.inl ⟨_,_,rfl,run_takeDeferred k3.2.2,?_⟩⟩;refine ⟨_,results_none rfl _ _ _,⟨_,rfl⟩,.inl ⟨_,T10,rfl,k10,?_⟩⟩;exact ((((HM.out.trans hm).trans m7).trans m8).trans m9).trans m10
 case stop=>
  rintro D c W6 S6 hs hm;obtain ⟨T3,k3,_,back3⟩:=ah.snd (ah.thing (aS.thing _ _ _) (aJ.any fun i=>aJ.pure (ah.thing (Bx.thing _ _ _) (ah.thing hCt hKx)))) hs;obtain ⟨p6,m6⟩:=k3.put (.deferred none);obtain ⟨T7,k7,m7⟩:=back3 _ _ _ p6 m6;obtain ⟨T8,k8,m8⟩:=ah.drop k7;obtain ⟨T9,⟨i,rfl,k9⟩,m9⟩:=ah.drop (ah.swap k8);obtain ⟨T10,k10,m10⟩:=ah.drop (ah.swap k9)
  gi_wp2
  refine ⟨by simp,.inl ⟨_,_,rfl,run_takeDeferred k3.2.2,?_⟩⟩;refine ⟨_,results_none rfl _ _ _,⟨_,rfl⟩,.inr ⟨T10,k10,?_⟩⟩;exact ((((HM.out.trans hm).trans m7).trans m8).trans m9).trans m10
end
section
open Go.RowKit Go.Shelf
attribute [local go_sem] Oper.semAt_some
def Gd (n:Nat) (p:Value) (l:List Value) (k:Nat) (v:Value) (w:World):Prop:=
 if k=12 then n < w.heap.size/\w.cell? n=some p/\∀ o,w.frozen? (zq n o)=false else v=l.getD k undef
theorem Ge {n:Nat} {p:Value} {l:List Value} {m:Nat} (k:Nat) (v:Value) (w w':World) (_:k < m) (h:Gd n p l k v w) (g:af w w'):Gd n p l k v w':=by
 unfold Gd at h ⊢;split at h
 ·next hk=>
  rw [ZN hk];exact ⟨ZK h.1 g.size,(Zc g (p:=n) h.1).trans h.2.1,fun o=>(Below.frozen g (p:=zq n o) h.1).trans (h.2.2 o)⟩
 ·next hk=>rw [ZO hk];exact h
theorem Fx {n:Nat} {p:Value} {l:List Value} {m:Nat} (k:Nat) (v:Value) (w w':World) (_:k < m) (hk:k≠12) (h:Gd n p l k v w) (_:w.grownBy w' (some n)):Gd n p l k v w':=by
 unfold Gd at h ⊢;rw [ZO hk] at h ⊢;exact h
theorem CL (w:World) (n o:Nat) (v:Value):w.grownBy (w.setCell (zq n o) v) (some n):=
 ⟨rfl,rfl,rfl,by simp [World.setCell],fun k hk hn=>YX _ _ _ _ (fun e=>hn (by rw [e]))⟩
theorem ua (w:World) (s:ByteArray) (bods:List (List UInt8)) (st:Nat->ip) (xi:World->Prop) (hp:xi w) (hpre:∀ w',Below w w w'->xi w') (hst0:st 0=⟨⟨#[]⟩,[],[],[]⟩) (hend:(st bods.length).sh.length=(st bods.length).cs.length) (hend2:(st bods.length).cs.length<=1000)
  (HQ:Hid (∀ b,tO Fence.wide prog 186 #[zp b] w.heap.size (aS w.heap.size b [.string s]) xi 0 (fun _=>True) (Cj bods) (fun j=>j=bods.length)))
  (HTk:Hid (∀ j l W S (h:j < bods.length),Below w w W->cw w.heap.size l (st j) W S->CP 143 #[zp l,((j+1:Nat):Int),.string ⟨(bods[j]).toArray⟩] W fun e w'=>e=.returned true/\∃ S',cw w.heap.size l (st (j+1)) w' S'/\Mv S W S' w')):
  CP 96 #[s] w fun e w'=>∃ l,e=.returned (.tuple #[zp l,true])/\∃ S',cw w.heap.size l (st bods.length) w' S'/\Below w w w':=by
 have HO:=ai (yw s);refine (callsIn_wide (n:=0)).1 ?_;refine callsIn_of_wp_marks func96 rfl trivial ?_ rfl;simp only [ntmps96,List.size_toArray,ZX,ZR,Nat.reduceAdd,Nat.reduceSub,Array.replicate_succ,Array.replicate_zero,List.push_toArray,List.append_toArray,Zq,ZE]
 gi_wp2
 refine ⟨trivial,rfl,(callsIn_wide.2 (HO.out _)).mono ?_⟩;rintro e W' ⟨rfl,rfl⟩
 gi_wp2
 clear HO;have st0:∃ S,ah (aS w.heap.size (w.heap.size+1+1+1+1) [.string s]) (ah (aS w.heap.size (w.heap.size+1+1+1) [.pointer (some ⟨w.heap.size+1+1,0,none⟩)]) (ah (cw w.heap.size (w.heap.size+1+1) (st 0)) (Bx w.heap.size w.heap.size [[.pointer none],[.bool false]]))) (((((w.alloc (Obj.cells #[Value.pointer none] 143)).alloc (Obj.cells #[Value.bool false] 4)).alloc (Obj.cells #[Value.string {data:=#[]},Value.slice none 0 0,Value.slice none 0 0,Value.slice none 0 0] 148)).alloc (Obj.cells #[Value.pointer (some {block:=w.heap.size+1+1,off:=0})] 143)).alloc (Obj.cells #[Value.string s] 9)) S/\(∀ k,S k->w.heap.size<=k):=by
  obtain ⟨S1,b1⟩:=(Bx.nil w.heap.size w (by omega)).snoc [.pointer none] 143 (by simp);obtain ⟨S2,b2⟩:=b1.snoc [.bool false] 4 (by simp);obtain ⟨S3,h3,hS3⟩:=cw.new (B:=w.heap.size) (w:=(w.alloc (Obj.cells #[Value.pointer none] 143)).alloc (Obj.cells #[Value.bool false] 4)) (by simp;omega);obtain ⟨a1,_⟩:=ah.new (Bx.thing _ _ _) b2 h3 ((ZT _ _).alloc (ZW _) _) (fun k e=>Nat.le_of_eq (hS3 k e).symm);have hc3:=aS.alloc (B:=w.heap.size) (vs:=[.pointer (some ⟨w.heap.size+1+1,0,none⟩)]) (w:=((w.alloc (Obj.cells #[Value.pointer none] 143)).alloc (Obj.cells #[Value.bool false] 4)).alloc (Obj.cells #[Value.string {data:=#[]},Value.slice none 0 0,Value.slice none 0 0,Value.slice none 0 0] 148)) (t:=143) (by simp;omega);obtain ⟨a2,_⟩:=ah.new (ah.thing (cw.thing _ _ _) (Bx.thing _ _ _)) a1 hc3 ((ZT _ _).alloc (ZW _) _) (fun k e=>Nat.le_of_eq (Eq.symm e));have hc4:=aS.alloc (B:=w.heap.size) (vs:=[.string s]) (w:=(((w.alloc (Obj.cells #[Value.pointer none] 143)).alloc (Obj.cells #[Value.bool false] 4)).alloc (Obj.cells #[Value.string {data:=#[]},Value.slice none 0 0,Value.slice none 0 0,Value.slice none 0 0] 148)).alloc (Obj.cells #[Value.pointer (some {block:=w.heap.size+1+1,off:=0})] 143)) (t:=9) (by simp;omega);obtain ⟨a3,_⟩:=ah.new (ah.thing (aS.thing _ _ _) (ah.thing (cw.thing _ _ _) (Bx.thing _ _ _))) a2 hc4 ((ZT _ _).alloc (ZW _) _) (fun k e=>Nat.le_of_eq (Eq.symm e));simp only [World.size_alloc,Zq,ZE] at a3;have hge:=fun k=>(ah.thing (aS.thing w.heap.size _ _) (ah.thing (aS.thing _ _ _) (ah.thing (cw.thing _ _ _) (Bx.thing _ _ _)))).ge (k:=k) a3
  rw [hst0];exact ⟨_,a3,hge⟩
 have hbel:Below w w (((((w.alloc (Obj.cells #[Value.pointer none] 143)).alloc (Obj.cells #[Value.bool false] 4)).alloc (Obj.cells #[Value.string {data:=#[]},Value.slice none 0 0,Value.slice none 0 0,Value.slice none 0 0] 148)).alloc (Obj.cells #[Value.pointer (some {block:=w.heap.size+1+1,off:=0})] 143)).alloc (Obj.cells #[Value.string s] 9)):=(((((ZT _ w).alloc (ZW _) _).alloc (by simp) _).alloc (by simp;omega) _).alloc (by simp;omega) _).alloc (by simp;omega) _;obtain ⟨S0,st0,hge⟩:=st0;obtain ⟨W5,hW5⟩:∃ W5,(((((w.alloc (Obj.cells #[Value.pointer none] 143)).alloc (Obj.cells #[Value.bool false] 4)).alloc (Obj.cells #[Value.string {data:=#[]},Value.slice none 0 0,Value.slice none 0 0,Value.slice none 0 0] 148)).alloc (Obj.cells #[Value.pointer (some {block:=w.heap.size+1+1,off:=0})] 143)).alloc (Obj.cells #[Value.string s] 9))=W5:=⟨_,rfl⟩;rw [hW5] at st0 hbel ⊢;clear hW5;generalize hn:w.heap.size=n at*;have HNN:=ai hn;clear hn;have hn5:n<=W5.heap.size:=by
  obtain ⟨S1,S2,k,_⟩:=st0;have:=k.2.2.1;omega
 refine ot (B:=n) rfl (fun _=>trivial) rfl rfl (enters_of func186 (by kernel_rfl) rfl) (HQ.out _) (fun W1 hb=>hpre _ (hbel.trans hb)) (aS.thing _ _ _) ?hps
  (fun j=>ah (aS n (n+1+1+1) [.pointer (some ⟨n+1+1,0,none⟩)]) (ah (cw n (n+1+1) (st j)) (Bx n n [[.pointer none],[.bool false]])))
  (fun _ _ _=>False) ?hI (fun _=>⟨fun h=>h.elim,fun h=>h.elim,fun h=>h.elim⟩) (fun a _ _ _=>trivial) hn5 st0 ?round ?done (fun _ _ _ _ h _=>by obtain ⟨_,_,⟨_,_,_,h,_⟩,_⟩:=h;exact h.elim)
 case hps=>
  rintro a args a' ⟨_,_,rfl⟩;rfl
 case hI=>exact fun a=>ah.thing (aS.thing _ _ _) (ah.thing (cw.thing _ _ _) (Bx.thing _ _ _))
 case round=>
  rintro l' j args j' W0 ⟨hj,rfl,rfl⟩
  gi_wp2
  refine ⟨trivial,?_⟩;rintro W6 S6 h6 hb6;obtain ⟨R1,kc,_,_⟩:=ah.fst (ah.thing (cw.thing _ _ _) (Bx.thing _ _ _)) h6;obtain ⟨R2,kl,_,backL⟩:=ah.mid (aS.thing _ _ _) (Bx.thing _ _ _) h6;have y0:W6.cell? (zp (n+1+1+1))=zp (n+1+1):=kc.at 0 _ rfl;have HC:=ai (HTk.out j (n+1+1) W6 R2 hj (hbel.trans hb6) kl)
  gi_wp2
  refine ⟨trivial,rfl,(CallsIn.inRound l' (callsIn_wide.2 HC.out)).mono ?_⟩;rintro e W7 ⟨rfl,R3,kl7,m7⟩;obtain ⟨S8,h8,m8⟩:=backL _ _ _ kl7 m7;clear HC
  gi_wp2
  exact ⟨S8,h8,m8⟩
 case done=>
  rintro D j W6 S6 rfl hs hm;have hI:=fun a=>ah.thing (aS.thing n (n+1+1+1) [.pointer (some ⟨n+1+1,0,none⟩)]) (ah.thing (cw.thing n (n+1+1) (st a)) (Bx.thing n n [[.pointer none],[.bool false]]))
  obtain ⟨T1,k1,_,back1⟩:=ah.fst (Ob.thing _ _ _) hs;obtain ⟨T2,k2,_,back2⟩:=ah.snd (aS.thing _ _ _) k1;obtain ⟨T3,kc,_,_⟩:=ah.fst (ah.thing (cw.thing _ _ _) (Bx.thing _ _ _)) k2;obtain ⟨T4,kl,_,_⟩:=ah.mid (aS.thing _ _ _) (Bx.thing _ _ _) k2;obtain ⟨T5,kb,_,back5⟩:=ah.third (aS.thing _ _ _) (cw.thing _ _ _) k2;obtain ⟨aa,ks,ac,kc2,am,km,kl2⟩:=cw.open kl;obtain ⟨T6,hl6,_,_⟩:=ah.fst (io.thing _ _ _ _ _) kl2;have y0:W6.cell? (zp (n+1+1+1))=zp (n+1+1):=kc.at 0 _ rfl;have y1:W6.cell? (zq (n+1+1) 1)=some (.slice aa (st bods.length).cs.length ks):=by rw [<-hend];exact hl6.at 1 _ rfl
  have y2:W6.cell? (zq (n+1+1) 2)=some (.slice ac (st bods.length).cs.length kc2):=hl6.at 2 _ rfl;have b0:W6.cell? n=some (.pointer none):=kb.at 0 0 _ _ rfl rfl;have b1:W6.cell? (zp (n+1))=false:=kb.at 1 0 _ _ rfl rfl;have HF0:Hid (∀ o,W6.frozen? (zq n o)=false):=fun o=>kb.fz 0 o (by simp)
  have f1:W6.frozen? (zp (n+1))=false:=kb.fz 1 0 (by simp);obtain ⟨N,hN⟩:∃ N,(st bods.length).cs.length=N:=⟨_,rfl⟩;rw [hN] at y1 y2 hend2;clear hend hN
  gi_wp2
  refine wpIn_wide.2 ?_;refine cW 13 _ 12 (fun w w'=>w.grownBy w' (some n)) (Gd n (zp (n+1+1)) [.pointer (some ⟨n+1+1,0,none⟩),.pointer (some ⟨n+1+1,0,none⟩),.pointer (some ⟨n+1+1,0,none⟩),.pointer (some ⟨n+1+1,1,none⟩),.slice aa N ks,.int .i64 (N:Int),.pointer (some ⟨n+1+1,0,none⟩),.pointer (some ⟨n+1+1,0,none⟩),.pointer (some ⟨n+1+1,2,none⟩),.slice ac N kc2,.int .i64 (N:Int),.bool true,undef]) (by kernel_rfl) rfl (by kernel_rfl) (lT _) (fun _ _ _=>lV) (fun _ _ _=>fE) Ge Fx ?_;simp only [TD];refine ⟨aB (by decide) fun w1 hG hd=>?_,fun v0=>?_⟩
  ·clear hd;have cc:=(ZQ (a:=zp (n+1+1+1)) (hG.block (n+1+1+1) (ZD W6 _ y0) (by simp;try omega))).trans y0;go_wp2;exact RG
  simp only [TN];refine ⟨aB (by decide) fun w1 hG hd=>?_,fun v1=>?_⟩
  ·clear hd;have cc:=(ZQ (a:=zp (n+1+1+1)) (hG.block (n+1+1+1) (ZD W6 _ y0) (by simp;try omega))).trans y0;go_wp2;exact RG
  simp only [TN];refine ⟨aB (by decide) fun w1 hG hd=>?_,fun v2=>?_⟩
  ·have d1:v1=.pointer (some ⟨n+1+1,0,none⟩):=hd ⟨1,.data⟩ (by simp) rfl;clear hd;subst d1;go_wp2;exact RG
  simp only [TN];refine ⟨aB (by decide) fun w1 hG hd=>?_,fun v3=>?_⟩
  ·have d2:v2=.pointer (some ⟨n+1+1,0,none⟩):=hd ⟨2,.data⟩ (by simp) rfl;clear hd;subst d2;go_wp2;exact RG
  simp only [TN];refine ⟨aB (by decide) fun w1 hG hd=>?_,fun v4=>?_⟩
  ·have d3:v3=.pointer (some ⟨n+1+1,1,none⟩):=hd ⟨3,.data⟩ (by simp) rfl;clear hd;subst d3;have cc:=(ZQ (a:=zq (n+1+1) 1) (hG.block (n+1+1) (ZD W6 _ y1) (by simp;try omega))).trans y1;go_wp2;exact RG
  simp only [TN];refine ⟨aB (by decide) fun w1 hG hd=>?_,fun v5=>?_⟩
  ·have d4:v4=.slice aa N ks:=hd ⟨4,.data⟩ (by simp) rfl;clear hd;subst d4;go_wp2;exact RG
  simp only [TN];refine ⟨aB (by decide) fun w1 hG hd=>?_,fun v6=>?_⟩
  ·clear hd;have cc:=(ZQ (a:=zp (n+1+1+1)) (hG.block (n+1+1+1) (ZD W6 _ y0) (by simp;try omega))).trans y0;go_wp2;exact RG
  simp only [TN];refine ⟨aB (by decide) fun w1 hG hd=>?_,fun v7=>?_⟩
  ·have d6:v6=.pointer (some ⟨n+1+1,0,none⟩):=hd ⟨6,.data⟩ (by simp) rfl;clear hd;subst d6;go_wp2;exact RG
  simp only [TN];refine ⟨aB (by decide) fun w1 hG hd=>?_,fun v8=>?_⟩
  ·have d7:v7=.pointer (some ⟨n+1+1,0,none⟩):=hd ⟨7,.data⟩ (by simp) rfl;clear hd;subst d7;go_wp2;exact RG
  simp only [TN];refine ⟨aB (by decide) fun w1 hG hd=>?_,fun v9=>?_⟩
  ·have d8:v8=.pointer (some ⟨n+1+1,2,none⟩):=hd ⟨8,.data⟩ (by simp) rfl;clear hd;subst d8;have cc:=(ZQ (a:=zq (n+1+1) 2) (hG.block (n+1+1) (ZD W6 _ y2) (by simp;try omega))).trans y2;go_wp2;exact RG
  simp only [TN];refine ⟨aB (by decide) fun w1 hG hd=>?_,fun v10=>?_⟩
  ·have d9:v9=.slice ac N kc2:=hd ⟨9,.data⟩ (by simp) rfl;clear hd;subst d9;go_wp2;exact RG
  simp only [TN];refine ⟨aB (by decide) fun w1 hG hd=>?_,fun v11=>?_⟩
  ·have d5:v5=.int .i64 (N:Int):=hd ⟨5,.data⟩ (by simp) rfl;have d10:v10=.int .i64 (N:Int):=hd ⟨10,.data⟩ (by simp) rfl;clear hd;subst d5 d10;go_wp2;exact RG
  simp only [TN];refine ⟨dO rfl fun w1 hG hd=>?_,fun v12=>?_⟩
  ·have d0:v0=.pointer (some ⟨n+1+1,0,none⟩):=hd ⟨0,.data⟩ (by simp) rfl;clear hd;subst d0;have cc:=(Zc hG (p:=n) (ZD W6 _ b0)).trans b0;have ff:∀ o,w1.frozen? (zq n o)=false:=fun o=>(Below.frozen hG (p:=zq n o) (ZD W6 ⟨n,0,none⟩ b0)).trans (HF0.out o)
   have f0:=ff 0;have ln:=ZD w1 _ cc;go_wp2;exact ⟨⟨by simp [World.setCell];omega,World.cell?_setCell_same' _ _ _ (by rw [cc];rfl),fun o=>by rw [ZL];exact ff o⟩,CL _ _ _ _⟩
  simp only [TN];intro w7 hG hd;obtain ⟨q1,q2,q3⟩:n < w7.heap.size/\w7.cell? n=zp (n+1+1)/\∀ o,w7.frozen? (zq n o)=false:=hd 12 (by omega);have d11:v11=.bool true:=hd 11 (by omega);subst d11;have hS5:T5=fun k=>n<=k/\k < n+[[Value.pointer none],[Value.bool false]].length:=kb.1
  have kb7:Bx n n [[.pointer (some ⟨n+1+1,0,none⟩)],[.bool false]] w7 T5:=by
   refine ⟨hS5,ZW _,ZU kb.2.2.1 hG.size,fun i us hi=>?_⟩
   match i,hi with
   | 0,hi=>
    simp at hi;subst hi;refine ⟨fun j v hv=>?_,fun o=>q3 o⟩
    match j,hv with
    | 0,hv=>simp at hv;subst hv;exact q2
    | (j+1),hv=>simp at hv
   | 1,hi=>
    have e:=hG.block (n+1) (ZD W6 _ b1) (by simp);obtain ⟨r1,r2⟩:=kb.2.2.2 1 us (by simpa using hi);exact ⟨fun j v hv=>(ZQ (a:=zq (n+1) j) e).trans (r1 j v hv),fun o=>(ZH (a:=zq (n+1) o) e).trans (r2 o)⟩
   | (i+2),hi=>simp at hi
  have m7:Mv T5 W6 T5 w7:=⟨⟨hG.os,hG.tape,hG.output,hG.size,fun k hk hs=>hG.block k hk (fun e=>hs (by rw [hS5];cases e;exact ⟨ZW _,by simp⟩))⟩,fun _ h=>.inl h⟩;have z1:w7.cell? (zp (n+1))=false:=kb7.at 1 0 _ _ rfl rfl;have g1:w7.frozen? (zp (n+1))=false:=kb7.fz 1 0 (by simp);clear hd y0 y1 y2 b0 b1 f1 HF0;go_wp2
  gi_wp2
  obtain ⟨b',m'⟩:=kb7.set 1 0 _ (.bool true) rfl (by simp);obtain ⟨U1,u1,n1⟩:=back5 _ _ _ b' (m7.trans m');obtain ⟨U2,u2,n2⟩:=back2 _ _ _ u1 n1;obtain ⟨U3,u3,n3⟩:=back1 _ _ _ u2 n2;obtain ⟨T7,k7,_,back7⟩:=ah.snd (ah.thing (aS.thing _ _ _) (ah.thing (aS.thing _ _ _) (ah.thing (cw.thing _ _ _) (Bx.thing _ _ _)))) u3;obtain ⟨p8,m8⟩:=k7.put (.deferred none);obtain ⟨T8,k8,m9⟩:=back7 _ _ _ p8 m8;obtain ⟨T9,k9,_⟩:=ah.drop k8;obtain ⟨T10,k10,_⟩:=ah.drop (ah.swap k9);obtain ⟨T11,k11,_⟩:=ah.drop (ah.swap k10);obtain ⟨T12,k12,_⟩:=ah.drop k11;obtain ⟨T13,k13,_⟩:=ah.drop (ah.swap k11);have e1:((w7.setCell (zp (n+1)) true).putObj D (.deferred none)).cell? n=zp (n+1+1):=k13.at 0 0 _ _ rfl rfl;have e2:((w7.setCell (zp (n+1)) true).putObj D (.deferred none)).cell? (zp (n+1))=true:=k13.at 1 0 _ _ rfl rfl;refine ⟨by simp,.inl ⟨_,_,rfl,run_takeDeferred k7.2.2,?_⟩⟩;refine ⟨.tuple #[zp (n+1+1),true],?_,n+1+1,rfl,T12,?_,?_⟩
  ·simp [results,f96,go_sem,e1,e2]
  ·rw [HNN.out];exact k12
  ·rw [HNN.out];exact hbel.trans (((hm.trans n3).trans m9).below hge hn5)
end
theorem sU (x y z u:Int):aG [x,y,z,u]=bJ x++([32]++(bJ y++([32]++(bJ z++([32]++(bJ u++[32])))))):=by simp [aG]
theorem x' (x y z:Int):aG [x,y,z]=bJ x++([32]++(bJ y++([32]++(bJ z++[32])))):=by simp [aG]
theorem FK (s:ByteArray) (o:bj) (r':List UInt8) (ho:o.near) (hk:o.k=3) (hs:s.data.toList=o.text++r') (hr:r'=[]\/8<=r'.length):
  DD s 0 ([0,0,0,0,0,0,0,0,0],0,[]) 219 (.agg #[o.a,o.b,o.c,o.d,o.e]):=by
 obtain ⟨⟨a1,a2⟩,⟨b1,b2⟩,⟨c1,c2⟩,⟨d1,d2⟩,⟨e1,e2⟩,_⟩:=ho;have ht:o.text=[]++(bJ o.e++([32]++([103]++([32]++(bJ o.a++([32]++(bJ o.b++([32]++(bJ o.c++([32]++(bJ o.d++([32]++([114,101]++([32]++([102]++([10])))))))))))))))):=by
  unfold bj.text;rw [ZO (by omega),ZO (by omega),ZN hk,jf,sU];simp only [ZS,Zq];rfl
 have hA:ir o.text:=by
  rw [ht];exact (.mk (by decide) (.mk (aZ _) (.mk (by decide) (.mk (by decide) (.mk (by decide) (.mk (aZ _) (.mk (by decide) (.mk (aZ _) (.mk (by decide) (.mk (aZ _) (.mk (by decide) (.mk (aZ _) (.mk (by decide) (.mk (by decide) (.mk (by decide) (.mk (by decide) (by decide)))))))))))))))))
 rw [ht] at hs hA;have hd:s.data.toList.drop 0=_:=hs;refine dq o.e hr hd hA Fm ⟨32,_,rfl,by decide⟩ e1 e2 (by omega) rfl fun p1 h1 y1=>?_
 refine df 103 [] hr h1 y1 dI (by decide) ⟨32,_,rfl,by decide⟩ (by decide) (by decide) (by decide) (by decide) (by decide) (by decide) rfl fun p2 h2 y2=>?_
 refine dq o.a hr h2 y2 dI ⟨32,_,rfl,by decide⟩ a1 a2 (by omega) rfl fun p3 h3 y3=>?_
 refine dq o.b hr h3 y3 dI ⟨32,_,rfl,by decide⟩ b1 b2 (by omega) rfl fun p4 h4 y4=>?_
 refine dq o.c hr h4 y4 dI ⟨32,_,rfl,by decide⟩ c1 c2 (by omega) rfl fun p5 h5 y5=>?_
 refine dq o.d hr h5 y5 dI ⟨32,_,rfl,by decide⟩ d1 d2 (by omega) rfl fun p6 h6 y6=>?_
 refine df 114 [101] hr h6 y6 dI (by decide) ⟨32,_,rfl,by decide⟩ (by decide) (by decide) (by decide) (by decide) (by decide) (by decide) rfl fun p7 h7 y7=>?_
 exact wB hr h7 y7 dI (by simp) (by decide) (fun d p e=>by cases e;decide) fun hF=>.rect hF.tok
theorem FL (s:ByteArray) (o:bj) (r':List UInt8) (ho:o.near) (hk:o.k=1) (hs:s.data.toList=o.text++r') (hr:r'=[]\/8<=r'.length):
  DD s 0 ([0,0,0,0,0,0,0,0,0],0,[]) 215 (.agg #[o.a,o.b,o.c,.string ⟨o.s.data.toList.toArray⟩]):=by
 obtain ⟨⟨a1,a2⟩,⟨b1,b2⟩,⟨c1,c2⟩,⟨d1,d2⟩,⟨e1,e2⟩,_,_,_,hsz⟩:=ho;have hl:o.s.data.toList.length<=100:=by rw [aP];exact hsz hk
 have ht:o.text=[]++([66,84]++([32]++([47,70,49]++([32]++(bJ o.c++([32]++([84,102]++([32]++(bJ o.a++([32]++(bJ o.b++([32]++([84,100]++([32]++(bc o.s.data.toList++([32]++([84,106]++([32]++([69,84]++([10])))))))))))))))))))):=by
  unfold bj.text;rw [ZN hk,jf,lu];simp only [ZS,Zq];rfl
 have hA:ir o.text:=by
  rw [ht];exact (.mk (by decide) (.mk (by decide) (.mk (by decide) (.mk (by decide) (.mk (by decide) (.mk (aZ _) (.mk (by decide) (.mk (by decide) (.mk (by decide) (.mk (aZ _) (.mk (by decide) (.mk (aZ _) (.mk (by decide) (.mk (by decide) (.mk (by decide) (.mk (py _) (.mk (by decide) (.mk (by decide) (.mk (by decide) (.mk (by decide) (by decide)))))))))))))))))))))
 rw [ht] at hs hA;have hd:s.data.toList.drop 0=_:=hs;refine df 66 [84] hr hd hA Fm (by decide) ⟨32,_,rfl,by decide⟩ (by decide) (by decide) (by decide) (by decide) (by decide) (by decide) rfl fun p1 h1 y1=>?_
 refine df 47 [70,49] hr h1 y1 dI (by decide) ⟨32,_,rfl,by decide⟩ (by decide) (by decide) (by decide) (by decide) (by decide) (by decide) rfl fun p2 h2 y2=>?_
 refine dq o.c hr h2 y2 dI ⟨32,_,rfl,by decide⟩ c1 c2 (by omega) rfl fun p3 h3 y3=>?_
 refine df 84 [102] hr h3 y3 dI (by decide) ⟨32,_,rfl,by decide⟩ (by decide) (by decide) (by decide) (by decide) (by decide) (by decide) rfl fun p4 h4 y4=>?_
 refine dq o.a hr h4 y4 dI ⟨32,_,rfl,by decide⟩ a1 a2 (by omega) rfl fun p5 h5 y5=>?_
 refine dq o.b hr h5 y5 dI ⟨32,_,rfl,by decide⟩ b1 b2 (by omega) rfl fun p6 h6 y6=>?_
 refine df 84 [100] hr h6 y6 dI (by decide) ⟨32,_,rfl,by decide⟩ (by decide) (by decide) (by decide) (by decide) (by decide) (by decide) rfl fun p7 h7 y7=>?_
 refine Gm o.s.data.toList hr h7 y7 dI hl rfl fun p8 h8 y8=>?_
 refine df 84 [106] hr h8 y8 dI (by decide) ⟨32,_,rfl,by decide⟩ (by decide) (by decide) (by decide) (by decide) (by decide) (by decide) rfl fun p9 h9 y9=>?_
 exact wB hr h9 y9 dI (by simp) (by decide) (fun d p e=>by cases e;decide) fun hF=>.text hF.tok
theorem sR (c:Int) (h:0<=c):bJ (1000*c)=Lib.itoa c:=by
 unfold bJ;have e1:(1000*c).natAbs / 1000=c.natAbs:=by omega
 have e2:(1000*c).natAbs % 1000=0:=by omega
 rw [ZO (by omega),e1,e2];have e3:((c.natAbs:Nat):Int)=c:=by omega
 rw [e3];show []++Lib.itoa c++[]=_
 simp
theorem EH (s:ByteArray) (o:bj) (r':List UInt8) (ho:o.is) (hk:o.k=4) (hs:s.data.toList=o.text++r'):
  DD s 0 ([0,0,0,0,0,0,0,0,0],0,[]) 135 (.agg #[o.a,o.b,o.c,o.d,o.co,o.ro,o.s]):=by
 obtain ⟨⟨a1',a2'⟩,⟨b1',b2'⟩,hh⟩:=ho;obtain ⟨_,⟨c1',c2'⟩,⟨d1',d2'⟩,⟨co1,co2⟩,⟨ro1,ro2⟩,_,hsz⟩:o.k=4/\bG o.c 1 14400000/\bG o.d 1 14400000/\bG o.co 1 64/\bG o.ro 1 64/\o.e=0/\(o.s.size:Int)=o.co*o.ro:=by
  rcases hh with h | h | h | h
  ·exact absurd h.1 (by omega)
  ·exact absurd h.1 (by omega)
  ·exact absurd h.1 (by omega)
  ·exact h
 have a1:-100000000<=o.a:=by omega
 have a2:o.a<=100000000:=by omega
 have b1:-100000000<=o.b:=by omega
 have b2:o.b<=100000000:=by omega
 have c1:-100000000<=o.c:=by omega
 have c2:o.c<=100000000:=by omega
 have d1:-100000000<=o.d:=by omega
 have d2:o.d<=100000000:=by omega
 have hpos:1<=o.s.size:=by
  have:0 < o.co*o.ro:=Int.mul_pos (by omega) (by omega);omega
 obtain ⟨R,hR⟩:∃ R,[32]++(o.s.data.toList++([10,69,73,32,81,10]++r'))=R:=⟨_,rfl⟩;have hRl:8<=R.length:=by rw [<-hR];simp only [ZY,aP,ZX,ZR];omega
 have hr:R=[]\/8<=R.length:=.inr hRl;obtain ⟨Y,hY⟩:∃ Y,[]++([113]++([32]++(bJ o.c++([32]++(bJ 0++([32]++(bJ 0++([32]++(bJ o.d++([32]++(bJ o.a++([32]++(bJ o.b++([32]++([99,109]++([32]++([66,73]++([32]++([47,87]++([32]++(bJ (1000*o.co)++([32]++([47,72]++([32]++(bJ (1000*o.ro)++([32]++([47,67,83]++([32]++([47,71]++([32]++([47,66,80,67]++([32]++(bJ 8000++([32]++([73,68]++([]))))))))))))))))))))))))))))))))))))=Y:=⟨_,rfl⟩;have hs2:s.data.toList=Y++R:=by
  rw [hs, <-hY, <-hR,sR o.co (by omega),sR o.ro (by omega)];unfold bj.text;rw [ZO (by omega),ZO (by omega),ZO (by omega),jf,x'];have e0:bJ 0=[48]:=by decide+kernel
  have e8:bJ 8000=[56]:=by decide+kernel
  rw [e0,e8];simp only [ZS,Zq,ZE]
 have hA:ir Y:=by
  rw [<-hY];exact (.mk (by decide) (.mk (by decide) (.mk (by decide) (.mk (aZ _) (.mk (by decide) (.mk (aZ _) (.mk (by decide) (.mk (aZ _) (.mk (by decide) (.mk (aZ _) (.mk (by decide) (.mk (aZ _) (.mk (by decide) (.mk (aZ _) (.mk (by decide) (.mk (by decide) (.mk (by decide) (.mk (by decide) (.mk (by decide) (.mk (by decide) (.mk (by decide) (.mk (aZ _) (.mk (by decide) (.mk (by decide) (.mk (by decide) (.mk (aZ _) (.mk (by decide) (.mk (by decide) (.mk (by decide) (.mk (by decide) (.mk (by decide) (.mk (by decide) (.mk (by decide) (.mk (aZ _) (.mk (by decide) (.mk (by decide) (by decide)))))))))))))))))))))))))))))))))))))
 rw [<-hY] at hs2 hA;have hd:s.data.toList.drop 0=_:=hs2;refine df 113 [] hr hd hA Fm (by decide) ⟨32,_,rfl,by decide⟩ (by decide) (by decide) (by decide) (by decide) (by decide) (by decide) rfl fun p1 h1 y1=>?_
 refine dq o.c hr h1 y1 dI ⟨32,_,rfl,by decide⟩ c1 c2 (by omega) rfl fun p2 h2 y2=>?_
 refine dq 0 hr h2 y2 dI ⟨32,_,rfl,by decide⟩ (by decide) (by decide) (by omega) rfl fun p3 h3 y3=>?_
 refine dq 0 hr h3 y3 dI ⟨32,_,rfl,by decide⟩ (by decide) (by decide) (by omega) rfl fun p4 h4 y4=>?_
 refine dq o.d hr h4 y4 dI ⟨32,_,rfl,by decide⟩ d1 d2 (by omega) rfl fun p5 h5 y5=>?_
 refine dq o.a hr h5 y5 dI ⟨32,_,rfl,by decide⟩ a1 a2 (by omega) rfl fun p6 h6 y6=>?_
 refine dq o.b hr h6 y6 dI ⟨32,_,rfl,by decide⟩ b1 b2 (by omega) rfl fun p7 h7 y7=>?_
 refine df 99 [109] hr h7 y7 dI (by decide) ⟨32,_,rfl,by decide⟩ (by decide) (by decide) (by decide) (by decide) (by decide) (by decide) rfl fun p8 h8 y8=>?_
 refine df 66 [73] hr h8 y8 dI (by decide) ⟨32,_,rfl,by decide⟩ (by decide) (by decide) (by decide) (by decide) (by decide) (by decide) rfl fun p9 h9 y9=>?_
 refine df 47 [87] hr h9 y9 dI (by decide) ⟨32,_,rfl,by decide⟩ (by decide) (by decide) (by decide) (by decide) (by decide) (by decide) rfl fun p10 h10 y10=>?_
 refine dq (1000*o.co) hr h10 y10 dI ⟨32,_,rfl,by decide⟩ (by omega) (by omega) (by omega) rfl fun p11 h11 y11=>?_
 refine df 47 [72] hr h11 y11 dI (by decide) ⟨32,_,rfl,by decide⟩ (by decide) (by decide) (by decide) (by decide) (by decide) (by decide) rfl fun p12 h12 y12=>?_
 refine dq (1000*o.ro) hr h12 y12 dI ⟨32,_,rfl,by decide⟩ (by omega) (by omega) (by omega) rfl fun p13 h13 y13=>?_
 refine df 47 [67,83] hr h13 y13 dI (by decide) ⟨32,_,rfl,by decide⟩ (by decide) (by decide) (by decide) (by decide) (by decide) (by decide) rfl fun p14 h14 y14=>?_
 refine df 47 [71] hr h14 y14 dI (by decide) ⟨32,_,rfl,by decide⟩ (by decide) (by decide) (by decide) (by decide) (by decide) (by decide) rfl fun p15 h15 y15=>?_
 refine df 47 [66,80,67] hr h15 y15 dI (by decide) ⟨32,_,rfl,by decide⟩ (by decide) (by decide) (by decide) (by decide) (by decide) (by decide) rfl fun p16 h16 y16=>?_
 refine dq 8000 hr h16 y16 dI ⟨32,_,rfl,by decide⟩ (by decide) (by decide) (by omega) rfl fun p17 h17 y17=>?_
 refine wB hr h17 y17 dI (by simp) (by decide) (fun d p e=>by rw [<-hR] at e;cases e;decide) fun hF=>?_
 have hbh:=hF.behind;have hnx:=hF.nxt;have hle:(s.data.toList.drop (gR s p17)).length=s.size - gR s p17:=by rw [Za,aP]
 rw [hnx] at hle;have hb:(s.extract (gR s p17) s.size).extract 1 (1+o.s.size)=o.s:=by
  refine Zd (Array.toList_inj.1 ?_);rw [Zg,YV];simp only [List.extract,Xv];rw [hbh, <-hR];simp only [Zq,ZE,List.drop_succ_cons,List.drop_zero];rw [<-aP o.s,List.take_left]
 have q1:1000*o.co / 1000=o.co:=by omega
 have q2:1000*o.ro / 1000=o.ro:=by omega
 have hI:=E3.image (s:=s) (a:=p17) (n0:=o.c) (n1:=0) (n2:=0) (n3:=o.d) (n4:=o.a) (n5:=o.b) (n6:=1000*o.co) (n7:=1000*o.ro) (n8:=8000) (k:=9) (z:=o.s.size) (tx:=[]) hF.tok (by omega) (by omega) (by omega) (by omega) (by rw [q1,q2];exact hsz.symm) (by rw [<-hR] at hle;simp only [ZY,aP,ZX,ZR] at hle;omega) (by omega) (by omega) (by omega) (by omega) (by simp [br];omega) (by simp [br];omega);rw [hb,q1,q2] at hI;exact hI
