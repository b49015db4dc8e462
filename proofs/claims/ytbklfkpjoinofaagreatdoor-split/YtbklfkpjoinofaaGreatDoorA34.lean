import Derived.Test.YtbklfkpjoinofaaGreatDoorA32
import Derived.Test.YtbklfkpjoinofaaGreatDoorA02
set_option linter.all false
set_option maxRecDepth 100000
set_option maxHeartbeats 8000000
namespace Go.Proofs.YtbklfkpjoinofaaGreatDoor
open Go.RowKit Go.Proofs.Tryz
theorem Cy (w:World) (B y Wb:Nat) (K A X C D E Co Ro:Int) (t:ByteArray) (vs:List Value) (S:Bl) (hC:aS B y vs w S) (HK:Hid (∀ wx,QE 15 #[K,(8:Int)] wx (0:Int))) (Z:Ending->World->Prop) (n cap:Nat) (ad:Option Addr) (ps:List Value) (W H:Int) (h0:vs[0]? =some (.pointer (some ⟨Wb,0,none⟩))) (hf:vs[2]? =some (.slice ad n cap)) (h4:vs[4]? =some (.bool false)) (hn:n < 80) (hB:B<=w.heap.size) (ow:w.ownsRow B 100 3 (.slice ad n cap) n ps) (ne:(Value.slice ad n cap).ownBlock≠some y) (HP1:Hid (∀ wx,QE 35 #[A,(1:Int)] wx W)) (HP2:Hid (∀ wx,QE 35 #[X,(1:Int)] wx H)) (HW:Hid (∀ wa,af w wa->∀ w0 v w7 w9,af wa w0->w0.grownBy w7 (Value.slice ad n cap).ownBlock->gq w0 (Value.slice ad n cap).ownBlock B 100 3 (n+1) (ps++[.int .i64 W,.int .i64 H,.slice none 0 0]) v w7->af ((w7.setCell (zq y 2) v).setCell (zq y 4) true) w9->CP 34 #[zp Wb,W,H] w9 fun e w'=>e=.returned (0:Int)/\Z (.returned true) w')):
  CP 51 #[zp y,.agg #[K,A,X,C,D,E,Co,Ro,t]] w Z:=by
 go_enter func51,ntmps51
 go_wp2_with fail
 refine (HK.out _).mono ?_;rintro e w1 ⟨rfl,rfl⟩;clear HK;have hrow:(w.alloc (.cells #[K,A,X,C,D,E,Co,Ro,t] 76)).heap[w.heap.size]? =some (.cells #[K,A,X,C,D,E,Co,Ro,t] 76 (0,0)):=ZF w _;have hgw:af w (w.alloc (.cells #[K,A,X,C,D,E,Co,Ro,t] 76)):=(ZT _ w).alloc (ZW _) _;have hCa:=(aS.thing B y vs).grow hC hgw;have hyb:y < w.heap.size:=hC.2.2.1;have HRW:=ai hrow;have HGW:=ai hgw;generalize hwa:w.alloc (.cells #[K,A,X,C,D,E,Co,Ro,t] 76)=wa at HRW HGW hCa ⊢;clear hrow hgw hwa;generalize hb0:w.heap.size=b0 at HRW hyb ⊢;clear hb0;have hb0l:b0 < wa.heap.size:=(ZG.1 HRW.out).1;have c4:=hCa.at 4 _ h4;have c2:=hCa.at 2 _ hf;have d80:decide ((n:Int) < 80)=true:=by simp;omega
 have hCb:=hCa;have owb:=aW.grown ow HGW.out;have hBb:B<=wa.heap.size:=ZU hB HGW.out.size;obtain ⟨S3,hS3⟩:∃ S3,S=S3:=⟨_,rfl⟩;rw [hS3] at hCb;replace HW:=ai (HW.out wa HGW.out);clear hCa hC hS3 ow;go_wp2_with fail
 refine ap 8 _ (Ek wa.heap.size 7 100 #[oz,oz,.slice none 0 0] [.pointer (some ⟨b0,1,none⟩),.int .i64 A,.int .i64 W,.pointer (some ⟨b0,2,none⟩),.int .i64 X,.int .i64 H,.agg #[W,H,.slice none 0 0],undef]) (by kernel_rfl) rfl (by kernel_rfl) nO ?_;simp only [TD];refine ⟨fun w1 hG hd=>?_,fun v0=>?_⟩
 ·clear hd;go_wp2;exact RG
 simp only [TN];refine ⟨fun w1 hG hd=>?_,fun v1=>?_⟩
 ·have d0:v0=.pointer (some ⟨b0,1,none⟩):=hd ⟨0,.data⟩ (by simp) rfl;clear hd;subst d0;have c:w1.cell? (zq b0 1)=A:=by rw [Zw _ b0 1 _ _ _ ((hG.block b0 hb0l).trans HRW.out)];rfl
  go_wp2;exact RG
 simp only [TN];refine ⟨fun w1 hG hd=>?_,fun v2=>?_⟩
 ·have d1:v1=.int .i64 A:=hd ⟨1,.data⟩ (by simp) rfl;clear hd;subst d1;have HX:=ai (HP1.out w1);go_wp2_with fail
  refine HX.out.mono ?_;rintro e w2 ⟨rfl,rfl⟩;go_wp2;exact RG
 simp only [TN];refine ⟨fun w1 hG hd=>?_,fun v3=>?_⟩
 ·clear hd;go_wp2;exact RG
 simp only [TN];refine ⟨fun w1 hG hd=>?_,fun v4=>?_⟩
 ·have d3:v3=.pointer (some ⟨b0,2,none⟩):=hd ⟨3,.data⟩ (by simp) rfl;clear hd;subst d3;have c:w1.cell? (zq b0 2)=X:=by rw [Zw _ b0 2 _ _ _ ((hG.block b0 hb0l).trans HRW.out)];rfl
  go_wp2;exact RG
 simp only [TN];refine ⟨fun w1 hG hd=>?_,fun v5=>?_⟩
 ·have d4:v4=.int .i64 X:=hd ⟨4,.data⟩ (by simp) rfl;clear hd;subst d4;have HX:=ai (HP2.out w1);go_wp2_with fail
  refine HX.out.mono ?_;rintro e w2 ⟨rfl,rfl⟩;go_wp2;exact RG
 simp only [TN];refine ⟨fun w1 hG hd=>?_,fun v6=>?_⟩
 ·have d2:v2=.int .i64 W:=hd ⟨2,.data⟩ (by simp) rfl;have d5:v5=.int .i64 H:=hd ⟨5,.data⟩ (by simp) rfl;clear hd;subst d2 d5;go_wp2;exact RG
 simp only [TN];refine ⟨fun w1 hG hd=>?_,fun v7=>?_⟩
 ·clear hd;go_wp2;exact ⟨⟨_,rfl,hG.size,ZF _ _⟩,(ZT _ _).alloc (ZW _) _⟩
 simp only [TN];intro w2 hG hd;have dag:v6=.agg #[W,H,.slice none 0 0]:=hd 6 (by omega);obtain ⟨g,dnb,hzg,hbg⟩:∃ g,v7=.pointer (some ⟨g,0,none⟩)/\wa.heap.size<=g/\w2.heap[g]? =some (.cells #[oz,oz,.slice none 0 0] 100 (0,0)):=hd 7 (by omega);subst dag dnb;clear hd;have hrow:=YK w2 g _ #[W,H,.slice none 0 0] _ _ hbg;have hb3:af wa (w2.setRow g #[W,H,.slice none 0 0]):=⟨hG.os,hG.tape,hG.output,ZU hG.size (Nat.le_of_eq (by simp [World.setRow])),fun k hk=>(setRow_other _ _ _ _ (by omega)).trans (hG.block k hk)⟩;refine Zj rfl 100 (.tmp 6) (.tmp 71) rfl g #[W,H,.slice none 0 0] rfl rfl _ _ hbg (by kernel_rfl) rfl (by kernel_rfl) ?_;generalize w2.setRow g #[W,H,.slice none 0 0]=w3 at hrow hb3 ⊢;clear hG hbg;have HR3:=ai hrow;have HB3:=ai hb3;have hC3:=(aS.thing B y vs).grow hCb hb3;have ow3:=aW.grown owb hb3;have hB3:B<=w3.heap.size:=ZU hBb hb3.size;have cf3:=hC3.at 2 _ hf;have hy3:y < w3.heap.size:=hC3.2.2.1;have hgy:g≠y:=fun e=>by have:=hCb.2.2.1;omega
 have hgo:some g≠(Value.slice ad n cap).ownBlock:=Eo owb hzg;have hg3:g < w3.heap.size:=(ZG.1 hrow).1;clear hrow hb3;go_wp2_with fail
 refine cW 9 _ 8 (fun w w'=>w.grownBy w' (Value.slice ad n cap).ownBlock) (pK w3 [.pointer (some ⟨y,0,none⟩),.pointer (some ⟨y,0,none⟩),.pointer (some ⟨y,0,none⟩),.pointer (some ⟨y,1,none⟩),.pointer (some ⟨y,2,none⟩),.slice ad n cap,.agg #[W,H,.slice none 0 0],undef,undef] 7 8 [.int .i64 W,.int .i64 H,.slice none 0 0] (Value.slice ad n cap).ownBlock B 100 3 (n+1) (ps++[.int .i64 W,.int .i64 H,.slice none 0 0])) (by kernel_rfl) rfl (by kernel_rfl) (lT _) (fun _ _ _=>lV) (fun _ _ _=>fE) pZ kE ?_;simp only [TD];refine ⟨aB (by decide) fun w1 hG hd=>?_,fun v0=>?_⟩
 ·clear hd;go_wp2;exact RG
 simp only [TN];refine ⟨aB (by decide) fun w1 hG hd=>?_,fun v1=>?_⟩
 ·clear hd;go_wp2;exact RG
 simp only [TN];refine ⟨aB (by decide) fun w1 hG hd=>?_,fun v2=>?_⟩
 ·have d1:v1=.pointer (some ⟨y,0,none⟩):=hd ⟨1,.data⟩ (by simp) rfl;clear hd;subst d1;go_wp2;exact RG
 simp only [TN];refine ⟨aB (by decide) fun w1 hG hd=>?_,fun v3=>?_⟩
 ·have d2:v2=.pointer (some ⟨y,0,none⟩):=hd ⟨2,.data⟩ (by simp) rfl;clear hd;subst d2;go_wp2;exact RG
 simp only [TN];refine ⟨aB (by decide) fun w1 hG hd=>?_,fun v4=>?_⟩
 ·have d3:v3=.pointer (some ⟨y,1,none⟩):=hd ⟨3,.data⟩ (by simp) rfl;clear hd;subst d3;go_wp2;exact RG
 simp only [TN];refine ⟨aB (by decide) fun w1 hG hd=>?_,fun v5=>?_⟩
 ·have d4:v4=.pointer (some ⟨y,2,none⟩):=hd ⟨4,.data⟩ (by simp) rfl;clear hd;subst d4;have c:=(ZQ (a:=zq y 2) (hG.block y hy3 (fun e=>ne e.symm))).trans cf3;go_wp2;exact RG
 simp only [TN];refine ⟨aB (by decide) fun w1 hG hd=>?_,fun v6=>?_⟩
 ·clear hd;refine Zi rfl 100 (.tmp 6) rfl g rfl 100 _ (0,0) _ ((hG.block g hg3 hgo).trans HR3.out) underlying100 rfl (by kernel_rfl) ?_;refine YN ?_;exact ⟨rfl,rfl,rfl,af.refl _⟩
 simp only [TN];refine ⟨aB (by decide) fun w1 hG hd=>?_,fun v7=>?_⟩
 ·have d6:v6=.agg #[W,H,.slice none 0 0]:=hd ⟨6,.data⟩ (by simp) rfl;clear hd;subst d6;go_wp2;exact ⟨jI _ _ (fun k hk=>ZK (ow3.lt k hk).2 (World.grownBy.size hG)),(ZT _ _).alloc (ZW _) _⟩
 simp only [TN];refine ⟨dO rfl fun w1 hG hd=>?_,fun v8=>?_⟩
 ·have d5:v5=.slice ad n cap:=hd ⟨5,.data⟩ (by simp) rfl;have d7:pO _ _ v7 w1:=hd ⟨7,.data⟩ (by simp) rfl;clear hd;subst d5;exact nJ rfl (.tmp 77) (.tmp 79) 26 rfl 100 (.agg #[oz,oz,.slice none 0 0]) 3 40 Tryz.infoPg2 rfl (by omega) underlying26 B (Value.slice ad n cap) n (ps) rfl ow3 hB3 hG v7 rfl [.int .i64 W,.int .i64 H,.slice none 0 0] d7 rfl (by intro u hu;simp at hu;rcases hu with rfl | rfl | rfl <;> rfl) (by omega) (by omega) ⟨_,rfl,by simp [Act.put]⟩
 simp only [TN];intro w7 hG hd;have d0:v0=.pointer (some ⟨y,0,none⟩):=hd 0 (by omega);have d8:gq _ _ _ _ _ _ _ v8 w7:=hd 8 (by omega);subst d0;obtain ⟨ad7,cap7,hv7⟩:=d8.form;subst hv7;have hby:=hG.block y hy3 (fun e=>ne e.symm);have hC7:aS B y vs w7 S3:=(aS.thing B y vs).keep hC3 (fun k hk=>by have e1:=hC3.1;rw [e1] at hk;have e2:k=y:=hk;rw [e2];exact hby) (World.grownBy.size hG);have HG7:=ai hG;have HA7:=ai d8;have cf7:=hC7.at 2 _ hf;have ff7:=hC7.fz 2;have hC8:=(hC7.set 2 (.slice ad7 (n+1) cap7) (Zx.1 hf).1).1;have hr8:=(Yu w7 ⟨y,2,none⟩ g (.slice ad7 (n+1) cap7) hgy).trans ((hG.block g hg3 hgo).trans HR3.out);clear hd hG d8 hby cf3;have c48:=hC8.at 4 _ (by rw [List.getElem?_set_ne (by decide)];exact h4);have f48:=hC8.fz 4;have hC9:=(hC8.set 4 (.bool true) (by rw [List.length_set];exact (Zx.1 h4).1)).1;have hr9:=(Yu _ ⟨y,4,none⟩ g true hgy).trans hr8;have k0:=hC9.at 0 _ (by rw [List.getElem?_set_ne (by decide),List.getElem?_set_ne (by decide)];exact h0);have kt:((w7.setCell (zq y 2) (.slice ad7 (n+1) cap7)).setCell (zq y 4) true).cell? g=W:=by rw [Zw _ g 0 _ _ _ hr9];rfl
 have ku:((w7.setCell (zq y 2) (.slice ad7 (n+1) cap7)).setCell (zq y 4) true).cell? (zq g 1)=H:=by rw [Zw _ g 1 _ _ _ hr9];rfl
 have HW2:=ai (fun w9 h=>HW.out w3 _ w7 w9 HB3.out HG7.out HA7.out h);clear hr8 hr9 hC8 hC9 hC7 HW HG7 HA7 hC3 ow3;go_wp2_with fail
 refine ap 8 _ (ag [zp y,zp y,zp y,zp Wb,zp g,W,zq g 1,H]) (by kernel_rfl) rfl (by kernel_rfl) aq ?_;simp only [TD];refine ⟨fun w1 hG hd=>?_,fun v0=>?_⟩
 ·clear hd;go_wp2;exact RG
 simp only [TN];refine ⟨fun w1 hG hd=>?_,fun v1=>?_⟩
 ·have d0:v0=.pointer (some ⟨y,0,none⟩):=hd ⟨0,.data⟩ (by simp) rfl;clear hd;subst d0;go_wp2;exact RG
 simp only [TN];refine ⟨fun w1 hG hd=>?_,fun v2=>?_⟩
 ·have d1:v1=.pointer (some ⟨y,0,none⟩):=hd ⟨1,.data⟩ (by simp) rfl;clear hd;subst d1;go_wp2;exact RG
 simp only [TN];refine ⟨fun w1 hG hd=>?_,fun v3=>?_⟩
 ·have d2:v2=.pointer (some ⟨y,0,none⟩):=hd ⟨2,.data⟩ (by simp) rfl;clear hd;subst d2;have c:=aw hG k0;go_wp2;exact RG
 simp only [TN];refine ⟨fun w1 hG hd=>?_,fun v4=>?_⟩
 ·clear hd;go_wp2;exact RG
 simp only [TN];refine ⟨fun w1 hG hd=>?_,fun v5=>?_⟩
 ·have d4:v4=.pointer (some ⟨g,0,none⟩):=hd ⟨4,.data⟩ (by simp) rfl;clear hd;subst d4;have c:=aw hG kt;go_wp2;exact RG
 simp only [TN];refine ⟨fun w1 hG hd=>?_,fun v6=>?_⟩
 ·clear hd;go_wp2;exact RG
 simp only [TN];refine ⟨fun w1 hG hd=>?_,fun v7=>?_⟩
 ·have d6:v6=.pointer (some ⟨g,1,none⟩):=hd ⟨6,.data⟩ (by simp) rfl;clear hd;subst d6;have c:=aw hG ku;go_wp2;exact RG
 simp only [TN];intro w9 hG hd;have d3:v3=.pointer (some ⟨Wb,0,none⟩):=hd 3 (by omega);have d5:v5=.int .i64 W:=hd 5 (by omega);have d7:v7=.int .i64 H:=hd 7 (by omega);subst d3 d5 d7;clear hd;go_wp2_with fail
 refine (HW2.out w9 hG).mono ?_;rintro e w10 ⟨rfl,hz⟩;have HZZ:=ai hz;clear hz;go_wp2
 first | exact HZZ.out | (go_ret;exact HZZ.out)
theorem Cz (w:World) (B y Wb:Nat) (K A X C D E Co Ro:Int) (t:ByteArray) (vs:List Value) (S:Bl) (hC:aS B y vs w S) (HK:Hid (∀ wx,QE 15 #[K,(8:Int)] wx (0:Int))) (Z:Ending->World->Prop) (n cap:Nat) (ad:Option Addr) (ps:List Value) (W H:Int) (h0:vs[0]? =some (.pointer (some ⟨Wb,0,none⟩))) (hf:vs[2]? =some (.slice ad n cap)) (h4:vs[4]? =some (.bool true)) (hn:n < 80) (hB:B<=w.heap.size) (ow:w.ownsRow B 100 3 (.slice ad n cap) n ps) (ne:(Value.slice ad n cap).ownBlock≠some y) (HP1:Hid (∀ wx,QE 35 #[A,(1:Int)] wx W)) (HP2:Hid (∀ wx,QE 35 #[X,(1:Int)] wx H)) (HE:Hid (∀ wa,af w wa->CP 33 #[zp Wb] wa fun e wb=>e=.returned (0:Int)/\∃ S3,aS B y vs wb S3/\wb.ownsRow B 100 3 (.slice ad n cap) n ps/\B<=wb.heap.size/\(∀ k,w.heap.size<=k->k < wa.heap.size->wb.heap[k]? =wa.heap[k]?)/\∀ w0 v w7 w9,af wb w0->w0.grownBy w7 (Value.slice ad n cap).ownBlock->gq w0 (Value.slice ad n cap).ownBlock B 100 3 (n+1) (ps++[.int .i64 W,.int .i64 H,.slice none 0 0]) v w7->af ((w7.setCell (zq y 2) v).setCell (zq y 4) true) w9->CP 34 #[zp Wb,W,H] w9 fun e w'=>e=.returned (0:Int)/\Z (.returned true) w')):
  CP 51 #[zp y,.agg #[K,A,X,C,D,E,Co,Ro,t]] w Z:=by
 go_enter func51,ntmps51
 go_wp2_with fail
 refine (HK.out _).mono ?_;rintro e w1 ⟨rfl,rfl⟩;clear HK;have hrow:(w.alloc (.cells #[K,A,X,C,D,E,Co,Ro,t] 76)).heap[w.heap.size]? =some (.cells #[K,A,X,C,D,E,Co,Ro,t] 76 (0,0)):=ZF w _;have hgw:af w (w.alloc (.cells #[K,A,X,C,D,E,Co,Ro,t] 76)):=(ZT _ w).alloc (ZW _) _;have hCa:=(aS.thing B y vs).grow hC hgw;have hyb:y < w.heap.size:=hC.2.2.1;have HRW:=ai hrow;have HGW:=ai hgw;generalize hwa:w.alloc (.cells #[K,A,X,C,D,E,Co,Ro,t] 76)=wa at HRW HGW hCa ⊢;clear hrow hgw hwa;generalize hb0:w.heap.size=b0 at HRW hyb ⊢;have hb0':w.heap.size<=b0:=Nat.le_of_eq hb0;clear hb0;have hb0l:b0 < wa.heap.size:=(ZG.1 HRW.out).1;have c4:=hCa.at 4 _ h4;have c2:=hCa.at 2 _ hf;have d80:decide ((n:Int) < 80)=true:=by simp;omega
 have c0:=hCa.at 0 _ h0;replace HE:=ai (HE.out wa HGW.out);clear hCa hC ow;go_wp2_with fail
 refine HE.out.mono ?_;rintro e wb ⟨rfl,S3,hCb,owb,hBb,hkb,hcont⟩;replace HRW:=ai ((hkb b0 hb0' hb0l).trans HRW.out);replace hb0l:b0 < wb.heap.size:=(ZG.1 HRW.out).1;have HW:=ai hcont;clear hkb hcont HE c0 c4 c2;go_wp2_with fail
 refine ap 8 _ (Ek wb.heap.size 7 100 #[oz,oz,.slice none 0 0] [.pointer (some ⟨b0,1,none⟩),.int .i64 A,.int .i64 W,.pointer (some ⟨b0,2,none⟩),.int .i64 X,.int .i64 H,.agg #[W,H,.slice none 0 0],undef]) (by kernel_rfl) rfl (by kernel_rfl) nO ?_;simp only [TD];refine ⟨fun w1 hG hd=>?_,fun v0=>?_⟩
 ·clear hd;go_wp2;exact RG
 simp only [TN];refine ⟨fun w1 hG hd=>?_,fun v1=>?_⟩
 ·have d0:v0=.pointer (some ⟨b0,1,none⟩):=hd ⟨0,.data⟩ (by simp) rfl;clear hd;subst d0;have c:w1.cell? (zq b0 1)=A:=by rw [Zw _ b0 1 _ _ _ ((hG.block b0 hb0l).trans HRW.out)];rfl
  go_wp2;exact RG
 simp only [TN];refine ⟨fun w1 hG hd=>?_,fun v2=>?_⟩
 ·have d1:v1=.int .i64 A:=hd ⟨1,.data⟩ (by simp) rfl;clear hd;subst d1;have HX:=ai (HP1.out w1);go_wp2_with fail
  refine HX.out.mono ?_;rintro e w2 ⟨rfl,rfl⟩;go_wp2;exact RG
 simp only [TN];refine ⟨fun w1 hG hd=>?_,fun v3=>?_⟩
 ·clear hd;go_wp2;exact RG
 simp only [TN];refine ⟨fun w1 hG hd=>?_,fun v4=>?_⟩
 ·have d3:v3=.pointer (some ⟨b0,2,none⟩):=hd ⟨3,.data⟩ (by simp) rfl;clear hd;subst d3;have c:w1.cell? (zq b0 2)=X:=by rw [Zw _ b0 2 _ _ _ ((hG.block b0 hb0l).trans HRW.out)];rfl
  go_wp2;exact RG
 simp only [TN];refine ⟨fun w1 hG hd=>?_,fun v5=>?_⟩
 ·have d4:v4=.int .i64 X:=hd ⟨4,.data⟩ (by simp) rfl;clear hd;subst d4;have HX:=ai (HP2.out w1);go_wp2_with fail
  refine HX.out.mono ?_;rintro e w2 ⟨rfl,rfl⟩;go_wp2;exact RG
 simp only [TN];refine ⟨fun w1 hG hd=>?_,fun v6=>?_⟩
 ·have d2:v2=.int .i64 W:=hd ⟨2,.data⟩ (by simp) rfl;have d5:v5=.int .i64 H:=hd ⟨5,.data⟩ (by simp) rfl;clear hd;subst d2 d5;go_wp2;exact RG
 simp only [TN];refine ⟨fun w1 hG hd=>?_,fun v7=>?_⟩
 ·clear hd;go_wp2;exact ⟨⟨_,rfl,hG.size,ZF _ _⟩,(ZT _ _).alloc (ZW _) _⟩
 simp only [TN];intro w2 hG hd;have dag:v6=.agg #[W,H,.slice none 0 0]:=hd 6 (by omega);obtain ⟨g,dnb,hzg,hbg⟩:∃ g,v7=.pointer (some ⟨g,0,none⟩)/\wb.heap.size<=g/\w2.heap[g]? =some (.cells #[oz,oz,.slice none 0 0] 100 (0,0)):=hd 7 (by omega);subst dag dnb;clear hd;have hrow:=YK w2 g _ #[W,H,.slice none 0 0] _ _ hbg;have hb3:af wb (w2.setRow g #[W,H,.slice none 0 0]):=⟨hG.os,hG.tape,hG.output,ZU hG.size (Nat.le_of_eq (by simp [World.setRow])),fun k hk=>(setRow_other _ _ _ _ (by omega)).trans (hG.block k hk)⟩;refine Zj rfl 100 (.tmp 6) (.tmp 71) rfl g #[W,H,.slice none 0 0] rfl rfl _ _ hbg (by kernel_rfl) rfl (by kernel_rfl) ?_;generalize w2.setRow g #[W,H,.slice none 0 0]=w3 at hrow hb3 ⊢;clear hG hbg;have HR3:=ai hrow;have HB3:=ai hb3;have hC3:=(aS.thing B y vs).grow hCb hb3;have ow3:=aW.grown owb hb3;have hB3:B<=w3.heap.size:=ZU hBb hb3.size;have cf3:=hC3.at 2 _ hf;have hy3:y < w3.heap.size:=hC3.2.2.1;have hgy:g≠y:=fun e=>by have:=hCb.2.2.1;omega
 have hgo:some g≠(Value.slice ad n cap).ownBlock:=Eo owb hzg;have hg3:g < w3.heap.size:=(ZG.1 hrow).1;clear hrow hb3;go_wp2_with fail
 refine cW 9 _ 8 (fun w w'=>w.grownBy w' (Value.slice ad n cap).ownBlock) (pK w3 [.pointer (some ⟨y,0,none⟩),.pointer (some ⟨y,0,none⟩),.pointer (some ⟨y,0,none⟩),.pointer (some ⟨y,1,none⟩),.pointer (some ⟨y,2,none⟩),.slice ad n cap,.agg #[W,H,.slice none 0 0],undef,undef] 7 8 [.int .i64 W,.int .i64 H,.slice none 0 0] (Value.slice ad n cap).ownBlock B 100 3 (n+1) (ps++[.int .i64 W,.int .i64 H,.slice none 0 0])) (by kernel_rfl) rfl (by kernel_rfl) (lT _) (fun _ _ _=>lV) (fun _ _ _=>fE) pZ kE ?_;simp only [TD];refine ⟨aB (by decide) fun w1 hG hd=>?_,fun v0=>?_⟩
 ·clear hd;go_wp2;exact RG
 simp only [TN];refine ⟨aB (by decide) fun w1 hG hd=>?_,fun v1=>?_⟩
 ·clear hd;go_wp2;exact RG
 simp only [TN];refine ⟨aB (by decide) fun w1 hG hd=>?_,fun v2=>?_⟩
 ·have d1:v1=.pointer (some ⟨y,0,none⟩):=hd ⟨1,.data⟩ (by simp) rfl;clear hd;subst d1;go_wp2;exact RG
 simp only [TN];refine ⟨aB (by decide) fun w1 hG hd=>?_,fun v3=>?_⟩
 ·have d2:v2=.pointer (some ⟨y,0,none⟩):=hd ⟨2,.data⟩ (by simp) rfl;clear hd;subst d2;go_wp2;exact RG
 simp only [TN];refine ⟨aB (by decide) fun w1 hG hd=>?_,fun v4=>?_⟩
 ·have d3:v3=.pointer (some ⟨y,1,none⟩):=hd ⟨3,.data⟩ (by simp) rfl;clear hd;subst d3;go_wp2;exact RG
 simp only [TN];refine ⟨aB (by decide) fun w1 hG hd=>?_,fun v5=>?_⟩
 ·have d4:v4=.pointer (some ⟨y,2,none⟩):=hd ⟨4,.data⟩ (by simp) rfl;clear hd;subst d4;have c:=(ZQ (a:=zq y 2) (hG.block y hy3 (fun e=>ne e.symm))).trans cf3;go_wp2;exact RG
 simp only [TN];refine ⟨aB (by decide) fun w1 hG hd=>?_,fun v6=>?_⟩
 ·clear hd;refine Zi rfl 100 (.tmp 6) rfl g rfl 100 _ (0,0) _ ((hG.block g hg3 hgo).trans HR3.out) underlying100 rfl (by kernel_rfl) ?_;refine YN ?_;exact ⟨rfl,rfl,rfl,af.refl _⟩
 simp only [TN];refine ⟨aB (by decide) fun w1 hG hd=>?_,fun v7=>?_⟩
 ·have d6:v6=.agg #[W,H,.slice none 0 0]:=hd ⟨6,.data⟩ (by simp) rfl;clear hd;subst d6;go_wp2;exact ⟨jI _ _ (fun k hk=>ZK (ow3.lt k hk).2 (World.grownBy.size hG)),(ZT _ _).alloc (ZW _) _⟩
 simp only [TN];refine ⟨dO rfl fun w1 hG hd=>?_,fun v8=>?_⟩
 ·have d5:v5=.slice ad n cap:=hd ⟨5,.data⟩ (by simp) rfl;have d7:pO _ _ v7 w1:=hd ⟨7,.data⟩ (by simp) rfl;clear hd;subst d5;exact nJ rfl (.tmp 77) (.tmp 79) 26 rfl 100 (.agg #[oz,oz,.slice none 0 0]) 3 40 Tryz.infoPg2 rfl (by omega) underlying26 B (Value.slice ad n cap) n (ps) rfl ow3 hB3 hG v7 rfl [.int .i64 W,.int .i64 H,.slice none 0 0] d7 rfl (by intro u hu;simp at hu;rcases hu with rfl | rfl | rfl <;> rfl) (by omega) (by omega) ⟨_,rfl,by simp [Act.put]⟩
 simp only [TN];intro w7 hG hd;have d0:v0=.pointer (some ⟨y,0,none⟩):=hd 0 (by omega);have d8:gq _ _ _ _ _ _ _ v8 w7:=hd 8 (by omega);subst d0;obtain ⟨ad7,cap7,hv7⟩:=d8.form;subst hv7;have hby:=hG.block y hy3 (fun e=>ne e.symm);have hC7:aS B y vs w7 S3:=(aS.thing B y vs).keep hC3 (fun k hk=>by have e1:=hC3.1;rw [e1] at hk;have e2:k=y:=hk;rw [e2];exact hby) (World.grownBy.size hG);have HG7:=ai hG;have HA7:=ai d8;have cf7:=hC7.at 2 _ hf;have ff7:=hC7.fz 2;have hC8:=(hC7.set 2 (.slice ad7 (n+1) cap7) (Zx.1 hf).1).1;have hr8:=(Yu w7 ⟨y,2,none⟩ g (.slice ad7 (n+1) cap7) hgy).trans ((hG.block g hg3 hgo).trans HR3.out);clear hd hG d8 hby cf3;have c48:=hC8.at 4 _ (by rw [List.getElem?_set_ne (by decide)];exact h4);have f48:=hC8.fz 4;have hC9:=(hC8.set 4 (.bool true) (by rw [List.length_set];exact (Zx.1 h4).1)).1;have hr9:=(Yu _ ⟨y,4,none⟩ g true hgy).trans hr8;have k0:=hC9.at 0 _ (by rw [List.getElem?_set_ne (by decide),List.getElem?_set_ne (by decide)];exact h0);have kt:((w7.setCell (zq y 2) (.slice ad7 (n+1) cap7)).setCell (zq y 4) true).cell? g=W:=by rw [Zw _ g 0 _ _ _ hr9];rfl
 have ku:((w7.setCell (zq y 2) (.slice ad7 (n+1) cap7)).setCell (zq y 4) true).cell? (zq g 1)=H:=by rw [Zw _ g 1 _ _ _ hr9];rfl
 have HW2:=ai (fun w9 h=>HW.out w3 _ w7 w9 HB3.out HG7.out HA7.out h);clear hr8 hr9 hC8 hC9 hC7 HW HG7 HA7 hC3 ow3;go_wp2_with fail
 refine ap 8 _ (ag [zp y,zp y,zp y,zp Wb,zp g,W,zq g 1,H]) (by kernel_rfl) rfl (by kernel_rfl) aq ?_;simp only [TD];refine ⟨fun w1 hG hd=>?_,fun v0=>?_⟩
 ·clear hd;go_wp2;exact RG
 simp only [TN];refine ⟨fun w1 hG hd=>?_,fun v1=>?_⟩
 ·have d0:v0=.pointer (some ⟨y,0,none⟩):=hd ⟨0,.data⟩ (by simp) rfl;clear hd;subst d0;go_wp2;exact RG
 simp only [TN];refine ⟨fun w1 hG hd=>?_,fun v2=>?_⟩
 ·have d1:v1=.pointer (some ⟨y,0,none⟩):=hd ⟨1,.data⟩ (by simp) rfl;clear hd;subst d1;go_wp2;exact RG
 simp only [TN];refine ⟨fun w1 hG hd=>?_,fun v3=>?_⟩
 ·have d2:v2=.pointer (some ⟨y,0,none⟩):=hd ⟨2,.data⟩ (by simp) rfl;clear hd;subst d2;have c:=aw hG k0;go_wp2;exact RG
 simp only [TN];refine ⟨fun w1 hG hd=>?_,fun v4=>?_⟩
 ·clear hd;go_wp2;exact RG
 simp only [TN];refine ⟨fun w1 hG hd=>?_,fun v5=>?_⟩
 ·have d4:v4=.pointer (some ⟨g,0,none⟩):=hd ⟨4,.data⟩ (by simp) rfl;clear hd;subst d4;have c:=aw hG kt;go_wp2;exact RG
 simp only [TN];refine ⟨fun w1 hG hd=>?_,fun v6=>?_⟩
 ·clear hd;go_wp2;exact RG
 simp only [TN];refine ⟨fun w1 hG hd=>?_,fun v7=>?_⟩
 ·have d6:v6=.pointer (some ⟨g,1,none⟩):=hd ⟨6,.data⟩ (by simp) rfl;clear hd;subst d6;have c:=aw hG ku;go_wp2;exact RG
 simp only [TN];intro w9 hG hd;have d3:v3=.pointer (some ⟨Wb,0,none⟩):=hd 3 (by omega);have d5:v5=.int .i64 W:=hd 5 (by omega);have d7:v7=.int .i64 H:=hd 7 (by omega);subst d3 d5 d7;clear hd;go_wp2_with fail
 refine (HW2.out w9 hG).mono ?_;rintro e w10 ⟨rfl,hz⟩;have HZZ:=ai hz;clear hz;go_wp2
 first | exact HZZ.out | (go_ret;exact HZZ.out)
theorem DH (w:World) (B y Wb:Nat) (K A X C D E Co Ro:Int) (t:ByteArray) (vs:List Value) (S:Bl) (hC:aS B y vs w S) (HK:Hid (∀ wx,QE 15 #[K,(8:Int)] wx (0:Int))) (Z:Ending->World->Prop) (n cap:Nat) (ad:Option Addr) (op:Bool) (hf:vs[2]? =some (.slice ad n cap)) (h4:vs[4]? =some (.bool op)) (hn:n=80) (HZ:Hid (∀ wa,af w wa->Z (.returned true) wa)):
  CP 51 #[zp y,.agg #[K,A,X,C,D,E,Co,Ro,t]] w Z:=by
 go_enter func51,ntmps51
 go_wp2_with fail
 refine (HK.out _).mono ?_;rintro e w1 ⟨rfl,rfl⟩;clear HK;have hrow:(w.alloc (.cells #[K,A,X,C,D,E,Co,Ro,t] 76)).heap[w.heap.size]? =some (.cells #[K,A,X,C,D,E,Co,Ro,t] 76 (0,0)):=ZF w _;have hgw:af w (w.alloc (.cells #[K,A,X,C,D,E,Co,Ro,t] 76)):=(ZT _ w).alloc (ZW _) _;have hCa:=(aS.thing B y vs).grow hC hgw;have hyb:y < w.heap.size:=hC.2.2.1;have HRW:=ai hrow;have HGW:=ai hgw;generalize hwa:w.alloc (.cells #[K,A,X,C,D,E,Co,Ro,t] 76)=wa at HRW HGW hCa ⊢;clear hrow hgw hwa;generalize hb0:w.heap.size=b0 at HRW hyb ⊢;clear hb0;subst hn;have c4:=hCa.at 4 _ h4;have c2:=hCa.at 2 _ hf;have HZ2:=ai (HZ.out wa HGW.out);clear hCa hC HZ;go_wp2
 all_goals first | exact HZ2.out | (go_ret;exact HZ2.out)
theorem DJ (w:World) (B y Wb:Nat) (K A X C D E Co Ro:Int) (t:ByteArray) (vs:List Value) (S:Bl) (hC:aS B y vs w S) (Z:Ending->World->Prop) (k:Nat) (HK:Hid (∀ wx,QE 15 #[K,(8:Int)] wx (k:Int))) (hk8:k < 8) (h6:((k:Int)==6)=false) (h7:((k:Int)==7)=false) (h50:((k:Int)==0)=false) (h4:vs[4]? =some (.bool false)) (HZ:Hid (∀ wa,af w wa->Z (.returned true) wa)):
  CP 51 #[zp y,.agg #[K,A,X,C,D,E,Co,Ro,t]] w Z:=by
 go_enter func51,ntmps51
 go_wp2_with fail
 refine (HK.out _).mono ?_;rintro e w1 ⟨rfl,rfl⟩;clear HK;have hrow:(w.alloc (.cells #[K,A,X,C,D,E,Co,Ro,t] 76)).heap[w.heap.size]? =some (.cells #[K,A,X,C,D,E,Co,Ro,t] 76 (0,0)):=ZF w _;have hgw:af w (w.alloc (.cells #[K,A,X,C,D,E,Co,Ro,t] 76)):=(ZT _ w).alloc (ZW _) _;have hCa:=(aS.thing B y vs).grow hC hgw;have hyb:y < w.heap.size:=hC.2.2.1;have HRW:=ai hrow;have HGW:=ai hgw;generalize hwa:w.alloc (.cells #[K,A,X,C,D,E,Co,Ro,t] 76)=wa at HRW HGW hCa ⊢;clear hrow hgw hwa;generalize hb0:w.heap.size=b0 at HRW hyb ⊢;clear hb0;have c4:=hCa.at 4 _ h4;have HZ2:=ai (HZ.out wa HGW.out);clear hCa hC HZ;go_wp2
 all_goals first | exact HZ2.out | (go_ret;exact HZ2.out)
theorem zy (w:World) (B y Wb:Nat) (K A X C D E Co Ro:Int) (t:ByteArray) (vs:List Value) (S:Bl) (hC:aS B y vs w S) (HK:Hid (∀ wx,QE 15 #[K,(8:Int)] wx (5:Int))) (Z:Ending->World->Prop) (h4:vs[4]? =some (.bool true)) (n cap:Nat) (ad:Option Addr) (hf:vs[3]? =some (.slice ad n cap)) (hn:n<=20) (ht0:t=⟨#[]⟩\/(t.toList.isEmpty=false/\n=20)) (HZ:Hid (∀ wa,af w wa->Z (.returned true) wa)):
  CP 51 #[zp y,.agg #[K,A,X,C,D,E,Co,Ro,t]] w Z:=by
 go_enter func51,ntmps51
 go_wp2_with fail
 refine (HK.out _).mono ?_;rintro e w1 ⟨rfl,rfl⟩;clear HK;have hrow:(w.alloc (.cells #[K,A,X,C,D,E,Co,Ro,t] 76)).heap[w.heap.size]? =some (.cells #[K,A,X,C,D,E,Co,Ro,t] 76 (0,0)):=ZF w _;have hgw:af w (w.alloc (.cells #[K,A,X,C,D,E,Co,Ro,t] 76)):=(ZT _ w).alloc (ZW _) _;have hCa:=(aS.thing B y vs).grow hC hgw;have hyb:y < w.heap.size:=hC.2.2.1;have HRW:=ai hrow;have HGW:=ai hgw;generalize hwa:w.alloc (.cells #[K,A,X,C,D,E,Co,Ro,t] 76)=wa at HRW HGW hCa ⊢;clear hrow hgw hwa;generalize hb0:w.heap.size=b0 at HRW hyb ⊢;clear hb0;have c4:=hCa.at 4 _ h4;have c3:=hCa.at 3 _ hf;have c8:wa.cell? (zq b0 8)=t:=by rw [Zw _ b0 8 _ _ _ HRW.out];rfl
 have HZ2:=ai (HZ.out wa HGW.out);clear hCa hC HZ;rcases ht0 with ht0 | ⟨ht0,hn0⟩
 ·subst ht0;go_wp2
  first | exact HZ2.out | (go_ret;exact HZ2.out)
 ·subst hn0;go_wp2
  first | exact HZ2.out | (go_ret;exact HZ2.out)
def gB (o:bj):bj:={o with s:=⟨#[]⟩}
def ry (sp:Nat):Nat->St->ByteArray->Nat->St×Nat
 | 0,s,_,c=>(s,c)
 | f+1,s,t,c=>if t.size=0 then (s,c) else ry sp f (s.data (t.extract 0 (min sp t.size))).2 (t.extract (min sp t.size) t.size) (c+1)
def g_ (sp:Nat) (s:St) (c:Nat) (o:bj):St×Nat:=if o.k=4/\0 < sp then ry sp o.s.size (s.begin (gB o)).2 o.s c else ((s.draw o).2,c)
theorem Cc {s:St} {o:bj} (hdr:s.drawing=true) (ho:o.is) (hr:s.size+o.text.length<=1048576):s.draw o=(0,{s with pages:=s.put o,size:=s.size+o.text.length,g:=s.g.op o}):=by
 unfold St.draw;rw [ZO (by simp [hdr]),ZO (fun h=>h ho),ZO (by omega)]
theorem vY (t:ByteArray) (k:Nat) (hk:k<=t.size):(t.extract 0 k).size=k/\(t.extract k t.size).size=t.size - k/\t.extract 0 k++t.extract k t.size=t:=by
 refine ⟨by rw [ByteArray.size_extract];omega,by rw [ByteArray.size_extract];omega,?_⟩;refine Zd (Array.toList_inj.1 ?_);rw [oL,Zg,Zg,YV,YV];simp only [List.extract,List.drop_zero,Nat.sub_zero];have e:(t.data.toList.drop k).take (t.size - k)=t.data.toList.drop k:=Zy (by rw [Za,aP];exact ZW _);rw [e,Yq]
def DB (s0:St) (o:bj) (s:St) (t:ByteArray):Prop:=∃ i g,i++t=o.s/\
 s=if t.size=0 then {s0 with img:=o,left:=0,pages:=s0.put o,size:=s0.size+o.text.length,g:=g} else {s0 with img:={o with s:=i},left:=t.size,size:=s0.size+o.text.length,g:=g}
theorem DB.cl {s0:St} {o:bj} {s:St} {t:ByteArray} (h:DB s0 o s t):s.cl=s0.cl:=by
 obtain ⟨i,g,_,h2⟩:=h;rw [h2];split <;> rfl
theorem DB.next {s0:St} {o:bj} {s:St} {t:ByteArray} (h:DB s0 o s t) (ht:0 < t.size) {k:Nat} (hk:0 < k) (hk2:k<=t.size):(s.data (t.extract 0 k)).1=0/\DB s0 o (s.data (t.extract 0 k)).2 (t.extract k t.size):=by
 obtain ⟨e1,e2,e3⟩:=vY t k hk2;obtain ⟨i,g,h1,h2⟩:=h;rw [ZO (by omega)] at h2;subst h2;obtain ⟨u,hu⟩:∃ u,t.extract 0 k=u:=⟨_,rfl⟩;obtain ⟨v,hv⟩:∃ v,t.extract k t.size=v:=⟨_,rfl⟩;rw [hu] at e1 e3 ⊢;rw [hv] at e2 e3 ⊢;have h3:i++u++v=o.s:=by rw [ByteArray.append_assoc,e3];exact h1
 unfold St.data;dsimp only;rw [ZO (by omega),ZO (by omega)];by_cases h4:u.size < t.size
 ·rw [ZN h4];refine ⟨rfl,i++u,g.wr u.data.toList,h3,?_⟩;rw [ZO (by omega),show t.size - u.size=v.size by omega];rfl
 ·rw [ZO h4];refine ⟨rfl,i++u,(g.wr u.data.toList).wr vq,h3,?_⟩;rw [ZN (by omega)];have hv0:=lZ (t:=v) (by omega);rw [hv0] at h3;have h5:i++u=o.s:=by rw [<-h3];exact (ByteArray.append_empty).symm
  have hm:({o with s:=i++u}:bj)=o:=by rw [h5]
  simp only [St.more,hm];rfl
theorem DB.start {s:St} {o:bj} (hdr:s.drawing=true) (ho:o.is) (hk:o.k=4) (hr:s.size+o.text.length<=1048576):0 < o.s.size/\(s.begin (gB o)).1=0/\DB s o (s.begin (gB o)).2 o.s:=by
 obtain ⟨ha,hb,h | h | h | h⟩:=ho
 ·omega
 ·omega
 ·omega
 obtain ⟨_,hc,hd,hco,hro,he,hs⟩:=h;have hpos:0 < o.co*o.ro:=Int.mul_pos (by have:=hco.1;omega) (by have:=hro.1;omega);have hz:(o.co*o.ro).toNat=o.s.size:=by omega
 have t1:(gB o).text.length=o.headB.length+6:=by
  rw [yS (o:=gB o) hk];show (o.headB++([]++[10,69,73,32,81,10])).length=_
  simp
 have t2:o.text.length=o.headB.length+o.s.size+6:=by rw [yS hk];simp;omega
 have hf:(gB o).isFrame:=⟨hk,rfl,he,ha,hb,hc,hd,hco,hro⟩;unfold St.begin;rw [ZO (by simp [hdr]),ZO (fun h=>h hf)];have hz2:((gB o).co*(gB o).ro).toNat=o.s.size:=hz;rw [hz2,ZO (by omega)];refine ⟨by omega,rfl,⟨#[]⟩,s.g.wr (gB o).headB,ByteArray.empty_append,?_⟩;rw [ZO (by omega),show s.size+(gB o).text.length+o.s.size=s.size+o.text.length by omega];rfl
theorem wU {s0:St} {o:bj} {sp:Nat} (hsp:0 < sp):∀ (f:Nat) (s:St) (t:ByteArray) (c:Nat),DB s0 o s t->t.size<=f->s.ok->s.fine->DB s0 o (ry sp f s t c).1 ⟨#[]⟩/\(ry sp f s t c).1.ok/\(ry sp f s t c).1.fine/\(ry sp f s t c).2<=c+f
 | 0,s,t,c,h,hf,ok,fi=>by
  have e:=lZ (t:=t) (by omega);rw [e] at h;exact ⟨h,ok,fi,ZW _⟩
 | f+1,s,t,c,h,hf,ok,fi=>by
  unfold ry;by_cases h0:t.size=0
  ·rw [ZN h0];have e:=lZ (t:=t) h0;rw [e] at h;exact ⟨h,ok,fi,by omega⟩
  ·rw [ZO h0];obtain ⟨e1,e2,e3⟩:=vY t (min sp t.size) (by omega);obtain ⟨a,b,c',d⟩:=wU hsp f _ (t.extract (min sp t.size) t.size) (c+1) (h.next (by omega) (by omega:0 < min sp t.size) (by omega)).2 (by omega) (ok.fed _) (fi.fed _);exact ⟨a,b,c',by omega⟩
theorem oF {sp c:Nat} {s:St} {o:bj} (hdr:s.drawing=true) (ho:o.is) (hr:s.size+o.text.length<=1048576) (hok:s.ok) (hfi:s.fine):(∃ im g,(g_ sp s c o).1={s with img:=im,left:=0,pages:=s.put o,size:=s.size+o.text.length,g:=g})/\(g_ sp s c o).1.ok/\(g_ sp s c o).1.fine/\(g_ sp s c o).2<=c+o.s.size:=by
 unfold g_;by_cases h:o.k=4/\0 < sp
 ·rw [ZN h];obtain ⟨_,_,hM⟩:=DB.start hdr ho h.1 hr;obtain ⟨⟨i,g,_,e⟩,b,c',d⟩:=wU h.2 o.s.size _ o.s c hM (ZW _) (hok.began _) (hfi.began _);exact ⟨⟨o,g,by rw [e,ZN (show (⟨#[]⟩:ByteArray).size=0 from rfl)]⟩,b,c',d⟩
 ·rw [ZO h];refine ⟨⟨s.img,s.g.op o,?_⟩,hok.drawn _,hfi.drawn _,by show c<=_;omega⟩;rw [Cc hdr ho hr];have hl:=(St.drawing_of hdr).2;show ({s with pages:=s.put o,size:=s.size+o.text.length,g:=s.g.op o}:St)=_
  rw [<-hl]
theorem xT (n:Wn) (jb:Nat) (s d:St) (sp fl c:Nat) (w:World) (S:Bl) (o:bj) (hsp:0 < sp) (hsp2:sp<=1000) (hfl:fl<=5) (hk:o.k=4) (ho:o.is) (hos:o.s.size<=400) (hc:c<=1000000) (hlim:n.lim < 0) (hok:s.ok) (hcl:s.cl=false) (hdr:s.drawing=true) (hroom:s.size+o.text.length<=1048576) (hB:n.B<=w.heap.size) (ht:bU n.B w) (h:JD n jb s d sp fl c w S):
  CP 149 #[zp jb,o.val] w fun e w'=>e=.returned true/\∃ S',JD n jb (ry sp o.s.size (s.begin (gB o)).2 o.s c).1 d sp fl (ry sp o.s.size (s.begin (gB o)).2 o.s c).2 w' S'/\Mv S w S' w':=by
 obtain ⟨hpos,hb0,hM⟩:=DB.start hdr ho hk hroom;obtain ⟨fin,hfin⟩:∃ r,ry sp o.s.size (s.begin (gB o)).2 o.s c=r:=⟨_,rfl⟩;rw [hfin];obtain ⟨ps,vp,vm,SC,hp,hall,hC⟩:=h.parts;refine yN w jb n.Wb sp o.k o.a o.b o.c o.d o.e o.co o.ro o.s (by omega) hsp hsp2 (fun t wr=>∃ s' c' f S',DB s o s' t/\s'.ok/\JD n jb s' d sp fl c' wr S'/\Mv S w S' wr/\t.size<=f/\(f+c'=c+o.s.size/\c<=c')/\ry sp f s' t c'=fin) _ (hC.at 0 _ rfl) hC.2.2.1 ?_ ?_ ?_ ?_
 ·intro wa hg;refine (oh (JS.thing _ _ _ _ _ _ _) ((JD.thing n jb s d sp fl c).grow h hg) (fun SW hW=>sm n s wa SW (gB o) hlim hok (ZU hB hg.size) (ht.on (hg.mono hB)) hW)).mono ?_;rintro e w' ⟨rfl,S',h',m'⟩;exact ⟨by rw [hb0],_,c,o.s.size,S',hM,hok.began _,h',(Mv.grow hg S).trans m',ZW _,⟨by omega,ZW _⟩,hfin⟩
 ·rintro t wr ⟨s',c',f,S',hm,hok',hJ,m,hf,hcf,hr⟩;obtain ⟨ps,vp,vm,SC,hp,hall,hC⟩:=hJ.parts;exact ⟨by omega,hC.at 0 _ rfl,hC.at 5 _ rfl⟩
 ·rintro t wr w9 ⟨s',c',f,S',hm,hok',hJ,m,hf,hcf,hr⟩ ht0 hg;obtain ⟨f,rfl⟩:∃ f',f=f'+1:=⟨f - 1,by omega⟩;obtain ⟨e1,e2,e3⟩:=vY t (min sp t.size) (by omega);obtain ⟨hz,hn⟩:=hm.next ht0 (by omega:0 < min sp t.size) (by omega);refine (oh (JS.thing _ _ _ _ _ _ _) ((JD.thing n jb s' d sp fl c').grow hJ hg) (fun SW hW=>vI n s' w9 SW (t.extract 0 (min sp t.size)) (by omega) hlim hok' hW)).mono ?_;rintro e w1 ⟨rfl,S1,h1,m1⟩;refine ⟨by rw [hz],(pR n jb _ d sp fl c' w1 S1 (by omega) hfl hlim (hok'.fed _) (hn.cl.trans hcl) h1).mono ?_⟩;rintro e w2 ⟨rfl,S2,h2,m2⟩;refine ⟨rfl,_,c'+1,f,S2,hn,hok'.fed _,h2,((m.trans (Mv.grow hg S')).trans m1).trans m2,by omega,⟨by omega,by omega⟩,?_⟩;rw [<-hr];show _=if t.size=0 then _ else _
  rw [ZO (by omega)]
 ·rintro t wr ⟨s',c',f,S',hm,hok',hJ,m,hf,hcf,hr⟩ ht0;have e:fin=(s',c'):=by
   rw [<-hr]
   cases f with
   | zero=>rfl
   | succ f=>show (if t.size=0 then _ else _)=_;rw [ZN ht0]
  rw [e];exact ⟨S',hJ,m⟩
theorem AB (n:Wn) (jb:Nat) (s:St) (sp fl c:Nat) (w:World) (S:Bl) (o:bj) (hsp2:sp<=1000) (hfl:fl<=5) (hc9:c<=1000000) (ho:o.is) (hos:o.s.size<=400) (hlim:n.lim < 0) (hok:s.ok) (hfi:s.fine) (hcl:s.cl=false) (hdr:s.drawing=true) (hroom:s.size+o.text.length<=1048576) (hB:n.B<=w.heap.size) (ht:bU n.B w) (h:JD n jb s s sp fl c w S):
  CP 99 #[zp jb,o.val] w (GF n jb w S (g_ sp s c o) sp fl):=by
 have hop:s.op=true:=by unfold St.drawing at hdr;simp at hdr;exact hdr.1
 obtain ⟨p,l,hpl,hpz⟩:=hok.some hop;have hl:=hok.pages;have hsz:=hok.size;obtain ⟨SJ,hJ,hsubJ,backJ⟩:=ah.fst (WD.thing _ _) h;obtain ⟨ps,vp,vm,hp,hS⟩:=hJ;rw [hpl] at hp;obtain ⟨x,ps',rfl⟩:∃ x ps',ps=x::ps':=by
  cases ps with
  | nil=>simp at hp
  | cons x ps'=>exact ⟨x,ps',rfl⟩
 obtain ⟨v0,q⟩:=x;simp only [Yo,List.cons.injEq] at hp;obtain ⟨rfl,hp⟩:=hp;obtain ⟨W,H,ops⟩:=q;have hlen:ps'.length+1<=80:=by
  rw [hpl] at hl;simp at hl;rw [<-hp] at hl;simpa using hl
 have hpn:ops.length<=1000000000:=by
  simp only at hpz;omega
 obtain ⟨Sa,Sb,hc,hr,hoff,back⟩:=ah.two (aS.thing _ _ _) hS;obtain ⟨Sp,Sq,hrp,hrq,hoff2,hsubq,backq⟩:=ah.two2 (aW.thing _ _ _ _ _ _) hr;obtain ⟨So,hro,hsubo,backo⟩:=ah.fst (aW.thing _ _ _ _ _ _) hrq;obtain ⟨S1,hm,hsub1,back1⟩:=ah.snd (dh.thing _ _) hro;obtain ⟨hS1,ow⟩:=hm;simp only at hS1 ow;obtain ⟨ad,cp,hform⟩:=eL ow;obtain ⟨g,cap,hfp,hcap,hcap2,hgl⟩:=iF hrp.2 (by simp);obtain ⟨Sr0,hrr0,hsubr0,_⟩:=ah.fst (ah.thing (dh.thing _ _) (aW.thing _ _ _ _ _ _)) hr;have hgy:jb≠g:=fun e=>hoff jb (by rw [hc.1];rfl) (hsubr0 jb (by rw [hrr0.1,hfp,e];rfl))
 have inq:∀ k,(Value.slice ad ops.length cp).ownBlock=some k->Sq k:=fun k e=>hsubo k (hsub1 k (by rw [hS1,hform];exact e))
 have ne:(Value.slice ad ops.length cp).ownBlock≠some jb:=fun e=>hoff jb (by rw [hc.1];rfl) (hsubq jb (inq jb e))
 have neg:(Value.slice ad ops.length cp).ownBlock≠some g:=fun e=>hoff2 g (by rw [hrp.1,hfp];rfl) (inq g e)
 have cg:=(show w.ownsRow n.B 100 3 (.slice g ((v0,W,H,ops)::ps').length cap) _ _ by rw [<-hfp];exact hrp.2).cellAt (ps'.length*3+2) (by simp;omega);have hget:(iy ((v0,(W,H,ops))::ps'))[ps'.length*3+2]? =some v0:=by
  rw [iy,Zb (by rw [eT];omega),eT,show ps'.length*3+2 - ps'.length*3=2 by omega];rfl
 rw [hget,hform] at cg;have hrp':=hrp;rw [hfp] at hrp';have fg:=(hrp'.cellAt (ps'.length*3+2) (by rw [eT];simp;omega)).2;refine DX w n.B jb g n.Wb (ps'.length+1) cap ops.length cp ps'.length sp ad o.k o.a o.b o.c o.d o.e o.co o.ro o.s (k_ ops) rfl (by omega) (by simpa using hcap) hcap2 hpn (hc.at 0 _ rfl) (by rw [hc.at 2 _ rfl,hfp];rfl) (hc.at 5 _ rfl) cg fg hc.2.2.1 hgl hgy hB (by rw [<-hform];exact ow) ne neg _ ?_;intro v w7 hg hA w9 hG9;obtain ⟨kr,km⟩:=hA.moved hg;rw [<-hform] at km;have m0:Mv S1 w (ob v) w7:=by rw [hS1];exact (Mv.grow ((ZT _ w).alloc (ZW _) _) (ob v0)).trans km
 obtain ⟨So',ho',mo⟩:=back1 (aW n.B 31 9 v (ops++[o]).length (k_ (ops++[o]))) w7 _ (by rw [qG,ZY];exact kr) m0;obtain ⟨Sq',hq',mq⟩:=backo _ _ _ ho' mo;obtain ⟨Sb',hb',mb⟩:=backq _ _ _ hq' mq;rw [hfp] at hb';obtain ⟨Sr,hrr,_,backr⟩:=ah.fst (ah.thing (ah.thing (dh.thing _ _) (aW.thing _ _ _ _ _ _)) (aW.thing _ _ _ _ _ _)) hb';obtain ⟨kp,mp⟩:=hrr.put (ps'.length*3+2) v;rw [Aj _ _ _ _ (ops++[o])] at kp;obtain ⟨Sz,hz,mz⟩:=backr _ _ _ kp mp;obtain ⟨SJ',hJ',mJ'⟩:=back _ _ _ hz (mb.trans mz);rw [<-hfp] at hJ';have hE:=Cc hdr ho hroom;have hJn:JS n.B jb n.Wb (s.draw o).2 sp fl c (w7.setCell (zq g (ps'.length*3+2)) v) SJ':=by
  rw [hE];exact ⟨(v,(W,H,ops++[o]))::ps',vp,vm,by simp [St.put,hpl,hp],hJ'⟩
 obtain ⟨S8,h8,m8⟩:=backJ _ _ _ hJn mJ';have h9:=(ah.thing (JS.thing _ _ _ _ _ _ _) (WD.thing _ _)).grow h8 hG9;have m9:=m8.trans (Mv.grow hG9 S8);have tb:=m9.tabBelow (JD.thing n jb s s sp fl c) h hB;obtain ⟨⟨im,gg,hV⟩,_⟩:=oF (sp:=sp) (c:=c) hdr ho hroom hok hfi;by_cases hkp:o.k=4/\0 < sp
 ·rw [ZN hkp];refine (xT n jb s (s.draw o).2 sp fl c w9 S8 o hkp.2 hsp2 hfl hkp.1 ho hos hc9 hlim hok hcl hdr hroom (ZU hB m9.size) (ht.on tb) h9).mono ?_;rintro e w' ⟨rfl,S',h',m'⟩;refine ⟨rfl,rfl,S',?_,m9.trans m'⟩;have hD:g_ sp s c o=ry sp o.s.size (s.begin (gB o)).2 o.s c:=by unfold g_;rw [ZN hkp]
  rw [<-hD] at h';obtain ⟨A1,A2,q1,q2,q3,q4⟩:=h';exact ⟨A1,A2,q1.like (by rw [hV,hE]) (by rw [hV,hE]) (by rw [hV,hE]) (by rw [hV,hE]),q2,q3,q4⟩
 ·rw [ZO hkp];have hD:g_ sp s c o=((s.draw o).2,c):=by unfold g_;rw [ZO hkp]
  rw [hD];obtain ⟨SW,hW,_,backW⟩:=ah.snd (JS.thing _ _ _ _ _ _ _) h9;refine (xd n s w9 SW o (by omega) hlim hok (ZU hB m9.size) (ht.on tb) hW).mono ?_;rintro e w' ⟨rfl,SW',hW',mW⟩;obtain ⟨S',h',m'⟩:=backW _ _ _ hW' mW;exact ⟨by rw [hE],rfl,S',h',m9.trans m'⟩
structure St.good (s:St) (i:Nat):Prop where
 ok:s.ok
 fine:s.fine
 left:s.left=0
 cl:s.cl=false
 size:s.size<=1500*i
theorem St.good.next {s:St} {i:Nat} (h:s.good i):s.good (i+1):=⟨h.ok,h.fine,h.left,h.cl,ZU h.size (by omega)⟩
theorem St.good.drawing {s:St} {i:Nat} (h:s.good i) (ho:s.op=true):s.drawing=true:=by unfold St.drawing;rw [ho,h.left];rfl
def vB (n:Wn) (jb:Nat) (sp fl:Nat) (r:St×Nat) (w:World) (S:Bl) (e:Ending) (w':World):Prop:=e=.returned true/\∃ S',JD n jb r.1 r.1 sp fl r.2 w' S'/\Mv S w S' w'
theorem oX {s:St} (hc:s.cl=false) {t:ByteArray} (ht:t.size<=100):s.titled t=(0,{s with title:=t}):=by
 unfold St.titled;rw [ZO (by simp [hc]),ZO (by omega)]
theorem tc {s:St} (ho:s.op=false) (hc:s.cl=false) {W H:Int} (hW:bG W 1 14400000) (hH:bG H 1 14400000) (hl:s.pages.length < 80):s.page W H=(0,{s with pages:=(W,H,[])::s.pages,op:=true,size:=0,g:=(lJ,[])}):=by
 unfold St.page;rw [ZO (by simp [ho,hc]),ZO (fun h=>h.elim (fun f=>f hW) (fun f=>f hH)),ZO (by omega)]
theorem oO {s:St} (ho:s.op=true) {t:ByteArray} (ht:t.size≠0) (ht2:t.size<=100) (hm:s.marks.length < 20):s.mark t=(0,{s with marks:=s.marks++[(t,s.pages.length - 1)]}):=by
 unfold St.mark;rw [ZO (by simp [ho]),ZO (by omega),ZO (by omega)]
theorem pG {s:St} (hd:s.drawing=true):s.endPage=(0,{s with op:=false,zs:=(s.g.2++aV s.g.1)::s.zs}):=by
 unfold St.endPage;rw [ZN hd]
theorem j6 (s:ByteArray):(s.extract 0 100).size<=100:=by simp;omega
theorem sd (s:ByteArray) (h:s.size≠0):(s.extract 0 100).size≠0:=by rw [ByteArray.size_extract];omega
theorem Av (n:Wn) (jb:Nat) (s:St) (sp fl c i:Nat) (x:pE) (w:World) (S:Bl) (hx:x.fits) (hk:aM x.k 8=6) (hg:s.good i) (h:JD n jb s s sp fl c w S):
  CP 51 #[zp jb,x.val] w (vB n jb sp fl ((s.titled (x.s.extract 0 100)).2,c) w S):=by
 obtain ⟨r1,_,_,_,_,_,_,_,r9⟩:=hx;have HK:=fun wx=>xE wx x.k 8 r1.1 r1.2 (by omega) (by omega)
 rw [hk] at HK;obtain ⟨ps,vp,vm,SC,hp,hall,hC⟩:=h.parts;refine CD w n.B jb n.Wb x.k x.a x.b x.c x.d x.e x.co x.ro x.s _ SC hC HK _ rfl (by simp [o5]) (x.s.extract 0 100) (fun wx=>qC wx x.s r9) ?_;intro wa w9 hga hg9;obtain ⟨S1,h1,m1⟩:=jw (lQ.thing _ _ _ _ _) (WD.thing _ _) ((JT _ _ _ _ _ _ _ _).grow hall hga) 1 (.string (x.s.extract 0 100)) (by simp [o5]);have h9:=(JT _ _ _ _ _ _ _ _).grow h1 hg9;have m9:Mv S w S1 w9:=((Mv.grow hga S).trans m1).trans (Mv.grow hg9 S1);have hE:=oX hg.cl (j6 x.s);refine (oh (ah.thing (aS.thing _ _ _) (lQ.thing _ _ _ _ _)) h9 (fun SW hW=>uc n s w9 SW (x.s.extract 0 100) (by have:=j6 x.s;omega) hW)).mono ?_;rintro e w' ⟨rfl,S',h',m'⟩;refine ⟨by rw [hE],rfl,S',?_,m9.trans m'⟩;rw [hE] at h' ⊢;exact JD.make (d:={s with title:=x.s.extract 0 100}) hp h'
theorem Aq (n:Wn) (jb:Nat) (s:St) (sp fl c i:Nat) (x:pE) (w:World) (S:Bl) (hx:x.fits) (hk:aM x.k 8=7) (hg:s.good i) (hlim:n.lim < 0) (h:JD n jb s s sp fl c w S):
  CP 51 #[zp jb,x.val] w (vB n jb sp fl (s,c) w S):=by
 obtain ⟨r1,_,_,_,_,_,_,_,r9⟩:=hx;have HK:=fun wx=>xE wx x.k 8 r1.1 r1.2 (by omega) (by omega)
 rw [hk] at HK;obtain ⟨ps,vp,vm,SC,hp,hall,hC⟩:=h.parts;refine Cx w n.B jb n.Wb x.k x.a x.b x.c x.d x.e x.co x.ro x.s _ SC hC HK _ rfl ?_;intro wa hga;have h9:=(JT _ _ _ _ _ _ _ _).grow hall hga;refine (oh (ah.thing (aS.thing _ _ _) (lQ.thing _ _ _ _ _)) h9 (fun SW hW=>m_ n s wa SW hlim hg.ok hW)).mono ?_;rintro e w' ⟨rfl,S',h',m'⟩;have hf:s.flush=0:=by unfold St.flush;rw [hg.cl];rfl
 exact ⟨by rw [hf],rfl,S',JD.make hp h',(Mv.grow hga S).trans m'⟩
theorem CU (n:Wn) (jb:Nat) (s:St) (sp fl c i:Nat) (x:pE) (w:World) (S:Bl) (hx:x.fits) (h6:aM x.k 8≠6) (h7:aM x.k 8≠7) (h0:aM x.k 8≠0) (h5:aM x.k 8≠5) (hop:s.op=true) (hi:i < 400) (hsp2:sp<=1000) (hfl:fl<=5) (hc9:c<=1000000) (hg:s.good i) (hlim:n.lim < 0) (hB:n.B<=w.heap.size) (ht:bU n.B w) (h:JD n jb s s sp fl c w S):
  CP 51 #[zp jb,x.val] w (vB n jb sp fl (g_ sp s c (zr x)) w S):=by
 have hx0:=hx;obtain ⟨r1,_,_,_,_,_,_,_,r9⟩:=hx;have HK:=fun wx=>xE wx x.k 8 r1.1 r1.2 (by omega) (by omega)
 obtain ⟨ps,vp,vm,SC,hp,hall,hC⟩:=h.parts;refine DG w n.B jb n.Wb x.k x.a x.b x.c x.d x.e x.co x.ro x.s _ SC hC _ (aM x.k 8) HK (eP _ _ (by omega)) (by simp;omega) (by simp;omega) (by simp;omega) (by simp;omega) (by rw [<-hop];rfl) ?_;intro wa hga;refine (Fu wa x hx0).mono ?_;rintro e w1 ⟨rfl,hb⟩;refine ⟨(zr x).val,rfl,?_⟩;have hgr:af w w1:=af.trans hga hb;have h1:=(JD.thing n jb s s sp fl c).grow h hgr;obtain ⟨ho,hos⟩:=BC x;have htx:=pD (zr x) ho hos;have hsz:=hg.size;refine (AB n jb s sp fl c w1 S (zr x) hsp2 hfl hc9 ho hos hlim hg.ok hg.fine hg.cl (hg.drawing hop) (by omega) (ZU hB hgr.size) (ht.on (hgr.mono hB)) h1).mono ?_;rintro e w' ⟨rfl,S',h',m'⟩;exact ⟨rfl,rfl,S',h',(Mv.grow hgr S).trans m'⟩
theorem qA (n:Wn) (jb:Nat) (s:St) (sp fl c i:Nat) (x:pE) (w:World) (S:Bl) (hx:x.fits) (hg:s.good i) (h:JD n jb s s sp fl c w S)
  (hc:(aM x.k 8=0/\s.pages.length=80)\/(aM x.k 8≠0/\aM x.k 8≠6/\aM x.k 8≠7/\s.op=false)\/(aM x.k 8=5/\s.op=true/\(x.s.size=0\/s.marks.length=20))):
  CP 51 #[zp jb,x.val] w (vB n jb sp fl (s,c) w S):=by
 obtain ⟨r1,_,_,_,_,_,_,_,r9⟩:=hx;have HK:=fun wx=>xE wx x.k 8 r1.1 r1.2 (by omega) (by omega)
 obtain ⟨ps,vp,vm,SC,hp,hall,hC⟩:=h.parts;have HZ:∀ wa,af w wa->vB n jb sp fl (s,c) w S (.returned true) wa:=fun wa hga=>⟨rfl,S,(JD.thing n jb s s sp fl c).grow h hga,Mv.grow hga S⟩
 obtain ⟨SJ,hJ,_,_⟩:=ah.fst (WD.thing _ _) hall;obtain ⟨Sb,hr,_,_⟩:=ah.snd (aS.thing _ _ _) hJ;obtain ⟨Sp,hrp,_,_⟩:=ah.fst (ah.thing (dh.thing _ _) (aW.thing _ _ _ _ _ _)) hr;obtain ⟨Sm,hrm,_,_⟩:=ah.third (aW.thing _ _ _ _ _ _) (dh.thing _ _) hr;obtain ⟨adp,capp,hfp⟩:=eL hrp.2;obtain ⟨adm,capm,hfm⟩:=eL hrm.2;have hlen:ps.length=s.pages.length:=by rw [<-hp];simp
 rcases hc with ⟨hk,hl⟩ | ⟨k0,k6,k7,ho⟩ | ⟨hk,ho,hs⟩
 ·rw [hk] at HK;exact DH w n.B jb n.Wb x.k x.a x.b x.c x.d x.e x.co x.ro x.s _ SC hC HK _ ps.length capp adp s.op (by rw [<-hfp];rfl) rfl (by omega) HZ
 ·exact DJ w n.B jb n.Wb x.k x.a x.b x.c x.d x.e x.co x.ro x.s _ SC hC _ (aM x.k 8) HK (eP _ _ (by omega)) (by simp;omega) (by simp;omega) (by simp;omega) (by rw [<-ho];rfl) HZ
 ·rw [hk] at HK;refine zy w n.B jb n.Wb x.k x.a x.b x.c x.d x.e x.co x.ro x.s _ SC hC HK _ (by rw [<-ho];rfl) s.marks.length capm adm (by rw [<-hfm];rfl) hg.ok.marks ?_ HZ;by_cases h0:x.s.size=0
  ·left;exact Zd (Array.eq_empty_of_size_eq_zero h0)
  ·exact .inr ⟨sj h0,by omega⟩
theorem CV (n:Wn) (jb:Nat) (s:St) (sp fl c i:Nat) (x:pE) (w:World) (S:Bl) (hx:x.fits) (hk:aM x.k 8=5) (hop:s.op=true) (hs0:x.s.size≠0) (hm20:s.marks.length < 20) (hg:s.good i) (hB:n.B<=w.heap.size) (h:JD n jb s s sp fl c w S):
  CP 51 #[zp jb,x.val] w (vB n jb sp fl ((s.mark (x.s.extract 0 100)).2,c) w S):=by
 obtain ⟨r1,_,_,_,_,_,_,_,r9⟩:=hx;have HK:=fun wx=>xE wx x.k 8 r1.1 r1.2 (by omega) (by omega)
 rw [hk] at HK;obtain ⟨ps,vp,vm,SC,hp,hall,hC⟩:=h.parts;obtain ⟨SJ,hJ,_,_⟩:=ah.fst (WD.thing _ _) hall;obtain ⟨Sa,Sb,hCa,hr,hoff,_⟩:=ah.two (aS.thing _ _ _) hJ;obtain ⟨Sp,hrp,_,_⟩:=ah.fst (ah.thing (dh.thing _ _) (aW.thing _ _ _ _ _ _)) hr;obtain ⟨Sm,hrm,hsubm,_⟩:=ah.third (aW.thing _ _ _ _ _ _) (dh.thing _ _) hr;obtain ⟨adp,capp,hfp⟩:=eL hrp.2;obtain ⟨ad,cap,hfm⟩:=eL hrm.2;have hlen:ps.length=s.pages.length:=by rw [<-hp];simp
 obtain ⟨p,l,hpl,_⟩:=hg.ok.some hop;have hN:0 < ps.length:=by rw [hlen,hpl];simp
 have hN2:=hg.ok.pages;have ne:(Value.slice ad s.marks.length cap).ownBlock≠some jb:=by
  intro e;refine hoff jb ?_ (hsubm jb ?_)
  ·rw [hCa.1];rfl
  ·rw [hrm.1,hfm];exact e
 subst hfm;have hE:=oO hop (sd x.s hs0) (j6 x.s) hm20;refine DI w n.B jb n.Wb x.k x.a x.b x.c x.d x.e x.co x.ro x.s _ SC hC HK _ s.marks.length cap ps.length capp ad adp (iz s.marks) rfl (by rw [<-hfp];rfl) rfl (by rw [<-hop];rfl) hm20 hN (by omega) (sj hs0) hB hrm.2 ne (x.s.extract 0 100) (fun wx=>qC wx x.s r9) ?_;intro w0 v w7 w9 hg0 hg7 hA7 hg9;have e1:((ps.length:Nat):Int) - 1=((s.pages.length - 1:Nat):Int):=by omega
 rw [e1] at hA7;obtain ⟨S7,h7,m7⟩:=yk (WD.thing _ _) ((JT _ _ _ _ _ _ _ _).grow hall hg0) hg7 hA7;obtain ⟨S8,h8,m8⟩:=jw (lQ.thing _ _ _ _ _) (WD.thing _ _) h7 3 v (by simp [o5]);have h9:=(JT _ _ _ _ _ _ _ _).grow h8 hg9;have m9:Mv S w S8 w9:=(((Mv.grow hg0 S).trans m7).trans m8).trans (Mv.grow hg9 S8);refine (oh (ah.thing (aS.thing _ _ _) (lQ.thing _ _ _ _ _)) h9 (fun SW hW=>Dz n s w9 SW (x.s.extract 0 100) (by have:=j6 x.s;omega) hg.ok (ZU hB m9.size) hW)).mono ?_;rintro e w' ⟨rfl,S',h',m'⟩;refine ⟨by rw [hE],rfl,S',?_,m9.trans m'⟩;rw [hE] at h' ⊢;exact JD.make (d:={s with marks:=s.marks++[(x.s.extract 0 100,s.pages.length - 1)]}) hp h'
theorem CW (n:Wn) (jb:Nat) (s:St) (sp fl c i:Nat) (x:pE) (w:World) (S:Bl) (hx:x.fits) (hk:aM x.k 8=0) (h80:s.pages.length < 80) (hg:s.good i) (hlim:n.lim < 0) (hB:n.B<=w.heap.size) (ht:bU n.B w) (h:JD n jb s s sp fl c w S):
  CP 51 #[zp jb,x.val] w (vB n jb sp fl (((if s.op then s.endPage.2 else s).page (au x.a 1) (au x.b 1)).2,c) w S):=by
 obtain ⟨r1,r2,r3,_,_,_,_,_,r9⟩:=hx;have HK:=fun wx=>xE wx x.k 8 r1.1 r1.2 (by omega) (by omega)
 rw [hk] at HK;have HP1:=fun wx=>lM wx x.a 1 r2.1 r2.2 (by omega) (by omega)
 have HP2:=fun wx=>lM wx x.b 1 r3.1 r3.2 (by omega) (by omega)
 have iW:bG (au x.a 1) 1 14400000:=bo x.a 1 (by omega);have iH:bG (au x.b 1) 1 14400000:=bo x.b 1 (by omega);obtain ⟨ps,vp,vm,SC,hp,hall,hC⟩:=h.parts;obtain ⟨SJ,hJ,_,_⟩:=ah.fst (WD.thing _ _) hall;obtain ⟨Sa,Sb,hCa,hr,hoff,_⟩:=ah.two (aS.thing _ _ _) hJ;obtain ⟨Sp,hrp,hsubp,_⟩:=ah.fst (ah.thing (dh.thing _ _) (aW.thing _ _ _ _ _ _)) hr;obtain ⟨ad,cap,hfp⟩:=eL hrp.2;have hlen:ps.length=s.pages.length:=by rw [<-hp];simp
 have ne:(Value.slice ad ps.length cap).ownBlock≠some jb:=by
  intro e;refine hoff jb ?_ (hsubp jb ?_)
  ·rw [hCa.1];rfl
  ·rw [hrp.1,hfp];exact e
 subst hfp;have REST:∀ (s1:St) (wb:World) (Sx:Bl),s1.good i->s1.op=false->s1.title=s.title->s1.pages=s.pages->s1.marks=s.marks->n.B<=wb.heap.size->bU n.B wb->
   ah (ah (aS n.B jb (o5 n.Wb s (.slice ad ps.length cap) vm sp fl c)) (lQ n.B ps s.marks (.slice ad ps.length cap) vm)) (WD n s1) wb Sx->Mv S w Sx wb->
   ∀ w0 v w7 w9,af wb w0->w0.grownBy w7 (Value.slice ad ps.length cap).ownBlock->gq w0 (Value.slice ad ps.length cap).ownBlock n.B 100 3 (ps.length+1) (iy ps++[.int .i64 (au x.a 1),.int .i64 (au x.b 1),.slice none 0 0]) v w7->af ((w7.setCell (zq jb 2) v).setCell (zq jb 4) true) w9->
   CP 34 #[zp n.Wb,(au x.a 1:Int),(au x.b 1:Int)] w9 fun e w'=>e=.returned (0:Int)/\vB n jb sp fl ((s1.page (au x.a 1) (au x.b 1)).2,c) w S (.returned true) w':=by
  intro s1 wb Sx hg1 ho1 ht1 hp1 hm1 hBb htb hallb mb w0 v w7 w9 hg0 hg7 hA7 hg9;obtain ⟨S7,h7,m7⟩:=BD (WD.thing _ _) ((JT _ _ _ _ _ _ _ _).grow hallb hg0) hg7 hA7;obtain ⟨S8,h8,m8⟩:=jw (lQ.thing _ _ _ _ _) (WD.thing _ _) h7 2 v (by simp [o5]);obtain ⟨S8',h8',m8'⟩:=jw (lQ.thing _ _ _ _ _) (WD.thing _ _) h8 4 true (by simp [o5]);have h9:=(JT _ _ _ _ _ _ _ _).grow h8' hg9;have mb9:Mv Sx wb S8' w9:=((((Mv.grow hg0 Sx).trans m7).trans m8).trans m8').trans (Mv.grow hg9 S8');have m9:=mb.trans mb9;have tb:=mb9.tabBelow (JT _ _ _ _ _ _ _ _) hallb hBb;have hE:=tc ho1 hg1.cl iW iH (by rw [hp1];exact h80);refine (oh (ah.thing (aS.thing _ _ _) (lQ.thing _ _ _ _ _)) h9 (fun SW hW=>vW n s1 w9 SW _ _ hlim hg1.ok (ZU hBb mb9.size) (htb.on tb) hW)).mono ?_;rintro e w' ⟨rfl,S',h',m'⟩;refine ⟨by rw [hE],rfl,S',?_,m9.trans m'⟩;rw [hE] at h' ⊢;refine JD.make (d:={s1 with pages:=(au x.a 1,au x.b 1,[])::s1.pages,op:=true,size:=0,g:=(lJ,[])}) (ps:=(.slice none 0 0,(au x.a 1,au x.b 1,[]))::ps) (vp:=v) (vm:=vm) (by rw [hp1, <-hp];rfl) ?_;simp only [ht1,hm1] at h';simp only [o5,ht1,hm1];exact h'
 cases hop:s.op with
 | false=>
  rw [ZO (by decide)];refine Cy w n.B jb n.Wb x.k x.a x.b x.c x.d x.e x.co x.ro x.s _ SC hC HK _ ps.length cap ad (iy ps) (au x.a 1) (au x.b 1) rfl rfl (by rw [<-hop];rfl) (by omega) hB hrp.2 ne HP1 HP2 ?_;intro wa hga;exact REST s wa S hg hop rfl rfl rfl (ZU hB hga.size) (ht.on (hga.mono hB)) ((JT _ _ _ _ _ _ _ _).grow hall hga) (Mv.grow hga S)
 | true=>
  rw [ZN rfl];refine Cz w n.B jb n.Wb x.k x.a x.b x.c x.d x.e x.co x.ro x.s _ SC hC HK _ ps.length cap ad (iy ps) (au x.a 1) (au x.b 1) rfl rfl (by rw [<-hop];rfl) (by omega) hB hrp.2 ne HP1 HP2 ?_;intro wa hga;have halla:=(JT _ _ _ _ _ _ _ _).grow hall hga;have hEE:=pG (hg.drawing hop);refine (oh (ah.thing (aS.thing _ _ _) (lQ.thing _ _ _ _ _)) halla (fun SW hW=>yf n s wa SW hlim hg.ok (ZU hB hga.size) (ht.on (hga.mono hB)) hW)).mono ?_;rintro e wb ⟨rfl,S2,h2,m2⟩;obtain ⟨SJ2,hJ2,_,_⟩:=ah.fst (WD.thing _ _) h2;obtain ⟨S3,hC3,_,_⟩:=ah.fst (lQ.thing _ _ _ _ _) hJ2;obtain ⟨Sb2,hr2,_,_⟩:=ah.snd (aS.thing _ _ _) hJ2;obtain ⟨Sp2,hrp2,_,_⟩:=ah.fst (ah.thing (dh.thing _ _) (aW.thing _ _ _ _ _ _)) hr2;have mm:=(Mv.grow hga S).trans m2;have tb:=mm.tabBelow (JT _ _ _ _ _ _ _ _) hall hB;refine ⟨by rw [hEE],S3,hC3,hrp2.2,ZU hB mm.size,fun k hk hk2=>m2.keep hk2 (fun e=>by have:=(JT _ _ _ _ _ _ _ _).lt hall e;omega),?_⟩;refine REST s.endPage.2 wb S2 ⟨hg.ok.ended,hg.fine.ended,?_,?_,?_⟩ ?_ ?_ ?_ ?_ (ZU hB mm.size) (ht.on tb) h2 mm
  all_goals rw [hEE]
  ·exact hg.left
  ·exact hg.cl
  ·exact hg.size
def tP (sp:Nat) (s:St) (c:Nat) (x:pE):St×Nat:=
 if aM x.k 8=6 then ((s.titled (x.s.extract 0 100)).2,c)
 else if aM x.k 8=7 then (s,c)
 else if aM x.k 8=0 then (if s.pages.length < 80 then (((if s.op then s.endPage.2 else s).page (au x.a 1) (au x.b 1)).2,c) else (s,c))
 else if s.op=false then (s,c)
 else if aM x.k 8=5 then (if x.s.size=0\/s.marks.length=20 then (s,c) else ((s.mark (x.s.extract 0 100)).2,c))
 else g_ sp s c (zr x)
theorem D9 (n:Wn) (jb:Nat) (s:St) (sp fl c i:Nat) (x:pE) (w:World) (S:Bl) (hx:x.fits) (hi:i < 400) (hsp2:sp<=1000) (hfl:fl<=5) (hc9:c<=1000000) (hg:s.good i) (hlim:n.lim < 0) (hB:n.B<=w.heap.size) (ht:bU n.B w) (h:JD n jb s s sp fl c w S):
  CP 51 #[zp jb,x.val] w (vB n jb sp fl (tP sp s c x) w S):=by
 have hk:=eP x.k 8 (by omega);have hpg:=hg.ok.pages;have hmk:=hg.ok.marks;unfold tP;by_cases k6:aM x.k 8=6
 ·rw [ZN k6];exact Av n jb s sp fl c i x w S hx k6 hg h
 rw [ZO k6];by_cases k7:aM x.k 8=7
 ·rw [ZN k7];exact Aq n jb s sp fl c i x w S hx k7 hg hlim h
 rw [ZO k7];by_cases k0:aM x.k 8=0
 ·rw [ZN k0];by_cases h80:s.pages.length < 80
  ·rw [ZN h80];exact CW n jb s sp fl c i x w S hx k0 h80 hg hlim hB ht h
  ·rw [ZO h80];exact qA n jb s sp fl c i x w S hx hg h (.inl ⟨k0,by omega⟩)
 rw [ZO k0];by_cases ho:s.op=false
 ·rw [ZN ho];exact qA n jb s sp fl c i x w S hx hg h (.inr (.inl ⟨k0,k6,k7,ho⟩))
 rw [ZO ho];have hop:s.op=true:=by cases e:s.op with | true=>rfl | false=>exact absurd e ho
 by_cases k5:aM x.k 8=5
 ·rw [ZN k5];by_cases hn:x.s.size=0\/s.marks.length=20
  ·rw [ZN hn];exact qA n jb s sp fl c i x w S hx hg h (.inr (.inr ⟨k5,hop,hn⟩))
  ·rw [ZO hn];exact CV n jb s sp fl c i x w S hx k5 hop (fun e=>hn (.inl e)) (by omega) hg hB h
 ·rw [ZO k5];exact CU n jb s sp fl c i x w S hx k6 k7 k0 k5 hop hi hsp2 hfl hc9 hg hlim hB ht h
theorem CI (w:World) (y Wb:Nat) (a0:Option Addr) (len cap b off:Nat) (sc:Nat->pE) (hm:len<=9223372036854775807) (ha:0 < len->a0=some ⟨b,off,none⟩) (I:Nat->World->Prop) (Z:Ending->World->Prop)
  (h00:Hid (I 0 w))
  (FS:Hid (∀ wr k i,I k wr->i < len->∀ (j:Nat) u,([.int .i64 (sc i).k,.int .i64 (sc i).a,.int .i64 (sc i).b,.int .i64 (sc i).c,.int .i64 (sc i).d,.int .i64 (sc i).e,.int .i64 (sc i).co,.int .i64 (sc i).ro,.string (sc i).s]:List Value)[j]? =some u->wr.cell? (zq b (off+i*9+j))=some u))
  (H1:Hid (∀ wr i,I i wr->i < len->i < 400->CP 51 #[zp y,(sc i).val] wr fun e w'=>e=.returned true/\CP 52 #[zp y] w' fun e w''=>e=.returned true/\I (i+1) w''))
  (HE:Hid (∀ wr i,I i wr->i=min len 400->wr.cell? y=some (.pointer (some ⟨Wb,0,none⟩))/\((wr.cell? (zq y 4)=some (.bool false)/\CP 18 #[zp Wb] wr fun e w'=>e=.returned (0:Int)/\Z (.returned true) w')\/(wr.cell? (zq y 4)=some (.bool true)/\CP 33 #[zp Wb] wr fun e w1=>e=.returned (0:Int)/\w1.cell? y=some (.pointer (some ⟨Wb,0,none⟩))/\CP 18 #[zp Wb] w1 fun e w'=>e=.returned (0:Int)/\Z (.returned true) w')))):
  CP 22 #[zp y,.slice a0 len cap] w Z:=by
 go_enter func22,ntmps22
 go_wp2_with fail
 go_loopg [5,6,7] (len+1) (fun gg ix _ _ wr=>∃ i:Nat,i<=len/\i<=400/\len - i < gg/\ix=.int .i64 (i:Int)/\Hid (I i wr))
 case atStart=>exact ⟨0,by omega,by omega,by omega,rfl,h00⟩
 case round=>
  obtain ⟨i,hi,hi4,hgk,rfl,hI⟩:=hrel;clear h00;by_cases hlt:i < len
  ·have d1:decide ((i:Int) < (len:Int))=true:=by simp;omega
   by_cases hlt4:i < 400
   ·have d4:decide ((i:Int) < 400)=true:=by simp;omega
    have hae:=ha (by omega);subst hae;have FX:=ai (FS.out wr i i hI.out hlt);have G1:=ai (H1.out wr i hI.out hlt hlt4);clear FS H1 HE hI ha;go_wp2_with (refine wpList_load_mid rfl 76 (.tmp 21) rfl b (off+i*9) rfl _ _ FX.out underlying76 rfl (by kernel_rfl) ?_)
    refine G1.out.mono ?_;rintro e w1 ⟨rfl,hf⟩;have G2:=ai hf;clear hf;go_wp2_with fail
    refine G2.out.mono ?_;rintro e w2 ⟨rfl,hn⟩;have HN:=ai hn;clear hn G1 G2 FX;go_wp2;go_roundg (gk - 1)
    case measure=>omega
    case rel=>exact ⟨i+1,by omega,by omega,by omega,by go_num,HN⟩
   ·have d4:decide ((i:Int) < 400)=false:=by simp;omega
    obtain ⟨c0,e4⟩:=HE.out wr i hI.out (by omega);clear FS H1 HE hI ha;rcases e4 with ⟨c4,hc⟩ | ⟨c4,he⟩
    ·have HC:=ai hc;clear hc;go_wp2_with fail
     refine HC.out.mono ?_;rintro e w1 ⟨rfl,hz⟩;have HZ:=ai hz;clear hz HC;go_wp2
     first | exact HZ.out | (go_ret;exact HZ.out)
    ·have HC:=ai he;clear he;go_wp2_with fail
     refine HC.out.mono ?_;rintro e w1 ⟨rfl,k0,hz⟩;have HC2:=ai hz;clear hz HC c0 c4;go_wp2_with fail
     refine HC2.out.mono ?_;rintro e w2 ⟨rfl,hz⟩;have HZ:=ai hz;clear hz HC2;go_wp2
     first | exact HZ.out | (go_ret;exact HZ.out)
  ·have d1:decide ((i:Int) < (len:Int))=false:=by simp;omega
   obtain ⟨c0,e4⟩:=HE.out wr i hI.out (by omega);clear FS H1 HE hI ha;rcases e4 with ⟨c4,hc⟩ | ⟨c4,he⟩
   ·have HC:=ai hc;clear hc;go_wp2_with fail
    refine HC.out.mono ?_;rintro e w1 ⟨rfl,hz⟩;have HZ:=ai hz;clear hz HC;go_wp2
    first | exact HZ.out | (go_ret;exact HZ.out)
   ·have HC:=ai he;clear he;go_wp2_with fail
    refine HC.out.mono ?_;rintro e w1 ⟨rfl,k0,hz⟩;have HC2:=ai hz;clear hz HC c0 c4;go_wp2_with fail
    refine HC2.out.mono ?_;rintro e w2 ⟨rfl,hz⟩;have HZ:=ai hz;clear hz HC2;go_wp2
    first | exact HZ.out | (go_ret;exact HZ.out)
structure St.like (a b:St):Prop where
 title:a.title=b.title
 pages:a.pages=b.pages
 marks:a.marks=b.marks
 op:a.op=b.op
 size:a.size=b.size
theorem Eu {s:St} (h:¬ s.op=false):s.op=true:=by cases e:s.op with | true=>rfl | false=>exact absurd e h
theorem St.good.page {s:St} {i:Nat} (hg:s.good i) (h80:s.pages.length < 80) (x:pE):((if s.op then s.endPage.2 else s).page (au x.a 1) (au x.b 1)).2.good (i+1)/\((if s.op then s.endPage.2 else s).page (au x.a 1) (au x.b 1)).2.like {s with pages:=(au x.a 1,au x.b 1,[])::s.pages,op:=true,size:=0}:=by
 have iW:bG (au x.a 1) 1 14400000:=bo x.a 1 (by omega);have iH:bG (au x.b 1) 1 14400000:=bo x.b 1 (by omega)
 cases hop:s.op with
 | false=>
  rw [ZO (by decide)];have hE:=tc hop hg.cl iW iH h80;exact ⟨⟨hg.ok.paged _ _,hg.fine.paged _ _,by rw [hE];exact hg.left,by rw [hE];exact hg.cl,by rw [hE];exact YO _⟩,by rw [hE];exact ⟨rfl,rfl,rfl,rfl,rfl⟩⟩
 | true=>
  rw [ZN rfl];have hEE:=pG (hg.drawing hop);have hE:=tc (s:=s.endPage.2) (by rw [hEE]) (by rw [hEE];exact hg.cl) iW iH (by rw [hEE];exact h80);exact ⟨⟨hg.ok.ended.paged _ _,hg.fine.ended.paged _ _,by rw [hE,hEE];exact hg.left,by rw [hE,hEE];exact hg.cl,by rw [hE];exact YO _⟩,by rw [hE,hEE];exact ⟨rfl,rfl,rfl,rfl,rfl⟩⟩
theorem B8 {sp c i:Nat} {s:St} {x:pE} (hg:s.good i) (hi:i < 400):(tP sp s c x).1.good (i+1)/\(tP sp s c x).2<=c+400:=by
 unfold tP;split
 ·have hE:=oX hg.cl (j6 x.s);exact ⟨⟨hg.ok.titled _,hg.fine.titled _,by rw [hE];exact hg.left,by rw [hE];exact hg.cl,by rw [hE];exact ZU hg.size (by omega)⟩,by show c<=_;omega⟩
 split
 ·exact ⟨hg.next,by show c<=_;omega⟩
 split
 ·split
  ·rename_i h80
   exact ⟨(hg.page h80 x).1,by show c<=_;omega⟩
  ·exact ⟨hg.next,by show c<=_;omega⟩
 split
 ·exact ⟨hg.next,by show c<=_;omega⟩
 rename_i ho
 have hop:=Eu ho;split
 ·split
  ·exact ⟨hg.next,by show c<=_;omega⟩
  ·rename_i hn
   have hmk:=hg.ok.marks;have hE:=oO hop (sd x.s (fun e=>hn (.inl e))) (j6 x.s) (by omega);exact ⟨⟨hg.ok.marked _,hg.fine.marked hg.ok _,by rw [hE];exact hg.left,by rw [hE];exact hg.cl,by rw [hE];exact ZU hg.size (by omega)⟩,by show c<=_;omega⟩
 ·obtain ⟨h1,h2⟩:=BC x;have htx:=pD (zr x) h1 h2;have hsz:=hg.size;obtain ⟨⟨im,gg,hV⟩,b1,b2,b3⟩:=oF (sp:=sp) (c:=c) (hg.drawing hop) h1 (by omega:s.size+(zr x).text.length<=1048576) hg.ok hg.fine;exact ⟨⟨b1,b2,by rw [hV],by rw [hV];exact hg.cl,by rw [hV];show s.size+(zr x).text.length<=_;omega⟩,by omega⟩
theorem Cw {sp sq c e i:Nat} {s p:St} {x:pE} (hg:s.good i) (hp:p.good i) (hi:i < 400) (h:s.like p):(tP sp s c x).1.like (tP sq p e x).1:=by
 unfold tP;rw [h.pages,h.op,h.marks];split
 ·rw [oX hg.cl (j6 x.s),oX hp.cl (j6 x.s)];exact ⟨rfl,h.pages,h.marks,h.op,h.size⟩
 split
 ·exact h
 split
 ·split
  ·rename_i h80
   have a:=(hg.page (by rw [h.pages];exact h80) x).2;have b:=(hp.page h80 x).2;rw [h.op] at a;exact ⟨a.title.trans (h.title.trans b.title.symm),a.pages.trans ((by rw [h.pages]:(_:List (Int×Int×List bj))=_).trans b.pages.symm),a.marks.trans (h.marks.trans b.marks.symm),a.op.trans b.op.symm,a.size.trans b.size.symm⟩
  ·exact h
 split
 ·exact h
 rename_i ho
 have hop:=Eu ho;have hos:s.op=true:=h.op.trans hop;split
 ·split
  ·exact h
  ·rename_i hn
   have hmk:=hp.ok.marks;rw [oO hos (sd x.s (fun e=>hn (.inl e))) (j6 x.s) (by rw [h.marks];omega),oO hop (sd x.s (fun e=>hn (.inl e))) (j6 x.s) (by omega)];exact ⟨h.title,h.pages,by show s.marks++_=p.marks++_;rw [h.marks,h.pages],h.op,h.size⟩
 ·obtain ⟨h1,h2⟩:=BC x;have htx:=pD (zr x) h1 h2;have hs1:=hg.size;have hs2:=hp.size;obtain ⟨⟨im,gg,hV⟩,_⟩:=oF (sp:=sp) (c:=c) (hg.drawing hos) h1 (by omega:s.size+(zr x).text.length<=1048576) hg.ok hg.fine;obtain ⟨⟨im2,gg2,hV2⟩,_⟩:=oF (sp:=sq) (c:=e) (hp.drawing hop) h1 (by omega:p.size+(zr x).text.length<=1048576) hp.ok hp.fine;rw [hV,hV2];exact ⟨h.title,by show s.put _=p.put _;unfold St.put;rw [h.pages],h.marks,h.op,by show s.size+_=p.size+_;rw [h.size]⟩
def gV (sp:Nat) (sc:Nat->pE):Nat->St×Nat
 | 0=>(St.new,0)
 | i+1=>((tP sp (gV sp sc i).1 (gV sp sc i).2 (sc i)).1,(tP sp (gV sp sc i).1 (gV sp sc i).2 (sc i)).2+1)
theorem na (sp:Nat) (sc:Nat->pE):∀ i,i<=400->(gV sp sc i).1.good i/\(gV sp sc i).2<=401*i
 | 0,_=>⟨⟨St.new_ok,St.new_fine,rfl,rfl,YO _⟩,YO _⟩
 | i+1,hi=>by
  obtain ⟨a,b⟩:=na sp sc i (by omega);obtain ⟨q,r⟩:=B8 (sp:=sp) (c:=(gV sp sc i).2) (x:=sc i) a (by omega);exact ⟨q,by show _+1<=_;omega⟩
theorem va (sp sq:Nat) (sc:Nat->pE):∀ i,i<=400->(gV sp sc i).1.like (gV sq sc i).1
 | 0,_=>⟨rfl,rfl,rfl,rfl,rfl⟩
 | i+1,hi=>Cw (na sp sc i (by omega)).1 (na sq sc i (by omega)).1 (by omega) (va sp sq sc i (by omega))
def mc (s:St):St:=(if s.op then s.endPage.2 else s).close.2
theorem oy {s:St} (ho:s.op=false) (hc:s.cl=false):s.close=(0,{s with cl:=true}):=by
 unfold St.close;rw [ZO (by simp [ho,hc])]
theorem Ce {s:St} {i:Nat} (hg:s.good i):(mc s).ok/\(mc s).fine/\(mc s).cl=true/\(mc s).title=s.title/\(mc s).pages=s.pages/\(mc s).marks=s.marks:=by
 unfold mc
 cases hop:s.op with
 | false=>
  rw [ZO (by decide)];have hE:=oy hop hg.cl;exact ⟨hg.ok.closed,hg.fine.closed,by rw [hE],by rw [hE],by rw [hE],by rw [hE]⟩
 | true=>
  rw [ZN rfl];have hEE:=pG (hg.drawing hop);have hE:=oy (s:=s.endPage.2) (by rw [hEE]) (by rw [hEE];exact hg.cl);exact ⟨hg.ok.ended.closed,hg.fine.ended.closed,by rw [hE],by rw [hE,hEE],by rw [hE,hEE],by rw [hE,hEE]⟩
def GG (n:Wn) (jb:Nat) (s d:St) (sp fl:Nat) (w:World) (S:Bl) (w':World):Prop:=∃ c S',JD n jb s d sp fl c w' S'/\Mv S w S' w'
theorem qB (n:Wn) (jb sp fl:Nat) (a0:Option Addr) (len cap b off:Nat) (sc:Nat->pE) (w:World) (S:Bl) (hsp2:sp<=1000) (hfl:fl<=5) (hm:len<=9223372036854775807) (ha:0 < len->a0=some ⟨b,off,none⟩) (hf:∀ i,i < len->(sc i).fits) (hlim:n.lim < 0) (hB:n.B<=w.heap.size) (ht:bU n.B w) (hbB:b < n.B\/len=0)
  (FS:∀ i,i < len->∀ (j:Nat) u,([.int .i64 (sc i).k,.int .i64 (sc i).a,.int .i64 (sc i).b,.int .i64 (sc i).c,.int .i64 (sc i).d,.int .i64 (sc i).e,.int .i64 (sc i).co,.int .i64 (sc i).ro,.string (sc i).s]:List Value)[j]? =some u->w.cell? (zq b (off+i*9+j))=some u)
  (h:JD n jb St.new St.new sp fl 0 w S):
  CP 22 #[zp jb,.slice a0 len cap] w fun e w'=>e=.returned true/\GG n jb (mc (gV sp sc (min len 400)).1) (gV sp sc (min len 400)).1 sp fl w S w':=by
 have TB:∀ {S':Bl} {wr:World},Mv S w S' wr->Below n.B w wr:=fun m=>m.tabBelow (JD.thing n jb St.new St.new sp fl 0) h hB
 refine CI w jb n.Wb a0 len cap b off sc hm ha (fun i wr=>i<=400/\∃ S',JD n jb (gV sp sc i).1 (gV sp sc i).1 sp fl (gV sp sc i).2 wr S'/\Mv S w S' wr) _ ?_ ?_ ?_ ?_
 ·exact ⟨YO _,S,h,Mv.refl _ _⟩
 ·rintro wr k i ⟨_,S',_,m⟩ hi j u hu;rw [(TB m).cell (p:=zq b (off+i*9+j)) (by show b < n.B;omega)];exact FS i hi j u hu
 ·rintro wr i ⟨_,S',hJ,m⟩ hi hi4;obtain ⟨hg,hc⟩:=na sp sc i (by omega);obtain ⟨hg1,hal⟩:=B8 (sp:=sp) (c:=(gV sp sc i).2) (x:=sc i) hg hi4;refine (D9 n jb _ sp fl _ i (sc i) wr S' (hf i hi) hi4 hsp2 hfl (by omega) hg hlim (ZU hB m.size) (ht.on (TB m)) hJ).mono ?_;rintro e w1 ⟨rfl,S1,hJ1,m1⟩;refine ⟨rfl,(pR n jb _ _ sp fl _ w1 S1 (by omega) hfl hlim hg1.ok hg1.cl hJ1).mono ?_⟩;rintro e w2 ⟨rfl,S2,hJ2,m2⟩;exact ⟨rfl,by omega,S2,hJ2,(m.trans m1).trans m2⟩
 ·rintro wr i ⟨hi4,S',hJ,m⟩ rfl;have hg:=(na sp sc (min len 400) (by omega)).1;obtain ⟨ps,vp,vm,SC,hp,hall,hC⟩:=hJ.parts;refine ⟨hC.at 0 _ rfl,?_⟩;obtain ⟨s,hs⟩:∃ s,(gV sp sc (min len 400)).1=s:=⟨_,rfl⟩;rw [hs] at hg hJ hC hp hall ⊢;generalize (gV sp sc (min len 400)).2=i at hJ hC hall;have hev:∀ b:Bool,s.op=b->mc s=(if b then s.endPage.2 else s).close.2:=fun b e=>by unfold mc;rw [e]
  cases hop:s.op with
  | false=>
   refine .inl ⟨by rw [hC.at 4 _ rfl,hop],?_⟩;have hE:=oy hop hg.cl;refine (oh (JS.thing _ _ _ _ _ _ _) hJ (fun SW hW=>tv n s wr SW hlim hg.ok hg.fine (ZU hB m.size) (ht.on (TB m)) hW)).mono ?_;rintro e w' ⟨rfl,S2,h2,m2⟩;rw [hev _ hop,ZO (by decide)];exact ⟨by rw [hE],rfl,i,S2,h2,m.trans m2⟩
  | true=>
   refine .inr ⟨by rw [hC.at 4 _ rfl,hop],?_⟩;have hEE:=pG (hg.drawing hop);refine (oh (JS.thing _ _ _ _ _ _ _) hJ (fun SW hW=>yf n s wr SW hlim hg.ok (ZU hB m.size) (ht.on (TB m)) hW)).mono ?_;rintro e w1 ⟨rfl,S1,h1,m1⟩;have m01:=m.trans m1;have h1':JD n jb s.endPage.2 s sp fl i w1 S1:=h1;obtain ⟨ps1,vp1,vm1,SC1,_,_,hC1⟩:=h1'.parts;refine ⟨by rw [hEE],hC1.at 0 _ rfl,?_⟩;have hE:=oy (s:=s.endPage.2) (by rw [hEE]) (by rw [hEE];exact hg.cl);refine (oh (JS.thing _ _ _ _ _ _ _) h1 (fun SW hW=>tv n s.endPage.2 w1 SW hlim hg.ok.ended hg.fine.ended (ZU hB m01.size) (ht.on (TB m01)) hW)).mono ?_;rintro e w' ⟨rfl,S2,h2,m2⟩;rw [hev _ hop,ZN rfl];exact ⟨by rw [hE],rfl,i,S2,h2,m01.trans m2⟩
theorem A6 (w:World) (n ca cb m c1 c2:Nat) (aa ab ad1 ad2:Option Addr) (t:ByteArray) (hn:n<=1000) (hca:n<=ca) (hcb:n<=cb) (hca2:ca<=9223372036854775807) (hcb2:cb<=9223372036854775807) (hm:m<=1000) (hc1:m<=c1) (hc2:m<=c2) (hc12:c1<=9223372036854775807) (hc22:c2<=9223372036854775807)
  (HM:Hid (0 < m->∃ g1 g2,ad1=some ⟨g1,0,none⟩/\ad2=some ⟨g2,0,none⟩/\g1 < w.heap.size/\g2 < w.heap.size/\∀ i,i < m->∃ (x:ByteArray) (p:Int),w.rangeAt g1 (i*2) [.string x,.int .i64 p]/\w.rangeAt g2 (i*2) [.string x,.int .i64 p]))
  (F:Hid (0 < n->∃ ga gb,aa=some ⟨ga,0,none⟩/\ab=some ⟨gb,0,none⟩/\ga < w.heap.size/\gb < w.heap.size/\∀ i,i < n->∃ (W H:Int) (no c3 c4:Nat) (ad3 ad4:Option Addr),w.rangeAt ga (i*3) [.int .i64 W,.int .i64 H,.slice ad3 no c3]/\w.rangeAt gb (i*3) [.int .i64 W,.int .i64 H,.slice ad4 no c4]/\no<=1000000000/\no<=c3/\no<=c4/\c3<=9223372036854775807/\c4<=9223372036854775807/\
   (0 < no->∃ g1 g2,ad3=some ⟨g1,0,none⟩/\ad4=some ⟨g2,0,none⟩/\g1 < w.heap.size/\g2 < w.heap.size/\∀ k,k < no->∃ (K A X C D E Co Ro:Int) (tt:ByteArray),w.rangeAt g1 (k*9) [.int .i64 K,.int .i64 A,.int .i64 X,.int .i64 C,.int .i64 D,.int .i64 E,.int .i64 Co,.int .i64 Ro,.string tt]/\w.rangeAt g2 (k*9) [.int .i64 K,.int .i64 A,.int .i64 X,.int .i64 C,.int .i64 D,.int .i64 E,.int .i64 Co,.int .i64 Ro,.string tt]))):
  QB 23 #[.agg #[t,.slice aa n ca,.slice ad1 m c1],.agg #[t,.slice ab n cb,.slice ad2 m c2]] w true:=by
 have bA:Below w w ((w.alloc (.cells #[t,.slice aa n ca,.slice ad1 m c1] 29)).alloc (.cells #[t,.slice ab n cb,.slice ad2 m c2] 29)):=((ZT _ w).alloc (ZW _) _).alloc (by first | (simp;done) | (simp;omega)) _;have ka:((w.alloc (.cells #[t,.slice aa n ca,.slice ad1 m c1] 29)).alloc (.cells #[t,.slice ab n cb,.slice ad2 m c2] 29)).heap[w.heap.size]? =some (.cells #[t,.slice aa n ca,.slice ad1 m c1] 29 (0,0)):=(Zf _ _ w.heap.size (by first | (simp;done) | (simp;omega))).trans (ZF w _);have kb:((w.alloc (.cells #[t,.slice aa n ca,.slice ad1 m c1] 29)).alloc (.cells #[t,.slice ab n cb,.slice ad2 m c2] 29)).heap[w.heap.size+1]? =some (.cells #[t,.slice ab n cb,.slice ad2 m c2] 29 (0,0)):=Yz w _ _;go_enter func23,ntmps23
 go_wp2_with fail
 generalize (w.alloc (.cells #[t,.slice aa n ca,.slice ad1 m c1] 29)).alloc (.cells #[t,.slice ab n cb,.slice ad2 m c2] 29)=w1 at bA ka kb ⊢;obtain ⟨ba,hba⟩:∃ k,w.heap.size=k:=⟨_,rfl⟩;obtain ⟨bb,hbb⟩:∃ k,w.heap.size+1=k:=⟨_,rfl⟩;rw [hbb] at kb ⊢;have HB1:=ai bA;rw [hba] at ka ⊢;have A1:Hid (w1.cell? (zq ba 1)=some (.slice aa n ca)):=by show _=_;rw [Zw w1 ba 1 _ _ (0,0) ka];rfl
 have A2:Hid (w1.cell? (zq ba 2)=some (.slice ad1 m c1)):=by show _=_;rw [Zw w1 ba 2 _ _ (0,0) ka];rfl
 have B1:Hid (w1.cell? (zq bb 1)=some (.slice ab n cb)):=by show _=_;rw [Zw w1 bb 1 _ _ (0,0) kb];rfl
 have B2:Hid (w1.cell? (zq bb 2)=some (.slice ad2 m c2)):=by show _=_;rw [Zw w1 bb 2 _ _ (0,0) kb];rfl
 clear ka kb bA hba hbb;go_loopg [5] (m+1) (fun gg y wr=>∃ i:Nat,i<=m/\m - i < gg/\y=.int .i64 (i:Int)/\Hid (af w1 wr))
 case atStart=>exact ⟨0,by omega,by omega,rfl,af.refl _⟩
 case round=>
  obtain ⟨i,hi,hgi,rfl,HB2⟩:=hrel;have a2:=aw HB2.out A2.out;have b2:=aw HB2.out B2.out;by_cases hlt:i < m
  ·have d1:decide ((i:Int) < (m:Int))=true:=by simp;omega
   obtain ⟨g1,g2,rfl,rfl,hg1l,hg2l,hR⟩:=HM.out (by omega);obtain ⟨x,p,R1,R2⟩:=hR i hlt;have hb3:Below w w wr:=HB1.out.trans (YY HB2.out HB1.out.size);have Rg1:Hid (_:Prop):=fun j u hj=>(ZQ (a:=zq g1 (i*2+j)) (hb3.block g1 hg1l)).trans (R1 j u hj)
   have Rg2:Hid (_:Prop):=fun j u hj=>(ZQ (a:=zq g2 (i*2+j)) (hb3.block g2 hg2l)).trans (R2 j u hj)
   have hg19:=ZK hg1l hb3.size;have hg29:=ZK hg2l hb3.size;clear R1 R2 hR hb3;go_wp2_with fail
   refine ap 10 _ (ag [zq ba 2,.slice g1 m c1,(i:Int),zq g1 (i*2),.agg #[x,p],zq bb 2,.slice g2 m c2,(i:Int),zq g2 (i*2),.agg #[x,p]]) (by kernel_rfl) rfl (by kernel_rfl) aq ?_;simp only [TD];refine ⟨fun w1 hG hd=>?_,fun v0=>?_⟩
   ·clear hd;go_wp2;exact RG
   simp only [TN];refine ⟨fun w1 hG hd=>?_,fun v1=>?_⟩
   ·have d0:v0=.pointer (some ⟨ba,2,none⟩):=hd ⟨0,.data⟩ (by simp) rfl;clear hd;subst d0;have c:=aw hG a2;go_wp2;exact RG
   simp only [TN];refine ⟨fun w1 hG hd=>?_,fun v2=>?_⟩
   ·clear hd;go_wp2;exact RG
   simp only [TN];refine ⟨fun w1 hG hd=>?_,fun v3=>?_⟩
   ·have d1:v1=.slice g1 m c1:=hd ⟨1,.data⟩ (by simp) rfl;have d2:v2=.int .i64 (i:Int):=hd ⟨2,.data⟩ (by simp) rfl;clear hd;subst d1 d2;go_wp2;exact RG
   simp only [TN];refine ⟨fun w1 hG hd=>?_,fun v4=>?_⟩
   ·have d3:v3=.pointer (some ⟨g1,i*2,none⟩):=hd ⟨3,.data⟩ (by simp) rfl;clear hd;subst d3;refine wpList_load_mid rfl 98 (.tmp 43) rfl g1 (i*2) rfl [.string x,.int .i64 p] _ (fun j u hj=>(ZQ (a:=zq g1 (i*2+j)) (hG.block g1 hg19)).trans (Rg1.out j u hj)) underlying98 rfl (by kernel_rfl) ?_;refine YN ?_;exact ⟨rfl,rfl,rfl,af.refl _⟩
   simp only [TN];refine ⟨fun w1 hG hd=>?_,fun v5=>?_⟩
   ·clear hd;go_wp2;exact RG
   simp only [TN];refine ⟨fun w1 hG hd=>?_,fun v6=>?_⟩
   ·have d5:v5=.pointer (some ⟨bb,2,none⟩):=hd ⟨5,.data⟩ (by simp) rfl;clear hd;subst d5;have c:=aw hG b2;go_wp2;exact RG
   simp only [TN];refine ⟨fun w1 hG hd=>?_,fun v7=>?_⟩
   ·clear hd;go_wp2;exact RG
   simp only [TN];refine ⟨fun w1 hG hd=>?_,fun v8=>?_⟩
   ·have d6:v6=.slice g2 m c2:=hd ⟨6,.data⟩ (by simp) rfl;have d7:v7=.int .i64 (i:Int):=hd ⟨7,.data⟩ (by simp) rfl;clear hd;subst d6 d7;go_wp2;exact RG
   simp only [TN];refine ⟨fun w1 hG hd=>?_,fun v9=>?_⟩
   ·have d8:v8=.pointer (some ⟨g2,i*2,none⟩):=hd ⟨8,.data⟩ (by simp) rfl;clear hd;subst d8;refine wpList_load_mid rfl 98 (.tmp 48) rfl g2 (i*2) rfl [.string x,.int .i64 p] _ (fun j u hj=>(ZQ (a:=zq g2 (i*2+j)) (hG.block g2 hg29)).trans (Rg2.out j u hj)) underlying98 rfl (by kernel_rfl) ?_;refine YN ?_;exact ⟨rfl,rfl,rfl,af.refl _⟩
   simp only [TN];intro w2 hG hd;have d4:v4=.agg #[x,p]:=hd 4 (by omega);have d9:v9=.agg #[x,p]:=hd 9 (by omega);subst d4 d9;have hb4:=ai (af.trans HB2.out hG);clear hd hG Rg1 Rg2 a2 b2 HB2;go_wp2_with fail
   go_roundg (gk - 1)
   case measure=>omega
   case rel=>exact ⟨i+1,by omega,by omega,by congr 1,hb4⟩
  ·obtain rfl:i=m:=by omega
   have d1:decide ((i:Int) < (i:Int))=false:=by simp
   clear HM;go_wp2_with fail
   go_loopg [6,7,8,9] (n+1) (fun gg y _ _ _ wr=>∃ i:Nat,i<=n/\n - i < gg/\y=.int .i64 (i:Int)/\Hid (af w1 wr))
   case atStart=>exact ⟨0,by omega,by omega,rfl,HB2⟩
   case round=>
    obtain ⟨ix,hix,hgix,rfl,HB3⟩:=hrel;clear a2 b2 HB2;obtain ⟨GK,hGK⟩:∃ GK,GK=gk:=⟨_,rfl⟩;have a1:=aw HB3.out A1.out;have b1:=aw HB3.out B1.out;by_cases hlt2:ix < n
    ·have d2:decide ((ix:Int) < (n:Int))=true:=by simp;omega
     obtain ⟨ga,gb,rfl,rfl,hgal,hgbl,hR⟩:=F.out (by omega);obtain ⟨W,H,no,c3,c4,ad3,ad4,R1,R2,hno,hc3,hc4,hc32,hc42,hops⟩:=hR ix hlt2;have HOP:=ai hops;have hb3:Below w w wr:=HB1.out.trans (YY HB3.out HB1.out.size);have Rg1:Hid (_:Prop):=fun j u hj=>(ZQ (a:=zq ga (ix*3+j)) (hb3.block ga hgal)).trans (R1 j u hj)
     have Rg2:Hid (_:Prop):=fun j u hj=>(ZQ (a:=zq gb (ix*3+j)) (hb3.block gb hgbl)).trans (R2 j u hj)
     have HB9:=ai hb3;clear R1 R2 hR hb3 hops;have gA:af wr ((wr.alloc (.cells #[W,H,.slice ad3 no c3] 100)).alloc (.cells #[W,H,.slice ad4 no c4] 100)):=((ZT _ wr).alloc (ZW _) _).alloc (by first | (simp;done) | (simp;omega)) _;have kp:((wr.alloc (.cells #[W,H,.slice ad3 no c3] 100)).alloc (.cells #[W,H,.slice ad4 no c4] 100)).heap[wr.heap.size]? =some (.cells #[W,H,.slice ad3 no c3] 100 (0,0)):=(Zf _ _ wr.heap.size (by first | (simp;done) | (simp;omega))).trans (ZF wr _);have kq:((wr.alloc (.cells #[W,H,.slice ad3 no c3] 100)).alloc (.cells #[W,H,.slice ad4 no c4] 100)).heap[wr.heap.size+1]? =some (.cells #[W,H,.slice ad4 no c4] 100 (0,0)):=Yz wr _ _;have GA:=ai gA;have KP:=ai kp;have KQ:=ai kq;have b1':(wr.alloc (.cells #[W,H,.slice ad3 no c3] 100)).cell? (zq bb 1)=some (.slice gb n cb):=aw ((ZT _ wr).alloc (ZW _) _) b1;clear gA kp kq;go_wp2_with (first
      | (refine wpList_load_mid rfl 100 (.tmp 61) rfl ga (ix*3) rfl [.int .i64 W,.int .i64 H,.slice ad3 no c3] _ Rg1.out underlying100 rfl (by kernel_rfl) ?_)
      | (refine wpList_load_mid rfl 100 (.tmp 66) rfl gb (ix*3) rfl [.int .i64 W,.int .i64 H,.slice ad4 no c4] _ (fun j u hj=>aw ((ZT _ wr).alloc (ZW _) _) (Rg2.out j u hj)) underlying100 rfl (by kernel_rfl) ?_))
     generalize (wr.alloc (.cells #[W,H,.slice ad3 no c3] 100)).alloc (.cells #[W,H,.slice ad4 no c4] 100)=w3 at GA KP KQ ⊢;obtain ⟨pb,hpb⟩:∃ k,wr.heap.size=k:=⟨_,rfl⟩;obtain ⟨qb,hqb⟩:∃ k,wr.heap.size+1=k:=⟨_,rfl⟩;rw [hqb] at KQ ⊢;rw [hpb] at KP ⊢;have P2:Hid (w3.cell? (zq pb 2)=some (.slice ad3 no c3)):=by show _=_;rw [Zw w3 pb 2 _ _ (0,0) KP.out];rfl
     have Q2:Hid (w3.cell? (zq qb 2)=some (.slice ad4 no c4)):=by show _=_;rw [Zw w3 qb 2 _ _ (0,0) KQ.out];rfl
     have HB5:=ai (af.trans HB3.out GA.out);have HB6:=ai (Below.trans HB9.out (YY GA.out HB9.out.size));clear KP KQ GA HB3 HB9 Rg1 Rg2 a1 b1 b1' hpb hqb;go_loopg [9] (no+1) (fun gg y wx=>∃ k:Nat,k<=no/\no - k < gg/\y=.int .i64 (k:Int)/\Hid (af w3 wx))
     case atStart=>exact ⟨0,by omega,by omega,rfl,af.refl _⟩
     case round=>
      obtain ⟨k,hk,hgk2,rfl,HB7⟩:=hrel;have p2:=aw HB7.out P2.out;have q2:=aw HB7.out Q2.out;by_cases hkl:k < no
      ·have d3:decide ((k:Int) < (no:Int))=true:=by simp;omega
       obtain ⟨g1,g2,rfl,rfl,hg1l,hg2l,hR⟩:=HOP.out (by omega);obtain ⟨K,A,X,C,D,E,Co,Ro,tt,R1,R2⟩:=hR k hkl;have hb3:Below w w wr:=HB6.out.trans (YY HB7.out HB6.out.size);have Rg1:Hid (_:Prop):=fun j u hj=>(ZQ (a:=zq g1 (k*9+j)) (hb3.block g1 hg1l)).trans (R1 j u hj)
       have Rg2:Hid (_:Prop):=fun j u hj=>(ZQ (a:=zq g2 (k*9+j)) (hb3.block g2 hg2l)).trans (R2 j u hj)
       have hg19:=ZK hg1l hb3.size;have hg29:=ZK hg2l hb3.size;clear R1 R2 hR hb3;go_wp2_with fail
       refine ap 10 _ (ag [zq pb 2,.slice g1 no c3,(k:Int),zq g1 (k*9),.agg #[K,A,X,C,D,E,Co,Ro,tt],zq qb 2,.slice g2 no c4,(k:Int),zq g2 (k*9),.agg #[K,A,X,C,D,E,Co,Ro,tt]]) (by kernel_rfl) rfl (by kernel_rfl) aq ?_;simp only [TD];refine ⟨fun w1 hG hd=>?_,fun v0=>?_⟩
       ·clear hd;go_wp2;exact RG
       simp only [TN];refine ⟨fun w1 hG hd=>?_,fun v1=>?_⟩
       ·have d0:v0=.pointer (some ⟨pb,2,none⟩):=hd ⟨0,.data⟩ (by simp) rfl;clear hd;subst d0;have c:=aw hG p2;go_wp2;exact RG
       simp only [TN];refine ⟨fun w1 hG hd=>?_,fun v2=>?_⟩
       ·clear hd;go_wp2;exact RG
       simp only [TN];refine ⟨fun w1 hG hd=>?_,fun v3=>?_⟩
       ·have d1:v1=.slice g1 no c3:=hd ⟨1,.data⟩ (by simp) rfl;have d2:v2=.int .i64 (k:Int):=hd ⟨2,.data⟩ (by simp) rfl;clear hd;subst d1 d2;go_wp2;exact RG
       simp only [TN];refine ⟨fun w1 hG hd=>?_,fun v4=>?_⟩
       ·have d3:v3=.pointer (some ⟨g1,k*9,none⟩):=hd ⟨3,.data⟩ (by simp) rfl;clear hd;subst d3;refine wpList_load_mid rfl 31 (.tmp 99) rfl g1 (k*9) rfl [.int .i64 K,.int .i64 A,.int .i64 X,.int .i64 C,.int .i64 D,.int .i64 E,.int .i64 Co,.int .i64 Ro,.string tt] _ (fun j u hj=>(ZQ (a:=zq g1 (k*9+j)) (hG.block g1 hg19)).trans (Rg1.out j u hj)) underlying31 rfl (by kernel_rfl) ?_;refine YN ?_;exact ⟨rfl,rfl,rfl,af.refl _⟩
       simp only [TN];refine ⟨fun w1 hG hd=>?_,fun v5=>?_⟩
       ·clear hd;go_wp2;exact RG
       simp only [TN];refine ⟨fun w1 hG hd=>?_,fun v6=>?_⟩
       ·have d5:v5=.pointer (some ⟨qb,2,none⟩):=hd ⟨5,.data⟩ (by simp) rfl;clear hd;subst d5;have c:=aw hG q2;go_wp2;exact RG
       simp only [TN];refine ⟨fun w1 hG hd=>?_,fun v7=>?_⟩
       ·clear hd;go_wp2;exact RG
       simp only [TN];refine ⟨fun w1 hG hd=>?_,fun v8=>?_⟩
       ·have d6:v6=.slice g2 no c4:=hd ⟨6,.data⟩ (by simp) rfl;have d7:v7=.int .i64 (k:Int):=hd ⟨7,.data⟩ (by simp) rfl;clear hd;subst d6 d7;go_wp2;exact RG
       simp only [TN];refine ⟨fun w1 hG hd=>?_,fun v9=>?_⟩
       ·have d8:v8=.pointer (some ⟨g2,k*9,none⟩):=hd ⟨8,.data⟩ (by simp) rfl;clear hd;subst d8;refine wpList_load_mid rfl 31 (.tmp 104) rfl g2 (k*9) rfl [.int .i64 K,.int .i64 A,.int .i64 X,.int .i64 C,.int .i64 D,.int .i64 E,.int .i64 Co,.int .i64 Ro,.string tt] _ (fun j u hj=>(ZQ (a:=zq g2 (k*9+j)) (hG.block g2 hg29)).trans (Rg2.out j u hj)) underlying31 rfl (by kernel_rfl) ?_;refine YN ?_;exact ⟨rfl,rfl,rfl,af.refl _⟩
       simp only [TN];intro w2 hG hd;have d4:v4=.agg #[K,A,X,C,D,E,Co,Ro,tt]:=hd 4 (by omega);have d9:v9=.agg #[K,A,X,C,D,E,Co,Ro,tt]:=hd 9 (by omega);subst d4 d9;have hb8:=ai (af.trans HB7.out hG);clear hd hG Rg1 Rg2 p2 q2 HB7;go_wp2_with fail
       go_roundg (gk - 1)
       case measure=>omega
       case rel=>exact ⟨k+1,by omega,by omega,by congr 1,hb8⟩
      ·obtain rfl:k=no:=by omega
       have d3:decide ((k:Int) < (k:Int))=false:=by simp
       have HB8:=ai (af.trans HB5.out HB7.out);clear HB7 HB5 HB6;go_wp2_with fail
       go_roundg (GK - 1)
       case measure=>omega
       case rel=>exact ⟨ix+1,by omega,by omega,by congr 1,HB8⟩
    ·obtain rfl:ix=n:=by omega
     have d2:decide ((ix:Int) < (ix:Int))=false:=by simp
     have HBF:=ai (HB1.out.trans (YY HB3.out HB1.out.size));clear HB3 F;go_wp2;go_ret;exact ⟨rfl,HBF.out⟩
theorem D4 (t:ByteArray):(t.extract 1 t.size).data.toList=t.data.toList.drop 1:=by
 rw [Zg,YV];have e:t.data.toList.length=t.size:=aP t;simp only [List.extract, <-e];rw [Zy (by simp)]
theorem qi (w:World) (s:ByteArray) (b:Nat) (p:UInt8->Bool) (hs:s.size<=2000000000) (HC:Hid (∀ x:UInt8,w.cell? (zq b x.toNat)=some (.bool (p x)))):
  QE 319 #[s,zp b] w (.string ⟨(s.data.toList.dropWhile p).toArray⟩):=by
 obtain ⟨R,hR⟩:∃ R,s.data.toList.dropWhile p=R:=⟨_,rfl⟩;rw [hR];have HR:=ai hR;clear hR;go_enter func319,ntmps319
 go_wp2;go_loopg [0] (s.size+1) (fun g x wr=>∃ t:ByteArray,x=.string t/\t.size < g/\t.size<=s.size/\Hid (t.data.toList.dropWhile p=R)/\wr=w)
 case atStart=>exact ⟨s,rfl,by omega,by omega,HR.out,rfl⟩
 case round=>
  obtain ⟨t,rfl,hg,hts,HT,rfl⟩:=hrel;by_cases h0:0 < t.size
  ·have d1:decide ((0:Int) < (t.size:Int))=true:=by simp;omega
   obtain ⟨c,hc⟩:∃ c,t[0]=c:=⟨_,rfl⟩;have hl:t.data.toList=c::t.data.toList.drop 1:=by
    have hlen:0 < t.data.toList.length:=by rw [aP];exact h0
    have e:t.data.toList[0]=c:=by rw [<-hc];rfl
    rw [<-e];exact (Zn hlen)
   have CC:=Tryz.asciiSet_contains b c (p c) wr (HC.out c);by_cases hp:p c=true
   ·have HT':Hid ((t.extract 1 t.size).data.toList.dropWhile p=R):=by
     show _=_
     rw [D4, <-HT.out,hl,List.dropWhile_cons_of_pos hp,List.drop_succ_cons,List.drop_zero]
    have HZ:Hid ((t.extract 1 t.size).size=t.size - 1):=by show _=_;simp
    rw [hp] at CC;clear hl;go_wp2_with fail
    refine CC.mono ?_;rintro e w1 ⟨rfl,rfl⟩;clear CC;go_wp2;go_roundg (gk - 1)
    case measure=>omega
    case rel=>exact ⟨_,rfl,by rw [HZ.out];omega,by rw [HZ.out];omega,HT',rfl⟩
   ·have hp':p c=false:=by simpa using hp
    have HT':Hid (t.data.toList=R):=by
     show _=_
     rw [<-HT.out,hl,List.dropWhile_cons_of_neg hp]
    rw [hp'] at CC;clear hl;go_wp2_with fail
    refine CC.mono ?_;rintro e w1 ⟨rfl,rfl⟩;clear CC;go_wp2;go_ret;exact ⟨by rw [<-HT'.out];rfl,rfl⟩
  ·have d1:decide ((0:Int) < (t.size:Int))=false:=Zo (by omega);have HT':Hid (t.data.toList=R):=by
    show _=_
    have e:t.data.toList=[]:=Zp (by rw [aP];exact Nat.eq_zero_of_not_pos h0);rw [<-HT.out,e];rfl
   go_wp2;go_ret;exact ⟨by rw [<-HT'.out];rfl,rfl⟩
def cj (c:UInt8):Bool:=[32,10].contains c
theorem Tryz.zero306 (w:World):(zeroValue 306).run prog w=.ok (.agg (Array.replicate 256 (.bool false))) w:=by kernel_rfl
theorem wS (w:World) (s:ByteArray) (hs:s.size<=2000000000):
  QB 293 #[s,.string ⟨#[32,10]⟩] w (.string ⟨(s.data.toList.dropWhile cj).toArray⟩):=by
 have hcs:=Lib.setCells_at [32,10];by_cases he:s.toList.isEmpty=true
 ·have he':s.data.toList=[]:=by rw [<-Zm];simpa using he
  have HE:Hid (s=⟨(s.data.toList.dropWhile cj).toArray⟩):=by show s=_;rw [he'];exact Zd (Array.toList_inj.1 (by rw [he'];rfl))
  go_enter func293,ntmps293
  go_wp2;go_ret;exact ⟨by rw [<-HE.out];rfl,ZT _ _⟩
 ·have he':s.toList.isEmpty=false:=by simpa using he
  have CM:=Tryz.strings_makeASCIISet Tryz.zero306 ⟨#[32,10]⟩ w (by decide) (by intro j b hb;have:=YG hb;simp at this;rcases this with rfl | rfl <;> decide);have HK:=ai CM;clear CM he;go_enter func293,ntmps293
  go_wp2_with fail
  refine HK.out.mono ?_;rintro e w1 ⟨rfl,rfl⟩;clear HK;have HB:Hid (((w.alloc (Obj.cells (Lib.setCells [32,10]) 306)).alloc (Obj.cells Tryz.zeroCells306 306)).heap[w.heap.size+1]? =some (Obj.cells Tryz.zeroCells306 306)):=Yz _ _ _;have HA:Hid ((Lib.setCells [32,10]).size=256/\(Tryz.prog.info? 306).map (·.size)=some 256/\Tryz.zeroCells306.size=256/\(Lib.setCells [32,10]).all (·.oneCell')=true):=⟨by kernel_rfl,by kernel_rfl,by kernel_rfl,by kernel_rfl⟩;go_wp2_with (refine Zj rfl 306 (.tmp 5) _ rfl (w.heap.size+1) _ rfl rfl _ _ HB.out (by rw [HA.out.1];exact HA.out.2.1) (by rw [HA.out.1];exact HA.out.2.2.1) HA.out.2.2.2 ?_)
  obtain ⟨w2,hw2⟩:∃ w2,(((w.alloc (Obj.cells (Lib.setCells [32,10]) 306)).alloc (Obj.cells Tryz.zeroCells306 306)).setRow (w.heap.size+1) (Lib.setCells [32,10]))=w2:=⟨_,rfl⟩;have hrow:w2.heap[w.heap.size+1]? =some (.cells (Lib.setCells [32,10]) 306 (0,0)):=by rw [<-hw2];exact YK _ _ _ _ _ _ HB.out
  have hbel:Below w w w2:=by
   rw [<-hw2];have h2:Below w w ((w.alloc (Obj.cells (Lib.setCells [32,10]) 306)).alloc (Obj.cells Tryz.zeroCells306 306)):=((ZT _ w).alloc (ZW _) _).alloc (by simp) _;refine ⟨h2.os,h2.tape,h2.output,?_,fun k hk=>?_⟩
   ·exact ZU h2.size (Nat.le_of_eq (by simp [World.setRow]))
   ·exact (setRow_other _ _ _ _ (by omega)).trans (h2.block k hk)
  rw [hw2];clear hw2 HA HB;refine (qi w2 s (w.heap.size+1) cj hs (ai fun x=>(Zw _ _ _ _ _ _ hrow).trans (Lib.setCells_at [32,10] x))).mono ?_;rintro e w3 ⟨rfl,rfl⟩;go_wp2;go_ret;exact ⟨rfl,hbel⟩
def xG (l:List UInt8):Nat:=(l.takeWhile cj).length
theorem t7 (w:World) (s:ByteArray) (hs:s.size<=2000000000):
  QB 257 #[s] w (xG s.data.toList:Nat):=by
 have HT:=ai (wS w s hs);have hl:s.size=xG s.data.toList+(s.data.toList.dropWhile cj).length:=by
  have:=congrArg List.length (List.takeWhile_append_dropWhile (p:=cj) (l:=s.data.toList));rw [ZY,aP] at this;exact this.symm
 obtain ⟨g,hg⟩:∃ g,xG s.data.toList=g:=⟨_,rfl⟩;obtain ⟨r,hr⟩:∃ r,s.data.toList.dropWhile cj=r:=⟨_,rfl⟩;rw [hg,hr] at hl;rw [hr] at HT;rw [hg];clear hg hr;have hrs:ByteArray.size ⟨r.toArray⟩=r.length:=by simp [ByteArray.size]
 go_enter func257,ntmps257
 go_wp2_with fail
 refine HT.out.mono ?_;rintro e w1 ⟨rfl,hb⟩;go_wp2;go_ret;exact ⟨rfl,hb⟩
def o_ (B m:Nat) (r:List UInt8):As:=aS B m [.string ⟨r.toArray⟩]
theorem o_.thing (B m:Nat) (r:List UInt8):aJ B (o_ B m r):=aS.thing _ _ _
theorem wv (w:World) (s:ByteArray) (B:Nat) (hB:B<=w.heap.size):
  CP 144 #[s] w fun e w'=>e=.returned (zp w.heap.size)/\o_ B w.heap.size s.data.toList w' (cC w.heap.size)/\Below w w w':=by
 go_enter func144,ntmps144
 go_wp2;go_ret;refine ⟨rfl,?_,(ZT _ w).alloc (ZW _) _⟩;exact aS.alloc (vs:=[.string s]) hB
theorem tp (w:World) (B m:Nat) (r:List UInt8) (S:Bl) (h:o_ B m r w S):
  QE 146 #[zp m] w (.string ⟨r.toArray⟩):=by
 have c0:=h.at 0 _ rfl;go_enter func146,ntmps146
 go_wp2;go_ret;exact ⟨rfl,rfl⟩
theorem Cf (a b:List UInt8):Lib.hasPrefix (a++b) a=true:=by
 unfold Lib.hasPrefix;rw [List.isPrefixOf_iff_prefix];exact YP a b
theorem zh (a b:List UInt8):Lib.trimPrefix (a++b) a=b:=by
 unfold Lib.trimPrefix;rw [ZN (Cf a b),List.drop_left]
theorem sV (w:World) (B m:Nat) (s:ByteArray) (r:List UInt8) (S:Bl) (h:o_ B m (s.data.toList++r) w S):
  CP 355 #[zp m,s] w fun e w'=>e=.returned .nilIface/\o_ B m r w' S/\Mv S w S w':=by
 have c0:=h.at 0 _ rfl;have f0:=h.fz 0;have CP:=ai (Tryz.strings_CutPrefix ⟨(s.data.toList++r).toArray⟩ s w);simp only [Cf,zh] at CP;obtain ⟨k,mv⟩:=h.set 0 (.string ⟨r.toArray⟩) (by simp);go_enter func355,ntmps355
 go_wp2_with fail
 refine CP.out.mono ?_;rintro e w1 ⟨rfl,rfl⟩;clear CP;go_wp2;go_ret;exact ⟨rfl,k,mv⟩
theorem vS (w:World) (s:ByteArray) (c:UInt8) (h0:0 < s.size) (hs:s.size<=10000) (hc:s[0]=c) (h92:c.toNat≠92):
  QE 261 #[s] w (.tuple #[.int .u8 c.toNat,(1:Int)]):=by
 have d:((c.toNat:Int)==92)=false:=by simp;omega
 go_enter func261,ntmps261
 go_wp2;go_ret2;exact ⟨rfl,rfl⟩
theorem vT (w:World) (s:ByteArray) (c:UInt8) (h1:1 < s.size) (hs:s.size<=10000) (h0:s[0]=92) (hc:s[1]=c) (h:c.toNat < 48\/55 < c.toNat):
  QE 261 #[s] w (.tuple #[.int .u8 c.toNat,(2:Int)]):=by
 have d1:((s.size:Int)==1)=false:=by simp;omega
 rcases h with h | h
 ·have d2:decide ((c.toNat:Int) < 48)=true:=by simp;omega
  go_enter func261,ntmps261
  go_wp2;go_ret2;exact ⟨rfl,rfl⟩
 ·have d2:decide ((c.toNat:Int) < 48)=false:=by simp;omega
  have d3:decide (55 < (c.toNat:Int))=true:=by simp;omega
  go_enter func261,ntmps261
  go_wp2;go_ret2;exact ⟨rfl,rfl⟩
theorem tV (w:World) (s:ByteArray) (x y z:UInt8) (h4:3 < s.size) (hs:s.size<=10000) (h0:s[0]=92) (h1:s[1]=x) (h2:s[2]=y) (h3:s[3]=z) (hx:48<=x.toNat/\x.toNat<=51) (hy:48<=y.toNat/\y.toNat<=55) (hz:48<=z.toNat/\z.toNat<=55):
  QD 261 #[s] w (.tuple #[.int .u8 (bits BinOp.or IntKind.u8 (bits BinOp.or IntKind.u8 (((x.toNat:Int) - 48)*64) (((y.toNat:Int) - 48)*8)) ((z.toNat:Int) - 48)),(4:Int)]):=by
 have d1:((s.size:Int)==1)=false:=by simp;omega
 have d2:decide ((x.toNat:Int) < 48)=false:=by simp;omega
 have d3:decide (55 < (x.toNat:Int))=false:=by simp;omega
 have d4:decide ((s.size:Int) < 4)=false:=by simp;omega
 go_enter func261,ntmps261
 go_wp2;go_quiet (fail)
 go_wp2;go_ret2;exact ⟨rfl,_,rfl⟩
theorem FD:∀ c:Fin 256,bits BinOp.or IntKind.u8 (bits BinOp.or IntKind.u8 ((((48+c.val / 64:Nat):Int) - 48)*64) ((((48+c.val / 8 % 8:Nat):Int) - 48)*8)) (((48+c.val % 8:Nat):Int) - 48)=(c.val:Int):=by decide+kernel
theorem vQ (w:World) (s:ByteArray) (c:UInt8) (r:List UInt8) (hr:r.length<=1000) (hs:s.data.toList=eS c++r):
  QD 261 #[s] w (.tuple #[.int .u8 c.toNat,((eS c).length:Nat)]):=by
 have hlen:s.size=(eS c++r).length:=by rw [<-hs,aP]
 have hget:∀ (i:Nat) (h:i < s.size) (x:UInt8),(eS c++r)[i]? =some x->s[i]=x:=by
  intro i h x hx;rw [<-hs] at hx;obtain ⟨h',e⟩:=Zx.1 hx;exact e
 by_cases h1:c.toNat < 32\/126 < c.toNat
 ·have e:eS c=[92,UInt8.ofNat (48+c.toNat / 64),UInt8.ofNat (48+c.toNat / 8 % 8),UInt8.ofNat (48+c.toNat % 8)]:=by unfold eS;rw [ZN h1]
  rw [e] at hlen hget ⊢;have hc:=c.toNat_lt;simp only [ZY,ZX,ZR] at hlen;have n1:(UInt8.ofNat (48+c.toNat / 64)).toNat=48+c.toNat / 64:=by rw [YW];omega
  have n2:(UInt8.ofNat (48+c.toNat / 8 % 8)).toNat=48+c.toNat / 8 % 8:=by rw [YW];omega
  have n3:(UInt8.ofNat (48+c.toNat % 8)).toNat=48+c.toNat % 8:=by rw [YW];omega
  refine (tV w s _ _ _ (by omega) (by omega) (hget 0 (by omega) _ rfl) (hget 1 (by omega) _ rfl) (hget 2 (by omega) _ rfl) (hget 3 (by omega) _ rfl) (by omega) (by omega) (by omega)).mono ?_;rintro e w' ⟨rfl,q⟩;refine ⟨?_,q⟩;have:=FD ⟨c.toNat,hc⟩;rw [n1,n2,n3,this];rfl
 ·by_cases h2:c.toNat=40\/c.toNat=41\/c.toNat=92
  ·have e:eS c=[92,c]:=by unfold eS;rw [ZO h1,ZN h2]
   rw [e] at hlen hget ⊢;simp only [ZY,ZX,ZR] at hlen;refine (vT w s c (by omega) (by omega) (hget 0 (by omega) _ rfl) (hget 1 (by omega) _ rfl) (by omega)).mono ?_;rintro e w' ⟨rfl,rfl⟩;exact ⟨rfl,0,rfl⟩
  ·have e:eS c=[c]:=by unfold eS;rw [ZO h1,ZO h2]
   rw [e] at hlen hget ⊢;simp only [ZY,ZX,ZR] at hlen;refine (vS w s c (by omega) (by omega) (hget 0 (by omega) _ rfl) (fun h=>h2 (.inr (.inr h)))).mono ?_;rintro e w' ⟨rfl,rfl⟩;exact ⟨rfl,0,rfl⟩
theorem jY (w:World) (s:ByteArray) (l:List UInt8) (hl:l.length<=100) (hs:s.data.toList=bc l) (hw:0 < w.heap.size):
  QB 225 #[s] w (.tuple #[.string ⟨l.toArray⟩,true]):=by
 have hlen:s.size=(bH l).length+2:=by rw [<-aP,hs];simp [bc]
 have hel:=ii l;have CP:=ai (Tryz.strings_CutPrefix s ⟨#[40]⟩ w);rw [hs] at CP;have e1:Lib.trimPrefix (bc l) [40]=bH l++[41]:=by unfold bc;rw [ZS];exact zh [40] _
 have CS:=ai (Tryz.strings_CutSuffix ⟨(bH l++[41]).toArray⟩ ⟨#[41]⟩ w (by rw [ae];simp;omega));have e2:Lib.trimSuffix (bH l++[41]) [41]=bH l:=by
  unfold Lib.trimSuffix Lib.hasSuffix;rw [ZN (by rw [List.isSuffixOf_iff_suffix];exact List.suffix_append _ _)];simp
 simp only [e1] at CP;simp only [e2] at CS;clear e1 e2;obtain ⟨b1,hb1⟩:∃ b1,Lib.hasPrefix (bc l) [40]=b1:=⟨_,rfl⟩;obtain ⟨b2,hb2⟩:∃ b2,Lib.hasSuffix (bH l++[41]) [41]=b2:=⟨_,rfl⟩;simp only [hb1] at CP;simp only [hb2] at CS;have HS:=ai hs;clear hb1 hb2 hs;go_enter func225,ntmps225
 go_wp2_with fail
 refine CP.out.mono ?_;rintro e w1 ⟨rfl,rfl⟩;clear CP;go_wp2_with fail
 refine CS.out.mono ?_;rintro e w2 ⟨rfl,rfl⟩;clear CS;obtain ⟨b,hb⟩:∃ b,w2.heap.size=b+1:=⟨w2.heap.size - 1,by omega⟩;have HB:=ai hb;clear hb;go_wp2;go_loopg [4,6] (l.length+1) (fun g x y wr=>∃ (k:Nat) (t:ByteArray),k<=l.length/\l.length - k < g/\x=.string t/\Hid (t.data.toList=bH (l.drop k))/\gZ wr b y (l.take k)/\Below (b+1) w2 wr)
 case atStart=>exact ⟨0,_,by omega,by omega,rfl,rfl,gZ.nil _ _ (by have:=HB.out;omega),by rw [<-HB.out];exact ZT _ _⟩
 case round=>
  obtain ⟨k,t,hk,hg,rfl,HT,ho,hbe⟩:=hrel;by_cases hlt:k < l.length
  ·obtain ⟨c,hc⟩:∃ c,l[k]=c:=⟨_,rfl⟩;have ht:t.data.toList=eS c++bH (l.drop (k+1)):=by rw [HT.out,Zn hlt,hc];rfl
   have he2:=ii (l.drop (k+1));have hE:0 < (eS c).length:=by unfold eS;split <;> (try split) <;> simp
   have ne:t.toList.isEmpty=false:=by
    rw [Zm,ht]
    cases hh:eS c with
    | nil=>rw [hh] at hE;simp at hE
    | cons x y=>rfl
   have CB:=ai fun wx=>vQ wx t c (bH (l.drop (k+1))) (by rw [Za] at he2;omega) ht
   have hts:t.size=(eS c).length+(bH (l.drop (k+1))).length:=by rw [<-aP,ht,ZY]
   have HT':Hid ((t.extract (eS c).length t.size).data.toList=bH (l.drop (k+1))):=by
    show _=_
    rw [Zg,YV];simp only [List.extract];rw [ht,List.drop_left,Zy (by omega)]
   have HK:Hid (l.take (k+1)=l.take k++[c]):=by show _=_;rw [Zv hlt,hc]
   obtain ⟨z,hz⟩:∃ z,(eS c).length=z:=⟨_,rfl⟩;have hzt:(eS c).length<=t.size:=by omega
   rw [hz] at CB HT' hE hzt;clear ht hz hc he2 hts;go_wp2_with fail
   refine (CB.out _).mono ?_;rintro e w3 ⟨rfl,q,rfl⟩;clear CB;have ho1:=ho.drewN q;have HCell:Hid (((wr.drewN q).alloc (.cells #[.int .u8 c.toNat] 5)).cell? (zp ((wr.drewN q).heap.size))=some (.int .u8 (c.toNat:Nat))):=(aS.alloc (B:=0) (vs:=[.int .u8 c.toNat]) (w:=wr.drewN q) (t:=5) (YO _)).at 0 _ rfl;go_wp2_with (at_builtin;refine kX rfl (.tmp 26) (.tmp 28) 66 rfl underlying66 b _ (l.take k) rfl (ho1.alloc _) ⟨(wr.drewN q).heap.size,0,none⟩ 1 rfl c HCell.out rfl (by simp;omega) ?_)
   intro v' w5 hO2 hb2;clear HCell;go_wp2;go_roundg (gk - 1)
   case measure=>omega
   case rel=>
    refine ⟨k+1,_,by omega,by omega,rfl,HT',by rw [HK.out];exact hO2,?_⟩;exact (hbe.trans (below_drewN ((ZT _ (wr.drewN q)).alloc (by have:=hbe.size;have:=HB.out;show _<=wr.heap.size;omega) _))).trans hb2
  ·have hkl:k=l.length:=by omega
   have h0:t.data.toList=[]:=by rw [HT.out,hkl,List.drop_length];rfl
   have ne:t.toList.isEmpty=true:=by rw [Zm,h0];rfl
   have hO:=ho;rw [hkl,Ya] at hO;clear ho h0;obtain ⟨ad,cap,hv,hn⟩:=hO.form;have hcv:∀ W,Below wr wr W->(convert 66 9 (.slice ad l.length cap)).run prog W=.ok (.string ⟨l.toArray⟩) W:=by
    intro W hW;have hOW:gZ W b (.slice ad l.length cap) l:=by
     rw [<-hv];exact ⟨lH hO.own (fun g e=>hW.block g (hO.own.lt g e).2),ZK hO.base hW.size⟩
    by_cases hz:l.length=0
    ·obtain rfl:l=[]:=Zp hz
     cases ad with
     | none=>exact (show (convert 66 9 (.slice none 0 cap)).run prog W=.ok (.string ⟨([]:List UInt8).toArray⟩) W by kernel_rfl)
     | some a=>exact Yx _ 66 9 5 a cap [] underlying66 underlying5 underlying9 (fun j hj=>absurd hj (by simp))
    ·obtain ⟨g,cap',hv',_⟩:=hOW.at 0 (by omega)
     cases hv'
     refine Yx _ 66 9 5 ⟨g,0,none⟩ cap l underlying66 underlying5 underlying9 ?_;intro j hj;obtain ⟨g2,cap2,hv2,hc2,_⟩:=hOW.at j hj
     cases hv2
     have hadd:(⟨g,0,none⟩:Addr).add j=⟨g,j,none⟩:=by unfold Addr.add;split <;> simp_all
     rw [hadd,hc2];simp [ZJ,ZM hj]
   have hconv:=hcv wr (ZT _ _);have HCV:=ai hcv;clear hcv;subst hv;have CS:=ai (jK wr ⟨l.toArray⟩ (by rw [ae];omega));have he:(⟨(bc (⟨l.toArray⟩:ByteArray).data.toList).toArray⟩:ByteArray)=s:=by
    refine Zd (Array.toList_inj.1 ?_);rw [HS.out]
   rw [he] at CS;clear he;go_wp2_with fail
   refine CS.out.mono ?_;rintro e w6 ⟨rfl,hb6⟩;clear CS hconv;have hconv:=HCV.out w6 hb6;go_wp2;go_ret2;refine ⟨rfl,?_⟩;rw [HB.out];exact hbe.trans (hb6.mono (ZU (Nat.le_of_eq HB.out.symm) hbe.size))
def fH (B:Nat) (w:World):Prop:=1 < B/\∃ m,w.cell? (zp 1)=some (.int .i64 m)
theorem fH.on {B:Nat} {w w':World} (h:fH B w) (hb:Below B w w'):fH B w':=by
 obtain ⟨hB,m,hm⟩:=h;exact ⟨hB,m,(ZQ (a:=zp 1) (hb.block 1 hB)).trans hm⟩
theorem l_:∀ (l:List UInt8) (acc:Nat),(∀ c∈l,48<=c.toNat/\c.toNat<=57)->Lib.decFrom acc l=some (l.foldl (fun n c=>10*n+(c.toNat - 48)) acc)
 | [],_,_=>rfl
 | c::r,acc,h=>by
  have hc:=h c (ZB _);show (match Lib.digitVal c with | some d=>Lib.decFrom (acc*10+d) r | none=>none)=_
  have e:Lib.digitVal c=some (c.toNat - 48):=by unfold Lib.digitVal;rw [ZN hc]
  rw [e];show Lib.decFrom (acc*10+(c.toNat - 48)) r=_
  rw [l_ r _ (fun x hx=>h x (List.mem_cons_of_mem _ hx)),List.foldl_cons,Ye]
def s5 (m:Nat):List UInt8:=[UInt8.ofNat (48+m / 100),UInt8.ofNat (48+m / 10 % 10),UInt8.ofNat (48+m % 10)]
theorem Da:∀ m:Fin 1000,((cq m.val).drop 1++[48,48,48]).take 3=s5 m.val:=by decide+kernel
theorem Ez (q m:Nat) (hm:m < 1000):(s5 m).foldl (fun n c=>10*n+(c.toNat - 48)) q=1000*q+m:=by
 unfold s5;simp only [List.foldl_cons,List.foldl_nil];have n1:(UInt8.ofNat (48+m / 100)).toNat=48+m / 100:=by rw [YW];omega
 have n2:(UInt8.ofNat (48+m / 10 % 10)).toNat=48+m / 10 % 10:=by rw [YW];omega
 have n3:(UInt8.ofNat (48+m % 10)).toNat=48+m % 10:=by rw [YW];omega
 rw [n1,n2,n3];omega
theorem Ey (m:Nat) (hm:m < 1000):∀ c∈s5 m,48<=c.toNat/\c.toNat<=57:=by
 have n1:(UInt8.ofNat (48+m / 100)).toNat=48+m / 100:=by rw [YW];omega
 have n2:(UInt8.ofNat (48+m / 10 % 10)).toNat=48+m / 10 % 10:=by rw [YW];omega
 have n3:(UInt8.ofNat (48+m % 10)).toNat=48+m % 10:=by rw [YW];omega
 intro c hc;unfold s5 at hc;simp only [Zk,YQ,or_false] at hc;rcases hc with rfl | rfl | rfl
 ·omega
 ·omega
 ·omega
theorem zT (q m:Nat) (hm:m < 1000):Lib.decNat (Lib.decDigits q++s5 m)=some (1000*q+m):=by
 unfold Lib.decNat;rw [ZO (by simp [s5])];rw [l_ _ _ (fun c hc=>(Zu.1 hc).elim (fun h=>mV q c h) (fun h=>Ey m hm c h)),List.foldl_append];have e:(Lib.decDigits q).foldl (fun n c=>10*n+(c.toNat - 48)) 0=q:=mF q;rw [e,Ez q m hm]
theorem fy (q:Nat):Lib.itoa (q:Int)=Lib.decDigits q:=by unfold Lib.itoa;rw [ZO (by omega)];rfl
theorem DN (n:Int):Lib.atoi ((if n < 0 then [45] else [])++Lib.itoa (n.natAbs / 1000:Nat)++s5 (n.natAbs % 1000))=some n:=by
 have hm:n.natAbs % 1000 < 1000:=Yy _ (by decide);have hd:=zT (n.natAbs / 1000) (n.natAbs % 1000) hm;rw [fy];by_cases hn:n < 0
 ·rw [ZN hn,ZS];show (Lib.decNat (Lib.decDigits (n.natAbs / 1000)++s5 (n.natAbs % 1000))).map (fun (m:Nat)=>-(m:Int))=_
  rw [hd];show some (-((1000*(n.natAbs / 1000)+n.natAbs % 1000:Nat):Int))=some n
  congr 1;omega
 ·rw [ZO hn,Zq];have hpos:0 < (Lib.decDigits (n.natAbs / 1000)).length:=by rw [Lib.decDigits_length];exact Lib.nDigits_pos _
  cases hh:Lib.decDigits (n.natAbs / 1000) with
  | nil=>rw [hh] at hpos;simp at hpos
  | cons c r=>
   have hc:=mV (n.natAbs / 1000) c (by rw [hh];exact ZB _);rw [hh] at hd;show (if c==45 then _ else if c==43 then _ else (Lib.decNat (c::r++s5 (n.natAbs % 1000))).map (fun (m:Nat)=>(m:Int)))=_
   rw [ZO (by intro e;have:=congrArg UInt8.toNat (beq_iff_eq.1 e);simp at this;omega),ZO (by intro e;have:=congrArg UInt8.toNat (beq_iff_eq.1 e);simp at this;omega),hd];show some ((1000*(n.natAbs / 1000)+n.natAbs % 1000:Nat):Int)=some n
   congr 1;omega
theorem sL (c:UInt8):∀ a:List UInt8,c ∉ a->Lib.index a [c]=-1
 | [],_=>rfl
 | b::l,h=>by
  have hb:c≠b:=fun e=>h (by rw [e];exact ZB _)
  have ih:=sL c l (fun e=>h (List.mem_cons_of_mem _ e));unfold Lib.index;rw [ZO (by simp [List.isPrefixOf,hb]),ZN (by rw [ih];rfl)]
theorem xO (c:UInt8) (b:List UInt8):∀ a:List UInt8,c ∉ a->Lib.index (a++c::b) [c]=(a.length:Int)
 | [],_=>by simp [Lib.index,List.isPrefixOf]
 | x::l,h=>by
  have hb:c≠x:=fun e=>h (by rw [e];exact ZB _)
  have ih:=xO c b l (fun e=>h (List.mem_cons_of_mem _ e));rw [ZE];unfold Lib.index;rw [ZO (by simp [List.isPrefixOf,hb]),ZO (by rw [ih];simp),ih];simp
theorem DV (c:UInt8) (a:List UInt8) (h:c ∉ a):Lib.cut a [c]=(a,[],false):=by
 unfold Lib.cut;rw [sL c a h,ZO (by decide)]
theorem vU (c:UInt8) (a b:List UInt8) (h:c ∉ a):Lib.cut (a++c::b) [c]=(a,b,true):=by
 unfold Lib.cut;rw [xO c b a h,ZN (by omega)];simp
theorem E_ (n:Int):∃ t,Lib.cut (bJ n) [46]=((if n < 0 then [45] else [])++Lib.itoa (n.natAbs / 1000:Nat),(cq (n.natAbs % 1000)).drop 1,t):=by
 have hno:(46:UInt8) ∉ (if n < 0 then [45] else [])++Lib.itoa (n.natAbs / 1000:Nat):=by
  intro h;rcases Zu.1 h with h | h
  ·split at h <;> simp at h
  ·rw [fy] at h;have:=mV _ _ h;simp at this
 unfold bJ;by_cases h0:n.natAbs % 1000=0
 ·rw [h0];show ∃ t,Lib.cut ((if n < 0 then [45] else [])++Lib.itoa (n.natAbs / 1000:Nat)++[]) [46]=_
  rw [YZ,DV _ _ hno];exact ⟨_,rfl⟩
 ·have e:cq (n.natAbs % 1000)=46::(cq (n.natAbs % 1000)).drop 1:=by
   unfold cq;rw [ZO h0];split
   ·rfl
   ·split <;> rfl
  rw [e,vU _ _ _ hno];exact ⟨_,rfl⟩
theorem rD (w:World) (s:ByteArray) (wh re:List UInt8) (b3:Bool) (n:Int) (hre:re.length<=3) (hwh:wh.length<=10)
  (HC:Hid (QD 221 #[s,.string ⟨#[46]⟩] w (.tuple #[.string ⟨wh.toArray⟩,.string ⟨re.toArray⟩,b3])))
  (HA:Hid (∀ q,CP 220 #[.string (⟨wh.toArray⟩++((⟨re.toArray⟩:ByteArray)++⟨#[48,48,48]⟩).extract 0 3)] (w.drewN q) fun e w'=>e=.returned (.tuple #[n,.nilIface])/\Below w w w'))
  (HL:Hid (∀ w1,Below w w w1->QB 211 #[n] w1 s)):
  QB 224 #[s] w (.tuple #[n,true]):=by
 go_enter func224,ntmps224
 go_wp2_with fail
 refine HC.out.mono ?_;rintro e w1 ⟨rfl,q,rfl⟩;clear HC;go_wp2_with fail
 refine (HA.out q).mono ?_;rintro e w2 ⟨rfl,hb2⟩;clear HA;go_wp2_with fail
 refine (HL.out w2 hb2).mono ?_;rintro e w3 ⟨rfl,hb3⟩;clear HL;go_wp2;go_ret2;exact ⟨rfl,hb2.trans (hb3.mono hb2.size)⟩
theorem jL (w:World) (B:Nat) (s:ByteArray) (n:Int) (h0:-100000000<=n) (h1:n<=100000000) (hs:s.data.toList=bJ n) (hB:B<=w.heap.size) (ht:bU B w) (hm:fH B w):
  QB 224 #[s] w (.tuple #[n,true]):=by
 obtain ⟨b3,hcut⟩:=E_ n;obtain ⟨_,m,hmc⟩:=hm;have hfr:(cq (n.natAbs % 1000)).length<=4:=by
  unfold cq;split
  ·simp
  ·split
   ·simp
   ·split <;> simp
 have hdl:(Lib.itoa (n.natAbs / 1000:Nat)).length<=6:=by rw [fy];exact uB _ 5 (by omega)
 have hwl:((if n < 0 then [45] else [])++Lib.itoa (n.natAbs / 1000:Nat):List UInt8).length<=7:=by
  rw [ZY];split
  ·show 1+_<=7;omega
  ·show 0+_<=7;omega
 have hsz:s.size<=20:=by
  rw [<-aP,hs];show ((if n < 0 then [45] else [])++Lib.itoa (n.natAbs / 1000:Nat)++cq (n.natAbs % 1000):List UInt8).length<=20
  rw [ZY];omega
 refine rD w s ((if n < 0 then [45] else [])++Lib.itoa (n.natAbs / 1000:Nat)) ((cq (n.natAbs % 1000)).drop 1) b3 n (by rw [Za];omega) (by omega) ?_ ?_ ?_
 ·have:=Tryz.strings_Cut s ⟨#[46]⟩ m w (by omega) hmc;rw [hs,hcut] at this;exact this
 ·intro q;have e:(⟨((if n < 0 then [45] else [])++Lib.itoa (n.natAbs / 1000:Nat)).toArray⟩:ByteArray)++((⟨((cq (n.natAbs % 1000)).drop 1).toArray⟩:ByteArray)++⟨#[48,48,48]⟩).extract 0 3=⟨((if n < 0 then [45] else [])++Lib.itoa (n.natAbs / 1000:Nat)++s5 (n.natAbs % 1000)).toArray⟩:=by
   rw [zP];congr 2;rw [Zg,YV,zP];simp only [List.extract,Nat.sub_zero,List.drop_zero];rw [<-Da ⟨n.natAbs % 1000,Yy _ (by decide)⟩]
  rw [e];refine (Tryz.strconv_Atoi _ n ?_ (DN n) (w.drewN q)).mono ?_
  ·rw [ae,ZY];show _+3<=18
   omega
  ·rintro e w' ⟨rfl,t,rfl⟩;have h:=Lib.bytesWorld_below (w.drewN q) 5 t;exact ⟨rfl,⟨h.os,h.tape,h.output,h.size,h.block⟩⟩
 ·intro w1 hb;have:=mO B w1 n h0 h1 (ZU hB hb.size) (ht.on (hb.mono hB));have e:(⟨(bJ n).toArray⟩:ByteArray)=s:=Zd (Array.toList_inj.1 (by rw [hs]));rw [e] at this;exact this
theorem od (a b:List UInt8):Lib.trimSuffix (a++b) b=a:=by
 unfold Lib.trimSuffix Lib.hasSuffix;rw [ZN (by rw [List.isSuffixOf_iff_suffix];exact List.suffix_append _ _)];simp
theorem zK (w:World) (B:Nat) (s:ByteArray) (hd body:List UInt8) (hs:s.data.toList=hd++10::(body++[10,101,110,100,111,98,106,10])) (h10:(10:UInt8) ∉ hd) (hsz:s.size<=2000000000) (hm:fH B w):
  QD 188 #[s] w (.string ⟨body.toArray⟩):=by
 obtain ⟨_,m,hmc⟩:=hm;have HC:=ai (Tryz.strings_Cut s ⟨#[10]⟩ m w (by omega) hmc);have e1:Lib.cut s.data.toList [10]=(hd,body++[10,101,110,100,111,98,106,10],true):=by rw [hs];exact vU 10 hd _ h10
 simp only [e1] at HC;have hl:(body++[10,101,110,100,111,98,106,10]:List UInt8).length<=s.size:=by rw [<-aP,hs];simp;omega
 have HT:=ai (fun q=>Tryz.strings_TrimSuffix ⟨(body++[10,101,110,100,111,98,106,10]).toArray⟩ ⟨#[10,101,110,100,111,98,106,10]⟩ (w.drewN q) (by rw [ae];omega));simp only [od] at HT;clear e1 hl;go_enter func188,ntmps188
 go_wp2_with fail
 refine HC.out.mono ?_;rintro e w1 ⟨rfl,q,rfl⟩;clear HC;go_wp2_with fail
 refine (HT.out q).mono ?_;rintro e w2 ⟨rfl,rfl⟩;go_wp2;go_ret;exact ⟨rfl,q,rfl⟩
theorem sN (w:World) (l cap:Nat) (ad:Option Addr) (c3:w.cell? (zq l 3)=some (.slice ad 0 cap)):
  QD 227 #[zp l] w (0:Int):=by
 go_enter func227,ntmps227
 go_wp2;go_ret;exact ⟨rfl,0,rfl⟩
theorem sO (w:World) (l b k cap:Nat) (hk:k<=1000) (hcap:k+1<=cap) (pg:Int) (c3:w.cell? (zq l 3)=some (.slice b (k+1) cap)) (hc:w.cell? (zq b (k*2+1))=pg):
  QD 227 #[zp l] w pg:=by
 have d:(((k+1:Nat):Int)==0)=false:=by simp;omega
 have e1:((k+1:Nat):Int) - 1=(k:Int):=by omega
 go_enter func227,ntmps227
 go_wp2;go_quiet (fail)
 go_wp2;go_ret;exact ⟨rfl,nq,rfl⟩
def yX (o:Option Nat):Nat:=match o with | some n=>n+1 | none=>0
theorem EU (o:Option Nat):ni 1 o=(yX o:Int):=by cases o <;> simp [ni,yX]
def j3:List UInt8:=[32,10,91,93,40]
def ny:List UInt8->Nat
 | []=>0
 | c::r=>if c.toNat=40 then yX (ey r) else if c.toNat=91\/c.toNat=93 then 1 else if 0<=Lib.indexAny (c::r) j3 then (Lib.indexAny (c::r) j3).toNat else r.length+1
def fa (l:List UInt8):Prop:=8 < l.length\/∀ x,x∈l->x.toNat < 128
theorem An (w:World) (s:ByteArray) (pos:Nat):Below w w (w.iter s pos):=(ZT _ w).alloc (ZW _) _
theorem t8 (w:World) (s:ByteArray) (hs:s.size<=2000000000) (hp:fa s.data.toList):
  QB 295 #[s,.string ⟨#[32,10,91,93,40]⟩] w (Lib.indexAny s.data.toList j3:Int):=by
 have hc:∀ (j:Nat) b,(ByteArray.mk #[32,10,91,93,40]).data.toList[j]? =some b->b.toNat < 128:=by
  intro j b hb;have:=YG hb;simp at this;rcases this with rfl | rfl | rfl | rfl | rfl <;> decide
 by_cases h8:8 < s.size
 ·refine (Tryz.strings_IndexAny_long Tryz.zero306 s ⟨#[32,10,91,93,40]⟩ w (by decide) h8 (by omega) (by decide) hc).mono ?_;rintro e w' ⟨rfl,rfl⟩;exact ⟨rfl,((ZT _ w).alloc (ZW _) _).alloc (by simp) _⟩
 ·rcases hp with hp | hp
  ·rw [aP] at hp;exact absurd hp h8
  ·refine (Tryz.strings_IndexAny_short s ⟨#[32,10,91,93,40]⟩ w (by decide) (by omega) (fun j b hb=>hp b (YG hb))).mono ?_;rintro e w' ⟨rfl,pos,rfl⟩;exact ⟨rfl,An _ _ _⟩
theorem rY (w:World) (s:ByteArray) (hs:s.size<=2000000000) (hp:fa s.data.toList):
  QB 258 #[s] w (ny s.data.toList:Nat):=by
 have HI:=ai (t8 w s hs hp);have HS:=ai (qJ w s hs);obtain ⟨R,hR⟩:∃ R,ny s.data.toList=R:=⟨_,rfl⟩;rw [hR];have HR:=ai hR;clear hR hp;by_cases he:s.toList.isEmpty=true
 ·have he':s.data.toList=[]:=by rw [<-Zm];simpa using he
  have H0:Hid (R=0):=by show _=_;rw [<-HR.out,he'];rfl
  clear he' HI HS HR;go_enter func258,ntmps258
  go_wp2;go_ret;exact ⟨by rw [H0.out];rfl,ZT _ _⟩
 ·have he':s.toList.isEmpty=false:=by simpa using he
  have h0:0 < s.size:=Nat.pos_of_ne_zero (fun h=>he (by
   have e:=Zp (l:=s.data.toList) (by rw [aP];exact h);rw [Zm,e];rfl))
  obtain ⟨c,hc⟩:∃ c,s[0]=c:=⟨_,rfl⟩;have hl:s.data.toList=c::s.data.toList.drop 1:=by
   have hlen:0 < s.data.toList.length:=by rw [aP];exact h0
   have e:s.data.toList[0]=c:=by rw [<-hc];rfl
   rw [<-e];exact (Zn hlen)
  have HL:=ai hl;clear hl he;by_cases h40:c.toNat=40
  ·have HV:Hid ((R:Int)=ni 1 (ey (s.data.toList.drop 1))):=by show _=_;rw [EU, <-HR.out,HL.out,ny,ZN h40,List.drop_succ_cons,List.drop_zero]
   obtain ⟨z,hz⟩:∃ z,ni 1 (ey (s.data.toList.drop 1))=z:=⟨_,rfl⟩;rw [hz] at HV HS;clear HI HR HL hz;go_enter func258,ntmps258
   go_wp2_with fail
   refine HS.out.mono ?_;rintro e w1 ⟨rfl,rfl⟩;clear HS;go_wp2;go_ret;exact ⟨by rw [HV.out];rfl,ZT _ _⟩
  ·by_cases hb:c.toNat=91\/c.toNat=93
   ·have HV:Hid (R=1):=by show _=_;rw [<-HR.out,HL.out,ny,ZO h40,ZN hb]
    clear HI HR HL HS;rcases hb with hb | hb
    ·go_enter func258,ntmps258
     go_wp2;go_ret;exact ⟨by rw [HV.out];rfl,ZT _ _⟩
    ·go_enter func258,ntmps258
     go_wp2;go_ret;exact ⟨by rw [HV.out];rfl,ZT _ _⟩
   ·have h91:¬ c.toNat=91:=fun e=>hb (.inl e)
    have h93:¬ c.toNat=93:=fun e=>hb (.inr e)
    have d91:(((c.toNat:Nat):Int)==91)=false:=by simp;omega
    have d93:(((c.toNat:Nat):Int)==93)=false:=by simp;omega
    have HV:Hid (R=if 0<=Lib.indexAny s.data.toList j3 then (Lib.indexAny s.data.toList j3).toNat else s.size):=by
     show _=_
     have e:s.size=(s.data.toList.drop 1).length+1:=by
      rw [<-aP s]
      conv=>lhs;rw [HL.out]
      rfl
     rw [e, <-HR.out]
     conv=>lhs;rw [HL.out,ny,ZO h40,ZO hb]
     rw [<-HL.out]
    obtain ⟨i,hi⟩:∃ i,Lib.indexAny s.data.toList j3=i:=⟨_,rfl⟩;have hige:=Lib.indexAny_ge j3 s.data.toList;rw [hi] at HV HI hige;clear HR HL HS hb hi;by_cases hi0:0<=i
    ·go_enter func258,ntmps258
     go_wp2_with fail
     refine HI.out.mono ?_;rintro e w1 ⟨rfl,hb1⟩;clear HI;go_wp2;go_ret;exact ⟨by rw [HV.out,ZN hi0,XV hi0];rfl,hb1⟩
    ·have HV':Hid (R=s.size):=by show _=_;rw [HV.out,ZO hi0]
     clear HV;go_enter func258,ntmps258
     go_wp2_with fail
     refine HI.out.mono ?_;rintro e w1 ⟨rfl,hb1⟩;clear HI;go_wp2;go_ret;exact ⟨by rw [HV'.out];rfl,hb1⟩
end Go.Proofs.YtbklfkpjoinofaaGreatDoor
