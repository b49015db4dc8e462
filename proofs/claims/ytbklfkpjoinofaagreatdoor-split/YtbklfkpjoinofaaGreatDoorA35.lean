import Derived.Test.YtbklfkpjoinofaaGreatDoorA34
import Derived.Shelf.RegionOpen
import Derived.OwnWalkIn
import Derived.LoopNIn
import Derived.LoopIn
set_option linter.all false
set_option maxRecDepth 100000
set_option maxHeartbeats 8000000
namespace Go.Proofs.YtbklfkpjoinofaaGreatDoor
open Go.RowKit Go.Proofs.Tryz
def js (B b:Nat) (ns:List Int) (k:Nat) (tx:List UInt8):As:=aS B b (ns.map (.int .i64)++[.int .i64 (k:Int),.string ⟨tx.toArray⟩])
theorem js.thing (B b:Nat) (ns:List Int) (k:Nat) (tx:List UInt8):aJ B (js B b ns k tx):=aS.thing _ _ _
theorem js.putN {B b:Nat} {ns:List Int} {k:Nat} {tx:List UInt8} {w:World} {S:Bl} (h:js B b ns k tx w S) (hns:ns.length=9) {i:Nat} (hi:i < 9) (z:Int):js B b (ns.set i z) k tx (w.setCell (zq b i) z) S/\Mv S w S (w.setCell (zq b i) z):=by
 obtain ⟨k1,m1⟩:=aS.set h i (.int .i64 z) (by simp [hns];omega);refine ⟨?_,m1⟩;have e:(ns.map (Value.int .i64)++[Value.int .i64 (k:Int),Value.string ⟨tx.toArray⟩]).set i (.int .i64 z)=(ns.set i z).map (Value.int .i64)++[Value.int .i64 (k:Int),Value.string ⟨tx.toArray⟩]:=by
  rw [List.set_append_left _ _ (by simp [hns];omega),List.map_set]
 rw [e] at k1;exact k1
theorem js.putK {B b:Nat} {ns:List Int} {k:Nat} {tx:List UInt8} {w:World} {S:Bl} (h:js B b ns k tx w S) (hns:ns.length=9) (k':Nat):js B b ns k' tx (w.setCell (zq b 9) (k':Int)) S/\Mv S w S (w.setCell (zq b 9) (k':Int)):=by
 obtain ⟨k1,m1⟩:=aS.set h 9 (.int .i64 (k':Int)) (by simp [hns]);refine ⟨?_,m1⟩;have e:(ns.map (Value.int .i64)++[Value.int .i64 (k:Int),Value.string ⟨tx.toArray⟩]).set 9 (.int .i64 (k':Int))=ns.map (Value.int .i64)++[Value.int .i64 (k':Int),Value.string ⟨tx.toArray⟩]:=by
  rw [XB _ _ (by simp [hns])];simp [hns]
 rw [e] at k1;exact k1
theorem Du (w:World) (b:Nat) (t:ByteArray) (c:UInt8) (h0:0 < t.size) (hc:t[0]=c) (h1:c.toNat≠40) (h2:c.toNat≠45) (h3:c.toNat < 48\/57 < c.toNat):
  QE 299 #[zp b,t] w true:=by
 have d1:((c.toNat:Int)==40)=false:=by simp;omega
 have d2:((c.toNat:Int)==45)=false:=by simp;omega
 rcases h3 with h3 | h3
 ·have d3:decide (48<=(c.toNat:Int))=false:=by simp;omega
  go_enter func299,ntmps299
  go_wp2;go_ret;exact ⟨rfl,rfl⟩
 ·have d3:decide (48<=(c.toNat:Int))=true:=by simp;omega
  have d4:decide ((c.toNat:Int)<=57)=false:=by simp;omega
  go_enter func299,ntmps299
  go_wp2;go_ret;exact ⟨rfl,rfl⟩
theorem za (w:World) (B b:Nat) (ns:List Int) (k:Nat) (tx l:List UInt8) (t:ByteArray) (S:Bl) (h:js B b ns k tx w S) (hns:ns.length=9) (h0:0 < t.size) (hc:t[0]=40)
  (HS:Hid (QB 225 #[t] w (.tuple #[.string ⟨l.toArray⟩,true]))):
  CP 299 #[zp b,t] w fun e w'=>e=.returned true/\js B b ns k l w' S/\Mv S w S w':=by
 have HO:=ai h;have c10:w.cell? (zq b 10)=some (.string ⟨tx.toArray⟩):=h.at 10 _ (by rw [Zb (by simp [hns])];simp [hns]);have f10:=h.fz 10;go_enter func299,ntmps299
 go_wp2_with fail
 refine HS.out.mono ?_;rintro e w1 ⟨rfl,hb⟩;clear HS;have h1:js B b ns k tx w1 S:=(js.thing _ _ _ _ _).grow HO.out hb;have c10:w1.cell? (zq b 10)=some (.string ⟨tx.toArray⟩):=h1.at 10 _ (by rw [Zb (by simp [hns])];simp [hns]);have f10:=h1.fz 10;go_wp2;go_ret;obtain ⟨k',mv⟩:=h1.set 10 (.string ⟨l.toArray⟩) (by simp [hns]);refine ⟨rfl,?_,(Mv.grow hb S).trans mv⟩;have e:(ns.map (Value.int .i64)++[Value.int .i64 (k:Int),Value.string ⟨tx.toArray⟩]).set 10 (.string ⟨l.toArray⟩)=ns.map (Value.int .i64)++[Value.int .i64 (k:Int),Value.string ⟨l.toArray⟩]:=by
  rw [XB _ _ (by simp [hns])];simp [hns]
 rw [e] at k';exact k'
theorem y_ (w:World) (B b:Nat) (ns:List Int) (k:Nat) (tx:List UInt8) (z:Int) (t:ByteArray) (c:UInt8) (S:Bl) (h:js B b ns k tx w S) (hns:ns.length=9) (hk:k < 9) (h0:0 < t.size) (hc:t[0]=c) (hd:c.toNat=45\/48<=c.toNat/\c.toNat<=57)
  (HS:Hid (∀ wx,Below w w wx->QB 224 #[t] wx (.tuple #[z,true]))):
  CP 299 #[zp b,t] w fun e w'=>e=.returned true/\js B b (ns.set k z) (k+1) tx w' S/\Mv S w S w':=by
 have HO:=ai h;have c9:w.cell? (zq b 9)=(k:Int):=h.at 9 _ (by rw [Zb (by simp [hns])];simp [hns]);have f9:=h.fz 9;have d0:((c.toNat:Int)==40)=false:=by simp;omega
 have d9:((k:Int)==9)=false:=by simp;omega
 have hk9:(k:Int) < 9:=by omega
 obtain ⟨u,hu⟩:∃ u,ns[k]? =some u:=⟨_,ZM (by omega)⟩;have ck:∀ w1,js B b ns k tx w1 S->w1.cell? (zq b k)=some (.int .i64 u):=fun w1 h1=>h1.at k _ (by rw [YE (by simp [hns];omega)];simp [hu])
 have c9':∀ w1,js B b ns k tx w1 S->w1.cell? (zq b 9)=some (.int .i64 (k:Int)):=fun w1 h1=>h1.at 9 _ (by rw [Zb (by simp [hns])];simp [hns])
 have HC9':Hid (∀ w1,js B b (ns.set k z) k tx w1 S->w1.cell? (zq b 9)=some (.int .i64 (k:Int))):=fun w1 h1=>h1.at 9 _ (by rw [Zb (by simp [hns])];simp [hns])
 have HCk:=ai ck;have HC9:=ai c9';clear ck c9';have hdd:(((c.toNat:Int)==45)=true)\/(((c.toNat:Int)==45)=false/\decide (48<=(c.toNat:Int))=true/\decide ((c.toNat:Int)<=57)=true):=by
  rcases hd with e | ⟨e1,e2⟩
  ·exact .inl (by simp;omega)
  ·exact .inr ⟨by simp;omega,by simp;omega,by simp;omega⟩
 rcases hdd with hd1 | ⟨hd1,hd2,hd3⟩
 ·go_enter func299,ntmps299
  go_wp2_with fail
  go_region_law (rw [ZN (by simp [Region.wanted])];go_wp2_with fail;go_at_call 224;refine (HS.out _ ((ZT _ w).drew)).mono ?_;rintro e w9 ⟨rfl,hB9⟩;have h9:=(js.thing _ _ _ _ _).grow (HO.out) (below_drewN (n:=1) hB9);have ck9:=HCk.out _ h9;have fk9:=h9.fz k;have c99:=HC9.out _ h9;have f99:=h9.fz 9;dsimp only)
  all_goals
   obtain ⟨hA,mA⟩:=js.putN h9 hns hk z;have cA:=HC9'.out _ hA;have fA:=hA.fz 9;clear HS HCk HC9 ck9 fk9 c99 f99 c9 f9;go_wp2;go_ret;obtain ⟨hZ,mZ⟩:=js.putK hA (by simp [hns]) (k+1);exact ⟨rfl,hZ,((Mv.grow (below_drewN (n:=1) hB9) S).trans mA).trans mZ⟩
 ·go_enter func299,ntmps299
  go_wp2_with fail
  go_region_law (rw [ZN (by simp [Region.wanted])];go_wp2_with fail;go_at_call 224;refine (HS.out _ ((ZT _ w).drew)).mono ?_;rintro e w9 ⟨rfl,hB9⟩;have h9:=(js.thing _ _ _ _ _).grow (HO.out) (below_drewN (n:=1) hB9);have ck9:=HCk.out _ h9;have fk9:=h9.fz k;have c99:=HC9.out _ h9;have f99:=h9.fz 9;dsimp only)
  all_goals
   obtain ⟨hA,mA⟩:=js.putN h9 hns hk z;have cA:=HC9'.out _ hA;have fA:=hA.fz 9;clear HS HCk HC9 ck9 fk9 c99 f99 c9 f9;go_wp2;go_ret;obtain ⟨hZ,mZ⟩:=js.putK hA (by simp [hns]) (k+1);exact ⟨rfl,hZ,((Mv.grow (below_drewN (n:=1) hB9) S).trans mA).trans mZ⟩
theorem vN {B:Nat} {w w':World} {n:Nat} (h:Below B w w'):Below B w (w'.drewN n):=⟨h.os,h.tape,h.output,h.size,h.block⟩
theorem zV (w:World) (B b:Nat) (n0 n1 n2 n3 n4 n5 n6 n7 n8:Int) (k:Nat) (tx:List UInt8) (bh:ByteArray) (S:Bl) (h:js B b [n0,n1,n2,n3,n4,n5,n6,n7,n8] k tx w S):
  QB 298 #[zp b,.string ⟨#[83]⟩,bh] w (.iface 217 (.agg #[n1,n2,n3,n4,n0])):=by
 have c0:w.cell? b=n0:=h.at 0 _ rfl;have c1:w.cell? (zq b 1)=n1:=h.at 1 _ rfl;have c2:w.cell? (zq b 2)=n2:=h.at 2 _ rfl;have c3:w.cell? (zq b 3)=n3:=h.at 3 _ rfl;have c4:w.cell? (zq b 4)=n4:=h.at 4 _ rfl;have c5:w.cell? (zq b 5)=n5:=h.at 5 _ rfl;have c6:w.cell? (zq b 6)=n6:=h.at 6 _ rfl;have c7:w.cell? (zq b 7)=n7:=h.at 7 _ rfl;have c8:w.cell? (zq b 8)=n8:=h.at 8 _ rfl;go_enter func298,ntmps298
 go_wp2;go_ret;exact ⟨rfl,(ZT _ w).alloc (ZW _) _⟩
theorem zY (w:World) (B b:Nat) (n0 n1 n2 n3 n4 n5 n6 n7 n8:Int) (k:Nat) (tx:List UInt8) (bh:ByteArray) (S:Bl) (h:js B b [n0,n1,n2,n3,n4,n5,n6,n7,n8] k tx w S):
  QB 298 #[zp b,.string ⟨#[102]⟩,bh] w (.iface 219 (.agg #[n1,n2,n3,n4,n0])):=by
 have c0:w.cell? b=n0:=h.at 0 _ rfl;have c1:w.cell? (zq b 1)=n1:=h.at 1 _ rfl;have c2:w.cell? (zq b 2)=n2:=h.at 2 _ rfl;have c3:w.cell? (zq b 3)=n3:=h.at 3 _ rfl;have c4:w.cell? (zq b 4)=n4:=h.at 4 _ rfl;have c5:w.cell? (zq b 5)=n5:=h.at 5 _ rfl;have c6:w.cell? (zq b 6)=n6:=h.at 6 _ rfl;have c7:w.cell? (zq b 7)=n7:=h.at 7 _ rfl;have c8:w.cell? (zq b 8)=n8:=h.at 8 _ rfl;go_enter func298,ntmps298
 go_wp2;go_ret;exact ⟨rfl,(ZT _ w).alloc (ZW _) _⟩
theorem Ac (w:World) (B b:Nat) (n0 n1 n2 n3 n4 n5 n6 n7 n8:Int) (k:Nat) (tx:List UInt8) (bh:ByteArray) (S:Bl) (h:js B b [n0,n1,n2,n3,n4,n5,n6,n7,n8] k tx w S):
  QB 298 #[zp b,.string ⟨#[69,84]⟩,bh] w (.iface 215 (.agg #[n1,n2,n0,.string ⟨tx.toArray⟩])):=by
 have c0:w.cell? b=n0:=h.at 0 _ rfl;have c1:w.cell? (zq b 1)=n1:=h.at 1 _ rfl;have c2:w.cell? (zq b 2)=n2:=h.at 2 _ rfl;have c3:w.cell? (zq b 3)=n3:=h.at 3 _ rfl;have c4:w.cell? (zq b 4)=n4:=h.at 4 _ rfl;have c5:w.cell? (zq b 5)=n5:=h.at 5 _ rfl;have c6:w.cell? (zq b 6)=n6:=h.at 6 _ rfl;have c7:w.cell? (zq b 7)=n7:=h.at 7 _ rfl;have c8:w.cell? (zq b 8)=n8:=h.at 8 _ rfl;have c10:(w.alloc (Obj.cells #[Value.int IntKind.i64 n0,Value.int IntKind.i64 n1,Value.int IntKind.i64 n2,Value.int IntKind.i64 n3,Value.int IntKind.i64 n4,Value.int IntKind.i64 n5,Value.int IntKind.i64 n6,Value.int IntKind.i64 n7,Value.int IntKind.i64 n8] 322)).cell? (zq b 10)=some (.string ⟨tx.toArray⟩):=((js.thing _ _ _ _ _).alloc h _).at 10 _ rfl;go_enter func298,ntmps298
 go_wp2;go_quiet (fail)
 go_wp2;go_ret;exact ⟨rfl,vN ((ZT _ w).alloc (ZW _) _)⟩
theorem zW (w:World) (B b:Nat) (n0 n1 n2 n3 n4 n5 n6 n7 n8:Int) (k:Nat) (tx:List UInt8) (bh:ByteArray) (S:Bl) (h:js B b [n0,n1,n2,n3,n4,n5,n6,n7,n8] k tx w S) (t:ByteArray) (h1:(t.toList==[69,84])=false) (h2:(t.toList==[83])=false) (h3:(t.toList==[102])=false) (h4:(t.toList==[73,68])=false):
  QB 298 #[zp b,t,bh] w (.nilIface):=by
 have c0:w.cell? b=n0:=h.at 0 _ rfl;have c1:w.cell? (zq b 1)=n1:=h.at 1 _ rfl;have c2:w.cell? (zq b 2)=n2:=h.at 2 _ rfl;have c3:w.cell? (zq b 3)=n3:=h.at 3 _ rfl;have c4:w.cell? (zq b 4)=n4:=h.at 4 _ rfl;have c5:w.cell? (zq b 5)=n5:=h.at 5 _ rfl;have c6:w.cell? (zq b 6)=n6:=h.at 6 _ rfl;have c7:w.cell? (zq b 7)=n7:=h.at 7 _ rfl;have c8:w.cell? (zq b 8)=n8:=h.at 8 _ rfl;go_enter func298,ntmps298
 go_wp2;go_ret;exact ⟨rfl,(ZT _ w).alloc (ZW _) _⟩
theorem tI (w:World) (n:Int) (h0:0<=n) (h1:n<=100000000):QE 323 #[n] w (n / 1000:Int):=by
 go_enter func323,ntmps323
 go_wp2;go_ret;exact ⟨by congr 2,rfl⟩
theorem aS.sixO {B b:Nat} {v0 v1 v2 v3 v4 v5:Value} {w:World} {S:Bl} (h:aS B b [v0,v1,v2,v3,v4,v5] w S):w.cell? b=some v0/\w.cell? (zq b 1)=some v1/\w.cell? (zq b 2)=some v2/\w.cell? (zq b 3)=some v3/\w.cell? (zq b 4)=some v4/\w.cell? (zq b 5)=some v5:=
 ⟨h.at 0 _ rfl,h.at 1 _ rfl,h.at 2 _ rfl,h.at 3 _ rfl,h.at 4 _ rfl,h.at 5 _ rfl⟩
theorem sE (w:World) (X Y W H C R:Int) (s:ByteArray) (z:Nat) (hz:C*R=(z:Int)) (hs:1+z<=s.size) (hs2:s.size<=2000000000)
  (HF:Hid (∀ wx,Below w w wx->QB 130 #[.agg #[X,Y,W,H,C,R]] wx true))
  (HB:Hid (∀ wx,QB 89 #[.agg #[X,Y,W,H,C,R]] wx (z:Int)))
  (HC:Hid (∀ wx,QB 83 #[.string (s.extract 1 (1+z))] wx (.string (s.extract 1 (1+z))))):
  QB 324 #[.agg #[X,Y,W,H,C,R],s] w (.string (s.extract 1 (1+z))):=by
 go_enter func324,ntmps324
 have HK:=ai (aS.alloc (B:=w.heap.size) (vs:=[.int .i64 X,.int .i64 Y,.int .i64 W,.int .i64 H,.int .i64 C,.int .i64 R]) (w:=w) (t:=130) (ZW _));have hb0:Below w w (w.alloc (.cells #[X,Y,W,H,C,R] 130)):=(ZT _ w).alloc (ZW _) _;go_wp2_with fail
 refine (HF.out _ hb0).mono ?_;rintro e w1 ⟨rfl,hb1⟩;have k1:=(aS.thing _ _ _).grow HK.out hb1;obtain ⟨a0,a1,a2,a3,a4,a5⟩:=k1.sixO;clear HF;go_wp2_with fail
 refine (HB.out _).mono ?_;rintro e w2 ⟨rfl,hb2⟩;have k2:=(aS.thing _ _ _).grow k1 hb2;obtain ⟨d0,d1,d2,d3,d4,d5⟩:=k2.sixO;clear a0 a1 a2 a3 a4 a5;have dz:decide ((s.size:Int) < 1+(z:Int))=false:=by simp;omega
 go_wp2_with fail
 refine (HB.out _).mono ?_;rintro e w3 ⟨rfl,hb3⟩;clear d0 d1 d2 d3 d4 d5 HB;go_wp2_with fail
 refine (HC.out _).mono ?_;rintro e w4 ⟨rfl,hb4⟩;clear HC;go_wp2;go_ret;refine ⟨rfl,?_⟩;have g1:=hb0.trans (hb1.mono hb0.size);have g2:=g1.trans (hb2.mono g1.size);have g3:=g2.trans (hb3.mono g2.size);exact g3.trans (hb4.mono g3.size)
theorem tW (w:World) (X Y W H C R:Int) (s:ByteArray) (z:Nat) (hz:C*R=(z:Int)) (hs:1+z<=s.size) (hs2:s.size<=2000000000) (hC0:1<=C) (hC1:C<=64) (hR0:1<=R) (hR1:R<=64) (hf:br (-14400000) [X,Y]=true) (hg:br 1 [W,H]=true):
  QB 324 #[.agg #[X,Y,W,H,C,R],s] w (.string (s.extract 1 (1+z))):=by
 refine sE w X Y W H C R s z hz hs hs2 ?_ ?_ ?_
 ·intro wx _;have:=eJ wx X Y W H C R;rw [hf,hg,Zt hC0,Zt hC1,Zt hR0,Zt hR1] at this;exact this
 ·intro wx;have:=dC wx X Y W H C R (by omega) hC1 (by omega) hR1;rw [hz] at this;exact this
 ·intro wx;exact qv wx _ (by simp;omega)
def GC (z:Nat) (l:List Value) (k:Nat) (v:Value) (w:World):Prop:=
 if k=15 then ∃ g,v=.pointer (some ⟨g,0,none⟩)/\z<=g/\w.heap[g]? =some (.cells #[oz,oz,oz,oz,oz,oz] 130 (0,0)) else v=l.getD k undef
theorem Ga {z:Nat} {l:List Value} {n:Nat} (k:Nat) (v:Value) (w w':World) (_:k < n) (h:GC z l k v w) (hg:af w w'):GC z l k v w':=by
 unfold GC at h ⊢;by_cases hk:k=15
 ·rw [ZN hk] at h ⊢;obtain ⟨g,e,hz,hb⟩:=h;exact ⟨g,e,hz,(hg.block g (ZG.1 hb).1).trans hb⟩
 ·rw [ZO hk] at h ⊢;exact h
theorem xz (w:World) (B b:Nat) (n0 n1 n2 n3 n4 n5 n6 n7 n8:Int) (k:Nat) (tx:List UInt8) (bh:ByteArray) (S:Bl) (z:Nat) (h:js B b [n0,n1,n2,n3,n4,n5,n6,n7,n8] k tx w S) (h60:0<=n6) (h61:n6<=100000000) (h70:0<=n7) (h71:n7<=100000000)
  (HF:Hid (∀ wx,QB 324 #[.agg #[n4,n5,n0,n3,.int .i64 (n6 / 1000),.int .i64 (n7 / 1000)],bh] wx (.string (bh.extract 1 (1+z))))):
  QB 298 #[zp b,.string ⟨#[73,68]⟩,bh] w (.iface 135 (.agg #[n4,n5,n0,n3,(n6 / 1000:Int),(n7 / 1000:Int),.string (bh.extract 1 (1+z))])):=by
 have c0:w.cell? b=n0:=h.at 0 _ rfl;have c1:w.cell? (zq b 1)=n1:=h.at 1 _ rfl;have c2:w.cell? (zq b 2)=n2:=h.at 2 _ rfl;have c3:w.cell? (zq b 3)=n3:=h.at 3 _ rfl;have c4:w.cell? (zq b 4)=n4:=h.at 4 _ rfl;have c5:w.cell? (zq b 5)=n5:=h.at 5 _ rfl;have c6:w.cell? (zq b 6)=n6:=h.at 6 _ rfl;have c7:w.cell? (zq b 7)=n7:=h.at 7 _ rfl;have c8:w.cell? (zq b 8)=n8:=h.at 8 _ rfl;have W6:=ai (fun wx=>tI wx n6 h60 h61);have W7:=ai (fun wx=>tI wx n7 h70 h71);go_enter func298,ntmps298
 go_wp2_with fail
 obtain ⟨w0,hw0⟩:∃ w0,w.alloc (Obj.cells #[Value.int IntKind.i64 n0,Value.int IntKind.i64 n1,Value.int IntKind.i64 n2,Value.int IntKind.i64 n3,Value.int IntKind.i64 n4,Value.int IntKind.i64 n5,Value.int IntKind.i64 n6,Value.int IntKind.i64 n7,Value.int IntKind.i64 n8] 322)=w0:=⟨_,rfl⟩;have HN:Hid (∀ w1,af w0 w1->∀ i u,[Value.int .i64 n0,.int .i64 n1,.int .i64 n2,.int .i64 n3,.int .i64 n4,.int .i64 n5,.int .i64 n6,.int .i64 n7,.int .i64 n8][i]? =some u->w1.cell? (zq w i)=some u):=by
  intro w1 hG i u hu;rw [<-hw0] at hG;exact ((aS.thing _ _ _).grow (aS.alloc (B:=0) (vs:=[.int .i64 n0,.int .i64 n1,.int .i64 n2,.int .i64 n3,.int .i64 n4,.int .i64 n5,.int .i64 n6,.int .i64 n7,.int .i64 n8]) (w:=w) (t:=322) (YO _)) hG).at i u hu
 have hb0:Below w w w0:=by rw [<-hw0];exact (ZT _ w).alloc (ZW _) _
 rw [hw0];clear hw0 c0 c1 c2 c3 c4 c5 c6 c7 c8 h;refine ap 16 _ (GC w0.heap.size [.pointer (some ⟨w,4,none⟩),.int .i64 n4,.pointer (some ⟨w,5,none⟩),.int .i64 n5,.pointer (some ⟨w,0,none⟩),.int .i64 n0,.pointer (some ⟨w,3,none⟩),.int .i64 n3,.pointer (some ⟨w,6,none⟩),.int .i64 n6,.int .i64 (n6 / 1000),.pointer (some ⟨w,7,none⟩),.int .i64 n7,.int .i64 (n7 / 1000),.agg #[n4,n5,n0,n3,(n6 / 1000:Int),(n7 / 1000:Int)],undef]) (by kernel_rfl) rfl (by kernel_rfl) Ga ?_;simp only [TD];refine ⟨fun w1 hG hd=>?_,fun v0=>?_⟩
 ·clear hd;go_wp2;exact RG
 simp only [TN];refine ⟨fun w1 hG hd=>?_,fun v1=>?_⟩
 ·have d0:v0=.pointer (some ⟨w,4,none⟩):=hd ⟨0,.data⟩ (by simp) rfl;clear hd;subst d0;have cc:=HN.out w1 hG 4 _ rfl;go_wp2;exact RG
 simp only [TN];refine ⟨fun w1 hG hd=>?_,fun v2=>?_⟩
 ·clear hd;go_wp2;exact RG
 simp only [TN];refine ⟨fun w1 hG hd=>?_,fun v3=>?_⟩
 ·have d2:v2=.pointer (some ⟨w,5,none⟩):=hd ⟨2,.data⟩ (by simp) rfl;clear hd;subst d2;have cc:=HN.out w1 hG 5 _ rfl;go_wp2;exact RG
 simp only [TN];refine ⟨fun w1 hG hd=>?_,fun v4=>?_⟩
 ·clear hd;go_wp2;exact RG
 simp only [TN];refine ⟨fun w1 hG hd=>?_,fun v5=>?_⟩
 ·have d4:v4=.pointer (some ⟨w,0,none⟩):=hd ⟨4,.data⟩ (by simp) rfl;clear hd;subst d4;have cc:=HN.out w1 hG 0 _ rfl;go_wp2;exact RG
 simp only [TN];refine ⟨fun w1 hG hd=>?_,fun v6=>?_⟩
 ·clear hd;go_wp2;exact RG
 simp only [TN];refine ⟨fun w1 hG hd=>?_,fun v7=>?_⟩
 ·have d6:v6=.pointer (some ⟨w,3,none⟩):=hd ⟨6,.data⟩ (by simp) rfl;clear hd;subst d6;have cc:=HN.out w1 hG 3 _ rfl;go_wp2;exact RG
 simp only [TN];refine ⟨fun w1 hG hd=>?_,fun v8=>?_⟩
 ·clear hd;go_wp2;exact RG
 simp only [TN];refine ⟨fun w1 hG hd=>?_,fun v9=>?_⟩
 ·have d8:v8=.pointer (some ⟨w,6,none⟩):=hd ⟨8,.data⟩ (by simp) rfl;clear hd;subst d8;have cc:=HN.out w1 hG 6 _ rfl;go_wp2;exact RG
 simp only [TN];refine ⟨fun w1 hG hd=>?_,fun v10=>?_⟩
 ·have d9:v9=.int .i64 n6:=hd ⟨9,.data⟩ (by simp) rfl;clear hd;subst d9;have HX:=ai (W6.out w1);go_wp2_with fail
  refine HX.out.mono ?_;rintro e w2 ⟨rfl,rfl⟩;go_wp2;exact RG
 simp only [TN];refine ⟨fun w1 hG hd=>?_,fun v11=>?_⟩
 ·clear hd;go_wp2;exact RG
 simp only [TN];refine ⟨fun w1 hG hd=>?_,fun v12=>?_⟩
 ·have d11:v11=.pointer (some ⟨w,7,none⟩):=hd ⟨11,.data⟩ (by simp) rfl;clear hd;subst d11;have cc:=HN.out w1 hG 7 _ rfl;go_wp2;exact RG
 simp only [TN];refine ⟨fun w1 hG hd=>?_,fun v13=>?_⟩
 ·have d12:v12=.int .i64 n7:=hd ⟨12,.data⟩ (by simp) rfl;clear hd;subst d12;have HX:=ai (W7.out w1);go_wp2_with fail
  refine HX.out.mono ?_;rintro e w2 ⟨rfl,rfl⟩;go_wp2;exact RG
 simp only [TN];refine ⟨fun w1 hG hd=>?_,fun v14=>?_⟩
 ·have d1:v1=.int .i64 n4:=hd ⟨1,.data⟩ (by simp) rfl;have d3:v3=.int .i64 n5:=hd ⟨3,.data⟩ (by simp) rfl;have d5:v5=.int .i64 n0:=hd ⟨5,.data⟩ (by simp) rfl;have d7:v7=.int .i64 n3:=hd ⟨7,.data⟩ (by simp) rfl;have d10:v10=.int .i64 (n6 / 1000):=hd ⟨10,.data⟩ (by simp) rfl;have d13:v13=.int .i64 (n7 / 1000):=hd ⟨13,.data⟩ (by simp) rfl;clear hd;subst d1 d3 d5 d7 d10 d13;go_wp2;exact RG
 simp only [TN];refine ⟨fun w1 hG hd=>?_,fun v15=>?_⟩
 ·clear hd;go_wp2;exact ⟨⟨_,rfl,ZU (by simp) hG.size,ZF _ _⟩,(ZT _ _).alloc (ZW _) _⟩
 simp only [TN];intro w1 hG hd;have d14:v14=.agg #[n4,n5,n0,n3,(n6 / 1000:Int),(n7 / 1000:Int)]:=hd 14 (by omega);obtain ⟨g,d15,hzg,hbg⟩:∃ g,v15=.pointer (some ⟨g,0,none⟩)/\w0.heap.size<=g/\w1.heap[g]? =some (.cells #[oz,oz,oz,oz,oz,oz] 130 (0,0)):=hd 15 (by omega);clear hd;subst d14 d15;have hrow:=YK w1 g _ #[n4,n5,n0,n3,(n6 / 1000:Int),(n7 / 1000:Int)] _ _ hbg;have hb1:Below w w (w1.setRow g #[n4,n5,n0,n3,(n6 / 1000:Int),(n7 / 1000:Int)]):=by
  have h1:=hb0.trans (hG.mono hb0.size);refine ⟨h1.os,h1.tape,h1.output,ZU h1.size (Nat.le_of_eq (by simp [World.setRow])),fun k hk=>?_⟩;exact (setRow_other _ _ _ _ (by have:=hb0.size;omega)).trans (h1.block k hk)
 refine Zj rfl 130 (.tmp 8) (.tmp 72) rfl g #[n4,n5,n0,n3,(n6 / 1000:Int),(n7 / 1000:Int)] rfl rfl _ _ hbg (by kernel_rfl) rfl (by kernel_rfl) ?_;generalize w1.setRow g #[n4,n5,n0,n3,(n6 / 1000:Int),(n7 / 1000:Int)]=w2 at hrow hb1 ⊢;have e0:=Zw _ _ 0 _ _ _ hrow;have e1:=Zw _ _ 1 _ _ _ hrow;have e2:=Zw _ _ 2 _ _ _ hrow;have e3:=Zw _ _ 3 _ _ _ hrow;have e4:=Zw _ _ 4 _ _ _ hrow;have e5:=Zw _ _ 5 _ _ _ hrow;simp at e0 e1 e2 e3 e4 e5;have hlt:g < w2.heap.size:=(ZG.1 hrow).1;have HR:=ai (fun w9 (hB:Below w2 w2.drew w9)=>(hB.block g hlt).trans hrow);have HB1:=ai hb1;clear HN W6 W7 hbg hG hb0 hb1;go_wp2_with fail
 simp only [Act.put];go_region_law (rw [ZN (by simp [Region.wanted])];go_wp2_with fail;go_at_call 324;refine (HF.out _).mono ?_;rintro e w9 ⟨rfl,hB9⟩;have r9:=HR.out w9 hB9;have g0:=Zw _ _ 0 _ _ _ r9;have g1:=Zw _ _ 1 _ _ _ r9;have g2:=Zw _ _ 2 _ _ _ r9;have g3:=Zw _ _ 3 _ _ _ r9;have g4:=Zw _ _ 4 _ _ _ r9;have g5:=Zw _ _ 5 _ _ _ r9;simp at g0 g1 g2 g3 g4 g5;dsimp only)
 all_goals
  go_wp2;go_ret;refine ⟨rfl,HB1.out.trans ?_⟩;exact (below_drewN (n:=1) hB9).mono HB1.out.size
section
open Go.RowKit Go.Shelf
attribute [local go_sem] Oper.semAt_some
theorem Ep (F:Fence) (hd:F.depth=none) (hfn:∀ f,F.fn f) (hro:F.round=none) (l b:Nat) (s:ByteArray) (hs:s.size<=2000000000) (gp tk:Nat->Nat) (Pl:Nat->Prop)
  (hgp:Hid (∀ a,a<=s.size->a+gp a<=s.size)) (htk:Hid (∀ a,a<=s.size->a+tk a<=s.size))
  (HG:Hid (∀ a W,a<=s.size->CallsIn F 0 prog 257 #[.string (s.extract a s.size)] W fun e W'=>e=.returned (.int .i64 (gp a:Nat))/\Below W W W'))
  (HT:Hid (∀ a W,a<=s.size->Pl a->CallsIn F 0 prog 258 #[.string (s.extract a s.size)] W fun e W'=>e=.returned (.int .i64 (tk a:Nat))/\Below W W W'))
  (J:Nat->World->Prop) (Jx:World->Prop) (hJ:Hid (∀ a W W',J a W->Below W W W'->J a W')) (hJV:Hid (∀ a W,J a W->Pl (a+gp a))) (hJc:Hid (∀ a W,J a W->W.cell? ⟨b,0,none⟩=some (.string s)))
  (hY:Hid (∀ a W,J a W->a<=s.size->tk (a+gp a)≠0->YieldAt F 0 prog l #[.int .i64 ((a:Int)+(gp a:Int)+(tk (a+gp a):Int)),.string (s.extract (a+gp a) (a+gp a+tk (a+gp a)))] W fun e W'=>
   (e=.returned true/\J (a+gp a+tk (a+gp a)) W')\/(e=.returned false/\Jx W')))
  (W:World) (h0:J 0 W):
  CallsIn F 0 prog 256 #[.func (.yield l) #[] #[],zp b] W fun e W'=>(∃ v,e=.returned v)/\((∃ a,a<=s.size/\tk (a+gp a)=0/\J a W')\/Jx W'):=by
 refine callsIn_of_wp func256 rfl (hfn _) ?_ hro;simp only [ntmps256,List.size_toArray,ZX,ZR,Nat.reduceAdd,Nat.reduceSub,Array.replicate_succ,Array.replicate_zero,List.push_toArray,List.append_toArray,Zq,ZE]
 gi_wp2
 gi_loopw [3] (fun x wr=>∃ a:Nat,a<=s.size/\x=.int .i64 (a:Int)/\J a wr) (fun x _=>s.size - (match x with | .int _ z=>z.toNat | _=>0))
 case atStart=>exact ⟨0,by omega,rfl,h0⟩
 case round=>
  obtain ⟨a,ha,rfl,hj⟩:=hrel;have c0:=hJc.out a _ hj;have hga:=hgp.out a ha;have hta:=htk.out (a+gp a) hga;have CG:=HG.out a;have CT:=HT.out (a+gp a);have CY:=ai (hY.out a);obtain ⟨g,hg⟩:∃ g,gp a=g:=⟨_,rfl⟩;rw [hg] at hga hta CG CT CY;obtain ⟨n,hn⟩:∃ n,tk (a+g)=n:=⟨_,rfl⟩;rw [hn] at hta CT CY
  gi_wp2_with (gi_at_call 257;refine (CG _ ha).mono ?_;rintro e w1 ⟨rfl,hb1⟩;have hj1:=hJ.out _ _ _ hj hb1;have c1:=hJc.out a _ hj1)
  refine (CT _ hga (by have:=hJV.out a _ hj;rwa [hg] at this)).mono ?_;rintro e w2 ⟨rfl,hb2⟩;have hj2:=hJ.out _ _ _ hj1 hb2;have c2:=hJc.out a _ hj2;by_cases h0n:n=0
  ·subst h0n;clear CG CT CY
   gi_wp2
   refine YT (results_none rfl _ _ _) rfl ?_;exact ⟨⟨_,rfl⟩,.inl ⟨a,ha,by rw [hg,hn],hj2⟩⟩
  ·obtain ⟨fn,tmps,assign,body,hy,hR⟩:=CY.out _ hj2 ha h0n;have d0:((n:Int)==0)=false:=by simp;omega
   clear CG CT CY
   gi_wp2
   refine hR.mono ?_;rintro e w3 (⟨rfl,hj3⟩ | ⟨rfl,hjx⟩)
   ·gi_wp2
    go_roundw
    case rel=>exact ⟨a+g+n,by omega,by congr 1,hj3⟩
    case measure=>simp;omega
   ·gi_wp2
    refine YT (results_none rfl _ _ _) rfl ?_;exact ⟨⟨_,rfl⟩,.inr hjx⟩
def wL (s:ByteArray) (gp tk:Nat->Nat) (a:Nat) (args:Array Value) (a':Nat):Prop:=
 a<=s.size/\tk (a+gp a)≠0/\a+gp a+tk (a+gp a)<=s.size/\a'=a+gp a+tk (a+gp a)/\args=#[.int .i64 ((a:Int)+(gp a:Int)+(tk (a+gp a):Int)),.string (s.extract (a+gp a) (a+gp a+tk (a+gp a)))]
theorem FE (F:Fence) (hd:F.depth=none) (hfn:∀ f,F.fn f) (hro:F.round=none) (B b:Nat) (s:ByteArray) (hs:s.size<=2000000000) (gp tk:Nat->Nat) (Pl:Nat->Prop)
  (hgp:Hid (∀ a,a<=s.size->a+gp a<=s.size)) (htk:Hid (∀ a,a<=s.size->a+tk a<=s.size))
  (HG:Hid (∀ a W,a<=s.size->CallsIn F 0 prog 257 #[.string (s.extract a s.size)] W fun e W'=>e=.returned (.int .i64 (gp a:Nat))/\Below W W W'))
  (HT:Hid (∀ a W,a<=s.size->Pl a->CallsIn F 0 prog 258 #[.string (s.extract a s.size)] W fun e W'=>e=.returned (.int .i64 (tk a:Nat))/\Below W W W')):
  tO F prog 256 #[zp b] B (aS B b [.string s]) (fun _=>True) 0 (fun a=>Pl (a+gp a)) (wL s gp tk) (fun a=>a<=s.size/\tk (a+gp a)=0):=by
 intro l K Kx hK hKx hV W _ hBW hY S h0;have hCt:=aS.thing B b [.string s];refine (Ep F hd hfn hro l b s hs gp tk Pl hgp htk HG HT (fun a W'=>∃ S',ah (aS B b [.string s]) (K a) W' S'/\Mv S W S' W') (fun W'=>∃ S',ah (aS B b [.string s]) Kx W' S'/\Mv S W S' W') ?_ ?_ ?_ ?_ W ⟨S,h0,Mv.refl _ _⟩).mono ?_
 ·rintro a W1 W2 ⟨S',h,m⟩ hb;exact ⟨S',(ah.thing hCt (hK a)).grow h hb,m.trans (Mv.grow hb _)⟩
 ·rintro a W1 ⟨S',h,m⟩;obtain ⟨T,hk,_,_⟩:=ah.snd hCt h;exact hV a _ _ hk
 ·rintro a W1 ⟨S',h,m⟩;obtain ⟨T,hc,_,_⟩:=ah.fst (hK a) h;exact hc.at 0 _ rfl
 ·rintro a W1 ⟨S',h,m⟩ ha hn;obtain ⟨T,hk,_,back⟩:=ah.snd hCt h;obtain ⟨fn,tmps,assign,body,hy,hR⟩:=hY a _ _ W1 T ⟨ha,hn,htk.out _ (hgp.out a ha),rfl,rfl⟩ hk (m.below (fun k e=>(ah.thing hCt (hK 0)).ge h0 e) hBW);refine ⟨fn,tmps,assign,body,hy,hR.mono ?_⟩;rintro e W' (⟨he,T',k,n⟩ | ⟨he,T',k,n⟩)
  ·obtain ⟨U,ku,nu⟩:=back _ _ _ k n;exact .inl ⟨he,U,ku,m.trans nu⟩
  ·obtain ⟨U,ku,nu⟩:=back _ _ _ k n;exact .inr ⟨he,U,ku,m.trans nu⟩
 ·rintro e W' ⟨hv,(⟨a,ha,hn,S',h,m⟩ | ⟨S',h,m⟩)⟩
  ·exact ⟨hv,.inl ⟨a,S',⟨ha,hn⟩,h,m⟩⟩
  ·exact ⟨hv,.inr ⟨S',h,m⟩⟩
theorem jF (s:ByteArray) (a:Nat):(s.extract a s.size).data.toList=s.data.toList.drop a:=by
 rw [Zg,YV];have e:s.data.toList.length=s.size:=aP s;simp only [List.extract, <-e];rw [Zy (by simp)]
theorem Fo (l:List UInt8):xG l<=l.length:=by
 have:=congrArg List.length (List.takeWhile_append_dropWhile (p:=cj) (l:=l));rw [ZY] at this;unfold xG;omega
theorem wH:∀ (l:List UInt8) (n:Nat),ey l=some n->n<=l.length
 | [],n,h=>by simp [ey] at h
 | [c],n,h=>by
  simp only [ey] at h;split at h
  ·cases h;simp
  ·cases h
 | c::d::r,n,h=>by
  simp only [ey] at h;split at h
  ·cases h;simp
  ·split at h
   ·obtain ⟨m,hm,rfl⟩:=Option.map_eq_some_iff.1 h;have:=wH r m hm;simp;omega
   ·obtain ⟨m,hm,rfl⟩:=Option.map_eq_some_iff.1 h;have:=wH (d::r) m hm;simp at this ⊢;omega
theorem ra (q:List UInt8):∀ l:List UInt8,Lib.indexAny l q<=l.length
 | []=>by simp [Lib.indexAny]
 | b::l=>by
  have:=ra q l;unfold Lib.indexAny;split
  ·simp;omega
  ·split <;> simp <;> omega
theorem FU (l:List UInt8):ny l<=l.length:=by
 cases l with
 | nil=>simp [ny]
 | cons c r=>
  show (if c.toNat=40 then yX (ey r) else if c.toNat=91\/c.toNat=93 then 1 else if 0<=Lib.indexAny (c::r) j3 then (Lib.indexAny (c::r) j3).toNat else r.length+1)<=r.length+1
  have h1:=ra j3 (c::r);have h2:yX (ey r)<=r.length+1:=by
   unfold yX
   cases e:ey r with
   | none=>simp
   | some n=>have:=wH r n e;simp;omega
  simp only [ZX] at h1;split
  ·exact h2
  ·split
   ·omega
   ·split <;> omega
def nL (s:ByteArray) (a:Nat):Nat:=xG (s.data.toList.drop a)
def tD (s:ByteArray) (a:Nat):Nat:=ny (s.data.toList.drop a)
theorem Es (B b:Nat) (s:ByteArray) (hs:s.size<=2000000000):
  tO Fence.wide prog 256 #[zp b] B (aS B b [.string s]) (fun _=>True) 0 (fun a=>fa (s.data.toList.drop (a+nL s a))) (wL s (nL s) (tD s)) (fun a=>a<=s.size/\tD s (a+nL s a)=0):=by
 have hsz:∀ a,(s.extract a s.size).size<=2000000000:=fun a=>by rw [<-aP,jF,Za,aP];omega
 refine FE Fence.wide rfl (fun _=>trivial) rfl B b s hs (nL s) (tD s) (fun a=>fa (s.data.toList.drop a)) ?_ ?_ ?_ ?_
 ·intro a ha;have:=Fo (s.data.toList.drop a);rw [Za,aP] at this;unfold nL;omega
 ·intro a ha;have:=FU (s.data.toList.drop a);rw [Za,aP] at this;unfold tD;omega
 ·intro a W ha;have:=callsIn_wide (n:=0) |>.2 (t7 W (s.extract a s.size) (hsz a));rw [jF] at this;exact this
 ·intro a W ha hp;have:=callsIn_wide (n:=0) |>.2 (rY W (s.extract a s.size) (hsz a) (by rw [jF];exact hp));rw [jF] at this;exact this
end
section
open Go.RowKit Go.Shelf
attribute [local go_sem] Oper.semAt_some
def j8 (s:ByteArray) (gp tk:Nat->Nat) (key:ByteArray):Nat->Nat->Bool->Nat->ByteArray
 | 0,_,_,_=>⟨#[]⟩
 | f+1,a,found,k=>
  if tk (a+gp a)=0 then ⟨#[]⟩
  else if found=false then j8 s gp tk key f (a+gp a+tk (a+gp a)) ((s.extract (a+gp a) (a+gp a+tk (a+gp a))).toList==key.toList) k
  else if k=0 then s.extract (a+gp a) (a+gp a+tk (a+gp a))
  else j8 s gp tk key f (a+gp a+tk (a+gp a)) true (k - 1)
theorem B5 (s key:ByteArray) (k0:Nat) (w:World) (hk0:k0<=100) (gp tk:Nat->Nat) (V:Nat->Prop) (HV0:Hid (∀ a,V a))
  (HO:Hid (∀ W,CP 223 #[s] W fun e W'=>e=.returned (.func (.func 256) #[] #[zp W.heap.size])/\W'=W.alloc (.cells #[s] 9)))
  (HQ:Hid (∀ B b,tO Fence.wide prog 256 #[zp b] B (aS B b [.string s]) (fun _=>True) 0 V (wL s gp tk) (fun a=>a<=s.size/\tk (a+gp a)=0))):
  QB 189 #[s,key,(k0:Int)] w (.string (j8 s gp tk key (s.size+1) 0 false k0)):=by
 obtain ⟨R,hR⟩:∃ R,j8 s gp tk key (s.size+1) 0 false k0=R:=⟨_,rfl⟩;rw [hR];have HR:=ai hR;clear hR;refine (callsIn_wide (n:=0)).1 ?_;refine callsIn_of_wp_marks func189 rfl trivial ?_ rfl;simp only [ntmps189,List.size_toArray,ZX,ZR,Nat.reduceAdd,Nat.reduceSub,Array.replicate_succ,Array.replicate_zero,List.push_toArray,List.append_toArray,Zq,ZE]
 gi_wp2
 refine ⟨trivial,rfl,(callsIn_wide.2 (HO.out _)).mono ?_⟩;rintro e W' ⟨rfl,rfl⟩;obtain ⟨n,hn⟩:∃ n,w.heap.size=n:=⟨_,rfl⟩;obtain ⟨S1,b1⟩:=(Bx.nil w.heap.size w (ZW _)).snoc [.string key] 9 (by simp);obtain ⟨S2,b2⟩:=b1.snoc [.int .i64 (k0:Int)] 3 (by simp);obtain ⟨S3,b3⟩:=b2.snoc [.string ⟨#[]⟩] 9 (by simp);obtain ⟨S4,b4⟩:=b3.snoc [.bool false] 4 (by simp);have hC:=aS.alloc (B:=w.heap.size) (vs:=[.string s]) (w:=(((w.alloc (Obj.cells #[Value.string key] 9)).alloc (Obj.cells #[Value.int IntKind.i64 k0] 3)).alloc (Obj.cells #[Value.string ⟨#[]⟩] 9)).alloc (Obj.cells #[Value.bool false] 4)) (t:=9) (by simp;omega);obtain ⟨st,ms⟩:=ah.new (Bx.thing w.heap.size _ _) b4 hC ((ZT _ _).alloc (ZW _) _) (fun k e=>Nat.le_of_eq (Eq.symm e));have hsz:((((w.alloc (Obj.cells #[Value.string key] 9)).alloc (Obj.cells #[Value.int IntKind.i64 k0] 3)).alloc (Obj.cells #[Value.string ⟨#[]⟩] 9)).alloc (Obj.cells #[Value.bool false] 4)).heap.size=n+1+1+1+1:=by simp [hn]
 rw [hsz] at st;rw [hn] at st;simp only [Zq,ZE] at st;have hbel:Below n w (((((w.alloc (Obj.cells #[Value.string key] 9)).alloc (Obj.cells #[Value.int IntKind.i64 k0] 3)).alloc (Obj.cells #[Value.string ⟨#[]⟩] 9)).alloc (Obj.cells #[Value.bool false] 4)).alloc (Obj.cells #[Value.string s] 9)):=by
  rw [<-hn];exact (((((ZT _ w).alloc (ZW _) _).alloc (by simp) _).alloc (by simp;omega) _).alloc (by simp;omega) _).alloc (by simp;omega) _
 have hwb:n<=(((((w.alloc (Obj.cells #[Value.string key] 9)).alloc (Obj.cells #[Value.int IntKind.i64 k0] 3)).alloc (Obj.cells #[Value.string ⟨#[]⟩] 9)).alloc (Obj.cells #[Value.bool false] 4)).alloc (Obj.cells #[Value.string s] 9)).heap.size:=by simp;omega
 clear hsz b1 b2 b3 b4 hC ms
 gi_wp2
 obtain ⟨W1,hW1⟩:∃ W1,(((((w.alloc (Obj.cells #[Value.string key] 9)).alloc (Obj.cells #[Value.int IntKind.i64 k0] 3)).alloc (Obj.cells #[Value.string ⟨#[]⟩] 9)).alloc (Obj.cells #[Value.bool false] 4)).alloc (Obj.cells #[Value.string s] 9))=W1:=⟨_,rfl⟩;rw [hW1] at st hbel hwb ⊢;clear hW1;have hge:=fun k=>(ah.thing (aS.thing n (n+1+1+1+1) [.string s]) (Bx.thing n n [[.string key],[.int .i64 (k0:Int)],[.string ⟨#[]⟩],[.bool false]])).ge (k:=k) st
 refine ot (B:=n) rfl (fun _=>trivial) rfl rfl (enters_of func256 (by kernel_rfl) rfl) (HQ.out _ _) (fun _ _=>trivial) (aS.thing _ _ _) ?hps
  (fun a W S=>∃ (c:Bool×Nat×Nat),(s.size - a < c.2.2/\c.2.1<=100/\Hid (R=j8 s gp tk key c.2.2 a c.1 c.2.1))/\Bx n n [[.string key],[.int .i64 (c.2.1:Int)],[.string ⟨#[]⟩],[.bool c.1]] W S)
  (fun j W S=>∃ (c:Bool×Nat),j=.ret/\Bx n n [[.string key],[.int .i64 (c.2:Int)],[.string R],[.bool c.1]] W S) ?hI ?hIx (fun a _ _ _=>HV0.out a) hwb (ah.mapR st fun W S h=>⟨(false,k0,s.size+1),⟨by dsimp only;omega,hk0,HR.out.symm⟩,h⟩) ?round ?done ?stop
 case hps=>
  rintro a args a' ⟨_,_,_,_,rfl⟩;rfl
 case hI=>exact fun a=>aJ.any fun c=>aJ.pure (Bx.thing _ _ _)
 case hIx=>exact fun j=>aJ.any fun c=>aJ.pure (Bx.thing _ _ _)
 case round=>
  rintro l a args a' W0 ⟨ha,h0,hle,rfl,rfl⟩
  gi_wp2
  refine ⟨trivial,?_⟩
  ·rintro W S ⟨⟨found,k,f⟩,⟨hf,hk,HV⟩,hb⟩ _;dsimp only at hf hk HV hb;have c0:W.cell? n=key:=hb.at 0 0 _ _ rfl rfl;have c1:W.cell? (zp (n+1))=(k:Int):=hb.at 1 0 _ _ rfl rfl;have c2:W.cell? (zp (n+1+1))=some (.string ⟨#[]⟩):=hb.at 2 0 _ _ rfl rfl;have c3:W.cell? (zp (n+1+1+1))=found:=hb.at 3 0 _ _ rfl rfl;have f1:W.frozen? (zp (n+1))=false:=hb.fz 1 0 (by simp);have f2:W.frozen? (zp (n+1+1))=false:=hb.fz 2 0 (by simp);have f3:W.frozen? (zp (n+1+1+1))=false:=hb.fz 3 0 (by simp)
   cases f with
   | zero=>exact absurd hf (by omega)
   | succ f=>
    obtain ⟨t,ht⟩:∃ t,s.extract (a+gp a) (a+gp a+tk (a+gp a))=t:=⟨_,rfl⟩;have HS:Hid (s.size - (a+gp a+tk (a+gp a)) < f):=by show _ < _;omega
    have hv:=HV.out;rw [j8,ZO h0,ht] at hv;rw [ht]
    cases found with
    | false=>
     rw [ZN rfl] at hv;have HV':=ai hv;clear hv HV
     gi_wp2
     obtain ⟨b',m'⟩:=hb.set 3 0 _ (.bool (t.toList==key.toList)) rfl (by simp);exact ⟨_,⟨(t.toList==key.toList,k,f),⟨HS.out,hk,HV'.out⟩,b'⟩,m'⟩
    | true=>
     rw [ZO (by decide)] at hv
     cases k with
     | zero=>
      rw [ZN rfl] at hv;have HV':=ai hv;clear hv HV
      gi_wp2
      obtain ⟨b',m'⟩:=hb.set 2 0 _ (.string t) rfl (by simp);exact ⟨_,⟨(true,0),rfl,by rw [HV'.out];exact b'⟩,m'⟩
     | succ k=>
      rw [ZO (by omega),Nat.add_sub_cancel] at hv;have HV':=ai hv;clear hv HV;have d:(((k+1:Nat):Int)==0)=false:=by simp;omega
      gi_wp2
      obtain ⟨b',m'⟩:=hb.set 1 0 _ (.int .i64 (k:Int)) rfl (by simp);exact ⟨_,⟨(true,k,f),⟨HS.out,by dsimp only;omega,HV'.out⟩,b'⟩,m'⟩
 case done=>
  rintro D a W S' ⟨ha,hn0⟩ hs hm;obtain ⟨T1,k1,_,back1⟩:=ah.fst (Ob.thing _ _ _) hs;obtain ⟨T3,k3,_,back3⟩:=ah.snd (ah.thing (aS.thing _ _ _) (aJ.any fun c=>aJ.pure (Bx.thing _ _ _))) hs;have hK:=k3.2.2;obtain ⟨T2,k2,_,back2⟩:=ah.snd (aS.thing _ _ _) k1;obtain ⟨⟨found,k,f⟩,⟨hf,hk,HV⟩,hb⟩:=k2;dsimp only at hf hk HV hb;have hRe:R=⟨#[]⟩:=by
   cases f with
   | zero=>exact absurd hf (by omega)
   | succ f=>rw [HV.out,j8,ZN hn0]
  subst hRe;have c2:W.cell? (zp (n+1+1))=some (.string ⟨#[]⟩):=hb.at 2 0 _ _ rfl rfl;have f2:W.frozen? (zp (n+1+1))=false:=hb.fz 2 0 (by simp);clear HV HR
  gi_wp2
  obtain ⟨b',m'⟩:=hb.set 2 0 _ (.string ⟨#[]⟩) rfl (by simp);obtain ⟨U1,u1,n1⟩:=back2 (Bx n n _) _ _ b' m';obtain ⟨U2,u2,n2⟩:=back1 _ _ _ u1 n1;obtain ⟨T5,k5,_,back5⟩:=ah.snd (ah.thing (aS.thing _ _ _) (Bx.thing _ _ _)) u2;obtain ⟨p6,m6⟩:=k5.put (.deferred none);obtain ⟨T7,k7,m7⟩:=back5 _ _ _ p6 m6;obtain ⟨T8,k8,_,_⟩:=ah.fst (Ob.thing _ _ _) k7;obtain ⟨T9,k9,_,_⟩:=ah.snd (aS.thing _ _ _) k8;have hc5:((W.setCell (zp (n+1+1)) (.string ⟨#[]⟩)).putObj D (.deferred none)).cell? (zp (n+1+1))=some (.string ⟨#[]⟩):=k9.at 2 0 _ _ rfl rfl;refine ⟨by simp,.inl ⟨_,_,rfl,run_takeDeferred k5.2.2,?_⟩⟩;refine ⟨.string ⟨#[]⟩,?_,rfl,?_⟩
  ·simp [results,f189,go_sem,hc5]
  ·rw [hn];exact hbel.trans ((((hm.trans n2).trans m7).below hge hwb).mono (ZW _))
 case stop=>
  rintro D c W S' hs hm;obtain ⟨T1,k1,_,back1⟩:=ah.fst (Ob.thing _ _ _) hs;obtain ⟨T3,k3,_,back3⟩:=ah.snd (ah.thing (aS.thing _ _ _) (aJ.any fun c=>aJ.pure (Bx.thing _ _ _))) hs;have hK:=k3.2.2;obtain ⟨T2,k2,_,back2⟩:=ah.snd (aS.thing _ _ _) k1;obtain ⟨⟨found,k⟩,rfl,hb⟩:=k2;dsimp only at hb;have c2:W.cell? (zp (n+1+1))=R:=hb.at 2 0 _ _ rfl rfl;clear HR
  gi_wp2
  obtain ⟨p6,m6⟩:=k3.put (.deferred none);obtain ⟨T7,k7,m7⟩:=back3 _ _ _ p6 m6;obtain ⟨T8,k8,_,_⟩:=ah.fst (Ob.thing _ _ _) k7;obtain ⟨T9,⟨_,_,k9⟩,_,_⟩:=ah.snd (aS.thing _ _ _) k8;have hc5:(W.putObj D (.deferred none)).cell? (zp (n+1+1))=R:=k9.at 2 0 _ _ rfl rfl;refine ⟨by simp,.inl ⟨_,_,rfl,run_takeDeferred hK,?_⟩⟩;refine ⟨.string R,?_,rfl,?_⟩
  ·simp [results,f189,go_sem,hc5]
  ·exact hbel.trans (((hm.trans m7).below hge hwb).mono (ZW _))
theorem Er (s:ByteArray) (w:World):
  CP 223 #[s] w fun e W'=>e=.returned (.func (.func 256) #[] #[zp w.heap.size])/\W'=w.alloc (.cells #[s] 9):=by
 have hmf:∀ (fn:Fn) (first cap:Array Value) (w:World),(Instr.makeFunc fn first cap).run prog w=.ok (.func fn first cap) w:=fun _ _ _ _=>rfl
 go_enter func223,ntmps223
 go_wp2;go_ret;exact ⟨rfl,rfl⟩
def j9 (s key:ByteArray) (k:Nat):ByteArray:=j8 s (nL s) (tD s) key (s.size+1) 0 false k
theorem ex (s key:ByteArray) (k:Nat) (w:World) (hs:s.size<=2000000000) (hk:k<=100) (hp:∀ a,fa (s.data.toList.drop a)):
  QB 189 #[s,key,(k:Int)] w (.string (j9 s key k)):=
 B5 s key k w hk (nL s) (tD s) _ (fun a=>hp _) (fun W=>Er s W) (fun B b=>Es B b s hs)
end
section
open Go.RowKit Go.Shelf
attribute [local go_sem] Oper.semAt_some
def i8 (s:ByteArray) (a:Nat):ByteArray:=s.extract (a+nL s a) (a+nL s a+tD s (a+nL s a))
def gR (s:ByteArray) (a:Nat):Nat:=a+nL s a+tD s (a+nL s a)
structure B7 (s:ByteArray) (a:Nat):Prop where
 pl:fa (s.data.toList.drop (a+nL s a))
 ne:tD s (a+nL s a)≠0
abbrev rZ:=List Int×Nat×List UInt8
inductive E5 (s:ByteArray) (Nx:Nat->rZ->rZ->Prop) (Fin:Nat->rZ->TypeId->Value->Prop):Nat->rZ->TypeId->Value->Prop
 | step {a:Nat} {st st':rZ} {t:TypeId} {v:Value}:B7 s a->Nx a st st'->E5 s Nx Fin (gR s a) st' t v->E5 s Nx Fin a st t v
 | fin {a:Nat} {st:rZ} {t:TypeId} {v:Value}:B7 s a->Fin a st t v->E5 s Nx Fin a st t v
theorem E5.ok {s:ByteArray} {Nx:Nat->rZ->rZ->Prop} {Fin:Nat->rZ->TypeId->Value->Prop} {a:Nat} {st:rZ} {t:TypeId} {v:Value} (h:E5 s Nx Fin a st t v):B7 s a:=by
 cases h with
 | step h _ _=>exact h
 | fin h _=>exact h
theorem Ag (s:ByteArray) (w:World) (hs:s.size<=2000000000) (T:TypeId) (V:Value) (Nx:Nat->rZ->rZ->Prop) (Fin:Nat->rZ->TypeId->Value->Prop)
  (HD:Hid (E5 s Nx Fin 0 ([0,0,0,0,0,0,0,0,0],0,[]) T V))
  (HE1:Hid (∀ (a:Nat) (st st':rZ) (W:World) (b:Nat) (S:Bl),Nx a st st'->Below w w W->js w.heap.size b st.1 st.2.1 st.2.2 W S->CP 298 #[zp b,.string (i8 s a),.string (s.extract (gR s a) s.size)] W fun e W'=>e=.returned .nilIface/\Below W W W'))
  (HT:Hid (∀ (a:Nat) (st st':rZ) (W:World) (b:Nat) (S:Bl),Nx a st st'->Below w w W->js w.heap.size b st.1 st.2.1 st.2.2 W S->CP 299 #[zp b,.string (i8 s a)] W fun e W'=>e=.returned true/\js w.heap.size b st'.1 st'.2.1 st'.2.2 W' S/\Mv S W S W'))
  (HE2:Hid (∀ (a:Nat) (st:rZ) (W:World) (b:Nat) (S:Bl),Fin a st T V->Below w w W->js w.heap.size b st.1 st.2.1 st.2.2 W S->CP 298 #[zp b,.string (i8 s a),.string (s.extract (gR s a) s.size)] W fun e W'=>e=.returned (.iface T V)/\Below W W W')):
  QB 264 #[s] w (.iface T V):=by
 have HO:=ai (Er s);have HQ:=ai (fun B b=>Es B b s hs);refine (callsIn_wide (n:=0)).1 ?_;refine callsIn_of_wp_marks func264 rfl trivial ?_ rfl;simp only [ntmps264,List.size_toArray,ZX,ZR,Nat.reduceAdd,Nat.reduceSub,Array.replicate_succ,Array.replicate_zero,List.push_toArray,List.append_toArray,Zq,ZE]
 gi_wp2
 refine ⟨trivial,rfl,(callsIn_wide.2 (HO.out _)).mono ?_⟩;rintro e W' ⟨rfl,rfl⟩;obtain ⟨n,hn⟩:∃ n,w.heap.size=n:=⟨_,rfl⟩;rw [hn] at HE1 HT HE2;obtain ⟨wa,hwa⟩:∃ wa,(w.alloc (Obj.cells #[Value.string s] 9)).alloc (Obj.cells #[Value.nilIface] 138)=wa:=⟨_,rfl⟩;obtain ⟨wb,hwb⟩:∃ wb,wa.alloc (Obj.cells #[Value.int IntKind.i64 0,Value.int IntKind.i64 0,Value.int IntKind.i64 0,Value.int IntKind.i64 0,Value.int IntKind.i64 0,Value.int IntKind.i64 0,Value.int IntKind.i64 0,Value.int IntKind.i64 0,Value.int IntKind.i64 0,Value.int IntKind.i64 0,Value.string ⟨#[]⟩] 324)=wb:=⟨_,rfl⟩;obtain ⟨S1,b1⟩:=(Bx.nil w.heap.size w (ZW _)).snoc [.string s] 9 (by simp);obtain ⟨S2,b2⟩:=b1.snoc [.nilIface] 138 (by simp);have hza:wa.heap.size=n+2:=by rw [<-hwa];simp [hn]
 have hzb:wb.heap.size=n+3:=by rw [<-hwb];simp [hza]
 have ba:Below n w wa:=by rw [<-hwa, <-hn];exact ((ZT _ w).alloc (ZW _) _).alloc (by simp) _
 have bb:Below n w wb:=by rw [<-hwb];exact ba.alloc (by omega) _
 rw [hn] at b2;have b2':Bx n n [[.string s],[.nilIface]] wa S2:=by rw [<-hwa];exact b2
 have hO:js n (n+2) [0,0,0,0,0,0,0,0,0] 0 [] wb (cC (n+2)):=by
  have:=aS.alloc (B:=n) (vs:=[Value.int IntKind.i64 0,Value.int IntKind.i64 0,Value.int IntKind.i64 0,Value.int IntKind.i64 0,Value.int IntKind.i64 0,Value.int IntKind.i64 0,Value.int IntKind.i64 0,Value.int IntKind.i64 0,Value.int IntKind.i64 0,Value.int IntKind.i64 0,Value.string ⟨#[]⟩]) (w:=wa) (t:=324) (by omega);rw [hza] at this;rw [<-hwb];exact this
 have hwab:Below wa wa wb:=by rw [<-hwb];exact (ZT _ wa).alloc (ZW _) _
 obtain ⟨st1,_⟩:=ah.new (Bx.thing n _ _) b2' hO hwab (fun k e=>by have e':k=n+2:=e;omega);have hCs:=aS.alloc (B:=n) (vs:=[.string s]) (w:=wb) (t:=9) (by omega);rw [hzb] at hCs;obtain ⟨st2,_⟩:=ah.new (ah.thing (js.thing _ _ _ _ _) (Bx.thing _ _ _)) st1 hCs ((ZT _ wb).alloc (ZW _) _) (fun k e=>by have e':k=n+3:=e;omega);clear b1 b2 b2' hO hCs;obtain ⟨W1,hW1⟩:∃ W1,wb.alloc (Obj.cells #[Value.string s] 9)=W1:=⟨_,rfl⟩;have st2':ah (aS n (n+3) [.string s]) (ah (js n (n+2) [0,0,0,0,0,0,0,0,0] 0 []) (Bx n n [[.string s],[.nilIface]])) W1 (cT (cC (n+3)) (cT (cC (n+2)) S2)):=by rw [<-hW1];exact st2
 have hbel:Below n w W1:=by rw [<-hW1];exact bb.alloc (by omega) _
 have hwb1:n<=W1.heap.size:=by rw [<-hW1];simp [hzb];omega
 rw [hwa,hwb,hW1];clear hwa hwb hW1 st1 st2 hza ba bb hwab
 gi_wp2
 have hge:=fun k=>(ah.thing (aS.thing n (n+3) [.string s]) (ah.thing (js.thing n (n+2) [0,0,0,0,0,0,0,0,0] 0 []) (Bx.thing n n [[.string s],[.nilIface]]))).ge (k:=k) st2'
 refine ot (B:=n) rfl (fun _=>trivial) rfl rfl (enters_of func256 (by kernel_rfl) rfl) (HQ.out _ _) (fun _ _=>trivial) (aS.thing _ _ _) ?hps
  (fun a W S=>∃ st:rZ,E5 s Nx Fin a st T V/\ah (js n (n+2) st.1 st.2.1 st.2.2) (Bx n n [[.string s],[.nilIface]]) W S)
  (fun j W S=>∃ st:rZ,j=.ret/\ah (js n (n+2) st.1 st.2.1 st.2.2) (Bx n n [[.string s],[.iface T V]]) W S) ?hI ?hIx (fun a W S ⟨st,hr,_⟩=>hr.ok.pl) hwb1 (ah.mapR st2' fun W S h=>⟨_,HD.out,h⟩) ?round ?done ?stop
 case hps=>
  rintro a args a' ⟨_,_,_,_,rfl⟩;rfl
 case hI=>exact fun a=>aJ.any fun c=>aJ.pure (ah.thing (js.thing _ _ _ _ _) (Bx.thing _ _ _))
 case hIx=>exact fun j=>aJ.any fun c=>aJ.pure (ah.thing (js.thing _ _ _ _ _) (Bx.thing _ _ _))
 case round=>
  rintro l a args a' W0 ⟨ha,h0,hle,rfl,rfl⟩
  gi_wp2
  refine ⟨trivial,?_⟩;rintro W S ⟨st,hr,hst⟩ hbw';have hbw:Below n w W:=hbel.trans hbw';have HR:=ai hr;obtain ⟨SO,kO,_,backO⟩:=ah.fst (Bx.thing n n [[.string s],[.nilIface]]) hst;obtain ⟨SB,kB,_,backB⟩:=ah.snd (js.thing n (n+2) st.1 st.2.1 st.2.2) hst;have c0:W.cell? n=s:=kB.at 0 0 _ _ rfl rfl;have hi1:(a:Int)+(nL s a:Int)+(tD s (a+nL s a):Int)=(gR s a:Nat):=by unfold gR;omega
  have hi2:gR s a<=s.size:=hle;have ht:s.extract (a+nL s a) (a+nL s a+tD s (a+nL s a))=i8 s a:=rfl;rw [hi1,ht];clear hi1 ht hr
  cases HR.out with
  | step hok hn hrest=>
   gi_wp2
   refine ⟨trivial,rfl,(CallsIn.inRound l (callsIn_wide.2 (HE1.out a st _ W (n+2) SO hn hbw kO))).mono ?_⟩;rintro e w1 ⟨rfl,hb1⟩;have k1:=(js.thing _ _ _ _ _).grow kO hb1;obtain ⟨S3,hst1,m1⟩:=backO _ _ _ k1 (Mv.grow hb1 SO)
   gi_wp2
   obtain ⟨SO1,kO1,_,backO1⟩:=ah.fst (Bx.thing n n [[.string s],[.nilIface]]) hst1;refine ⟨trivial,rfl,(CallsIn.inRound l (callsIn_wide.2 (HT.out a st _ w1 (n+2) SO1 hn (hbw.trans (hb1.mono (ZU (by omega) hbw.size))) kO1))).mono ?_⟩;rintro e w2 ⟨rfl,k2,m2⟩;obtain ⟨S4,hst2,m3⟩:=backO1 _ _ _ k2 m2
   gi_wp2
   exact ⟨S4,⟨_,hrest,hst2⟩,m1.trans m3⟩
  | fin hok hf=>
   gi_wp2
   refine ⟨trivial,rfl,(CallsIn.inRound l (callsIn_wide.2 (HE2.out a st W (n+2) SO hf hbw kO))).mono ?_⟩;rintro e w1 ⟨rfl,hb1⟩;have k1:=(js.thing _ _ _ _ _).grow kO hb1;obtain ⟨S3,hst1,m1⟩:=backO _ _ _ k1 (Mv.grow hb1 SO);obtain ⟨SB1,kB1,_,backB1⟩:=ah.snd (js.thing n (n+2) st.1 st.2.1 st.2.2) hst1;have c1:w1.cell? (zp (n+1))=some .nilIface:=kB1.at 1 0 _ _ rfl rfl;have f1:w1.frozen? (zp (n+1))=false:=kB1.fz 1 0 (by simp)
   gi_wp2
   obtain ⟨b',m'⟩:=kB1.set 1 0 _ (.iface T V) rfl (by simp);obtain ⟨S4,hst2,m3⟩:=backB1 _ _ _ b' m';exact ⟨S4,⟨_,rfl,hst2⟩,m1.trans m3⟩
 case done=>
  rintro D a W S' ⟨ha,hn0⟩ hs' hm;obtain ⟨T1,k1,_,_⟩:=ah.fst (Ob.thing _ _ _) hs';obtain ⟨T2,⟨st,hr,_⟩,_,_⟩:=ah.snd (aS.thing _ _ _) k1;exact absurd hn0 hr.ok.ne
 case stop=>
  rintro D c W S' hs' hm;obtain ⟨T1,k1,_,back1⟩:=ah.fst (Ob.thing _ _ _) hs';obtain ⟨T3,k3,_,back3⟩:=ah.snd (ah.thing (aS.thing _ _ _) (aJ.any fun c=>aJ.pure (ah.thing (js.thing _ _ _ _ _) (Bx.thing _ _ _)))) hs';have hK:=k3.2.2;obtain ⟨T2,k2,_,back2⟩:=ah.snd (aS.thing _ _ _) k1;obtain ⟨st,rfl,hst⟩:=k2
  gi_wp2
  obtain ⟨p6,m6⟩:=k3.put (.deferred none);obtain ⟨T7,k7,m7⟩:=back3 _ _ _ p6 m6;obtain ⟨T8,k8,_,_⟩:=ah.fst (Ob.thing _ _ _) k7;obtain ⟨T9,⟨_,_,k9⟩,_,_⟩:=ah.snd (aS.thing _ _ _) k8;obtain ⟨TB,kB,_,_⟩:=ah.snd (js.thing _ _ _ _ _) k9;have hc5:(W.putObj D (.deferred none)).cell? (zp (n+1))=some (.iface T V):=kB.at 1 0 _ _ rfl rfl;refine ⟨by simp,.inl ⟨_,_,rfl,run_takeDeferred hK,?_⟩⟩;refine ⟨.iface T V,?_,rfl,?_⟩
  ·simp [results,f264,go_sem,hc5]
  ·exact hbel.trans (((hm.trans m7).below hge hwb1).mono (ZW _))
end
theorem xI:∀ (g l:List UInt8),(∀ c∈g,cj c=true)->(∀ c r,l=c::r->cj c=false)->xG (g++l)=g.length
 | [],l,_,h=>by
  cases l with
  | nil=>rfl
  | cons c r=>
   show ((c::r).takeWhile cj).length=0
   rw [List.takeWhile_cons_of_neg (by rw [h c r rfl];decide)];rfl
 | c::g,l,hg,h=>by
  have ih:=xI g l (fun x hx=>hg x (List.mem_cons_of_mem _ hx)) h;show ((c::(g++l)).takeWhile cj).length=g.length+1
  rw [List.takeWhile_cons_of_pos (hg c (ZB _)),ZX];exact congrArg (·+1) ih
def cV (c:UInt8):Bool:=!(j3.contains c)
theorem o8:∀ (t r:List UInt8),(∀ c∈t,cV c=true)->(∀ c q,r=c::q->cV c=false)->Lib.indexAny (t++r) j3=if r=[] then -1 else (t.length:Int)
 | [],r,_,h=>by
  cases r with
  | nil=>rfl
  | cons c q=>
   have hc:=h c q rfl;have hc':j3.contains c=true:=by unfold cV at hc;simpa using hc
   show Lib.indexAny (c::q) j3=_
   unfold Lib.indexAny;rw [ZN hc',ZO (by simp)];rfl
 | x::t,r,ht,h=>by
  have ih:=o8 t r (fun c hc=>ht c (List.mem_cons_of_mem _ hc)) h;have hx:=ht x (ZB _);have hx':¬ (j3.contains x=true):=by unfold cV at hx;simpa using hx
  show Lib.indexAny (x::(t++r)) j3=_
  unfold Lib.indexAny;rw [ZO hx',ih];by_cases hr:r=[]
  ·rw [ZN hr,ZN (by decide),ZN hr]
  ·rw [ZO hr,ZO (by simp),ZO hr];simp
theorem j5 {c:UInt8} (h:cV c=true):c.toNat≠40/\c.toNat≠91/\c.toNat≠93/\cj c=false:=by
 have hh:¬ c∈j3:=by unfold cV at h;simpa using h
 simp only [j3,Zk,YQ,or_false,not_or] at hh;obtain ⟨h1,h2,h3,h4,h5⟩:=hh;have ne:∀ d:UInt8,c≠d->c.toNat≠d.toNat:=fun d hd e=>hd (UInt8.toNat_inj.1 e)
 refine ⟨ne 40 h5,ne 91 h3,ne 93 h4,?_⟩;unfold cj;simp [h1,h2]
theorem vy (t r:List UInt8) (h0:t≠[]) (ht:∀ c∈t,cV c=true) (hr:∀ c q,r=c::q->cV c=false):ny (t++r)=t.length:=by
 cases t with
 | nil=>exact absurd rfl h0
 | cons x t=>
  obtain ⟨h40,h91,h93,_⟩:=j5 (ht x (ZB _));have hi:=o8 (x::t) r ht hr;show (if x.toNat=40 then yX (ey (t++r)) else if x.toNat=91\/x.toNat=93 then 1 else if 0<=Lib.indexAny (x::(t++r)) j3 then (Lib.indexAny (x::(t++r)) j3).toNat else (t++r).length+1)=_
  rw [ZO h40,ZO (by rintro (e | e);exact h91 e;exact h93 e)];rw [<-ZE,hi];by_cases hr0:r=[]
  ·rw [ZN hr0,ZO (by decide),hr0,YZ];rfl
  ·rw [ZO hr0,ZN (by omega)];rfl
theorem yW:∀ (l r:List UInt8),ey (bH l++41::r)=some ((bH l).length+1)
 | [],r=>by
  cases r with
  | nil=>rfl
  | cons d q=>rfl
 | c::l,r=>by
  have ih:=yW l r;obtain ⟨m,hm⟩:∃ m,bH l++41::r=m:=⟨_,rfl⟩;have hne:m≠[]:=by rw [<-hm];simp
  rw [hm] at ih;show ey ((eS c++bH l)++41::r)=some ((eS c++bH l).length+1)
  rw [ZS,hm,ZY];have cC:∀ (x:UInt8) (q:List UInt8) (n:Nat),q≠[]->x.toNat≠41->x.toNat≠92->ey q=some n->ey (x::q)=some (n+1):=by
   intro x q n hq h1 h2 h
   cases q with
   | nil=>exact absurd rfl hq
   | cons d q=>simp [ey,h1,h2,h]
  have two:∀ (y:UInt8) (q:List UInt8) (n:Nat),ey q=some n->ey (92::y::q)=some (n+2):=by
   intro y q n h;simp [ey,h]
  have dig:∀ k:Nat,k < 10->(UInt8.ofNat (48+k)).toNat=48+k:=fun k hk=>by rw [YW];omega
  unfold eS;split
  ·have hc:=c.toNat_lt;have d2:=dig (c.toNat / 8 % 8) (by omega);have d3:=dig (c.toNat % 8) (by omega);have e3:=cC (UInt8.ofNat (48+c.toNat % 8)) m _ hne (by omega) (by omega) ih;have e2:=cC (UInt8.ofNat (48+c.toNat / 8 % 8)) _ _ (by simp) (by omega) (by omega) e3;have e1:=two (UInt8.ofNat (48+c.toNat / 64)) _ _ e2;simp only [ZE,Zq];rw [e1];simp only [ZX,ZR];congr 1;omega
  ·split
   ·have e1:=two c m _ ih;simp only [ZE,Zq];rw [e1];simp only [ZX,ZR];congr 1;omega
   ·next h1 h2=>
    have e1:=cC c m _ hne (by omega) (by omega) ih;simp only [ZE,Zq];rw [e1];simp only [ZX,ZR];congr 1;omega
theorem zc (l r:List UInt8):ny (bc l++r)=(bc l).length:=by
 unfold bc;show ny (40::(bH l++[41])++r)=_
 rw [ZE,ZS];have e:ny (40::(bH l++([41]++r)))=yX (ey (bH l++41::r)):=by
  rw [ny];exact ZN (by decide)
 rw [e,yW];show (bH l).length+1+1=_
 simp
theorem EX (c:UInt8) (r:List UInt8) (h:c.toNat=91\/c.toNat=93):ny (c::r)=1:=by
 show (if c.toNat=40 then _ else if c.toNat=91\/c.toNat=93 then 1 else _)=1
 rw [ZO (by omega),ZN h]
structure At (s:ByteArray) (a:Nat) (g t r:List UInt8):Prop where
 eq:s.data.toList.drop a=g++(t++r)
 gap:∀ c∈g,cj c=true
 hd:∀ c q,t++r=c::q->cj c=false
 len:ny (t++r)=t.length
 ne:t≠[]
variable {s:ByteArray} {a:Nat} {g t r:List UInt8}
theorem At.gp (h:At s a g t r):nL s a=g.length:=by unfold nL;rw [h.eq];exact xI g _ h.gap h.hd
theorem At.drop1 (h:At s a g t r):s.data.toList.drop (a+nL s a)=t++r:=by
 rw [h.gp, <-List.drop_drop,h.eq,List.drop_left]
theorem At.tk (h:At s a g t r):tD s (a+nL s a)=t.length:=by unfold tD;rw [h.drop1];exact h.len
theorem At.tkne (h:At s a g t r):tD s (a+nL s a)≠0:=by
 rw [h.tk];intro e;exact h.ne (Zp e)
theorem At.tok (h:At s a g t r):(i8 s a).data.toList=t:=by
 unfold i8;rw [Zg,YV];simp only [List.extract,Xv];rw [h.drop1,h.tk,List.take_left]
theorem At.nxt (h:At s a g t r):s.data.toList.drop (gR s a)=r:=by
 unfold gR;rw [h.tk, <-List.drop_drop,h.drop1,List.drop_left]
theorem At.behind (h:At s a g t r):(s.extract (gR s a) s.size).data.toList=r:=by rw [jF,h.nxt]
theorem At.okay (h:At s a g t r) (hp:fa (t++r)):B7 s a:=⟨by rw [h.drop1];exact hp,h.tkne⟩
theorem At.word (e:s.data.toList.drop a=g++(t++r)) (hg:∀ c∈g,cj c=true) (h0:t≠[]) (ht:∀ c∈t,cV c=true) (hr:∀ c q,r=c::q->cV c=false):At s a g t r:=by
 refine ⟨e,hg,?_,vy t r h0 ht hr,h0⟩;intro c q hq
 cases t with
 | nil=>exact absurd rfl h0
 | cons x t=>cases hq;exact (j5 (ht _ (ZB _))).2.2.2
theorem At.str {l:List UInt8} (e:s.data.toList.drop a=g++(bc l++r)) (hg:∀ c∈g,cj c=true):At s a g (bc l) r:=by
 refine ⟨e,hg,?_,zc l r,by simp [bc]⟩;intro c q hq;have:c=40:=by unfold bc at hq;simp at hq;exact hq.1.symm
 rw [this];decide
theorem Gw {l:List Int} (h:l.length=9):∃ n0 n1 n2 n3 n4 n5 n6 n7 n8,l=[n0,n1,n2,n3,n4,n5,n6,n7,n8]:=by
 match l,h with
 | [n0,n1,n2,n3,n4,n5,n6,n7,n8],_=>exact ⟨n0,n1,n2,n3,n4,n5,n6,n7,n8,rfl⟩
inductive Gp (s:ByteArray) (a:Nat):rZ->rZ->Prop
 | word {st:rZ} {c:UInt8} {q:List UInt8}:(i8 s a).data.toList=c::q->c.toNat≠40->c.toNat≠45->(c.toNat < 48\/57 < c.toNat)->c::q≠[69,84]->c::q≠[83]->c::q≠[102]->c::q≠[73,68]->st.1.length=9->Gp s a st st
 | nbr {ns:List Int} {k:Nat} {tx:List UInt8} {z:Int}:(i8 s a).data.toList=bJ z->-100000000<=z->z<=100000000->k < 9->ns.length=9->Gp s a (ns,k,tx) (ns.set k z,k+1,tx)
 | str {ns:List Int} {k:Nat} {tx l:List UInt8}:(i8 s a).data.toList=bc l->l.length<=100->ns.length=9->Gp s a (ns,k,tx) (ns,k,l)
inductive E3 (s:ByteArray) (a:Nat):rZ->TypeId->Value->Prop
 | text {n0 n1 n2 n3 n4 n5 n6 n7 n8:Int} {k:Nat} {tx:List UInt8}:(i8 s a).data.toList=[69,84]->E3 s a ([n0,n1,n2,n3,n4,n5,n6,n7,n8],k,tx) 215 (.agg #[n1,n2,n0,.string ⟨tx.toArray⟩])
 | line {n0 n1 n2 n3 n4 n5 n6 n7 n8:Int} {k:Nat} {tx:List UInt8}:(i8 s a).data.toList=[83]->E3 s a ([n0,n1,n2,n3,n4,n5,n6,n7,n8],k,tx) 217 (.agg #[n1,n2,n3,n4,n0])
 | rect {n0 n1 n2 n3 n4 n5 n6 n7 n8:Int} {k:Nat} {tx:List UInt8}:(i8 s a).data.toList=[102]->E3 s a ([n0,n1,n2,n3,n4,n5,n6,n7,n8],k,tx) 219 (.agg #[n1,n2,n3,n4,n0])
 | image {n0 n1 n2 n3 n4 n5 n6 n7 n8:Int} {k z:Nat} {tx:List UInt8}:(i8 s a).data.toList=[73,68]->0<=n6->n6<=100000000->0<=n7->n7<=100000000->n6 / 1000*(n7 / 1000)=(z:Int)->gR s a+1+z<=s.size->1<=n6 / 1000->n6 / 1000<=64->1<=n7 / 1000->n7 / 1000<=64->br (-14400000) [n4,n5]=true->br 1 [n0,n3]=true->
   E3 s a ([n0,n1,n2,n3,n4,n5,n6,n7,n8],k,tx) 135 (.agg #[n4,n5,n0,n3,(n6 / 1000:Int),(n7 / 1000:Int),.string ((s.extract (gR s a) s.size).extract 1 (1+z))])
theorem tF {t:ByteArray} {l:List UInt8} (h:t.data.toList=l):t=⟨l.toArray⟩:=Zd (Array.toList_inj.1 (by rw [h]))
theorem qE (z:Int):∃ c q,bJ z=c::q/\(c.toNat=45\/48<=c.toNat/\c.toNat<=57):=by
 unfold bJ;by_cases hz:z < 0
 ·rw [ZN hz];exact ⟨45,_,rfl,.inl rfl⟩
 ·rw [ZO hz,Zq,fy];have hpos:0 < (Lib.decDigits (z.natAbs / 1000)).length:=by rw [Lib.decDigits_length];exact Lib.nDigits_pos _
  cases hh:Lib.decDigits (z.natAbs / 1000) with
  | nil=>rw [hh] at hpos;simp at hpos
  | cons c r=>exact ⟨c,_,rfl,.inr (mV _ c (by rw [hh];exact ZB _))⟩
theorem vZ {t:ByteArray} {c:UInt8} {q:List UInt8} (h:t.data.toList=c::q):∃ h0:0 < t.size,t[0]=c:=by
 have hl:0 < t.size:=by rw [<-aP,h];simp
 refine ⟨hl,?_⟩;have e:t.data.toList[0]'(by rw [h];simp)=c:=by simp [h]
 exact e
theorem zj {t:ByteArray} {c:UInt8} {q:List UInt8} (h:t.data.toList=c::q) (hc:c.toNat < 60):(t.toList==[69,84])=false/\(t.toList==[83])=false/\(t.toList==[102])=false/\(t.toList==[73,68])=false:=by
 rw [Zm,h];refine ⟨?_,?_,?_,?_⟩ <;>
 ·simp;intro e;rw [e] at hc;exact absurd hc (by decide)
theorem oI (B:Nat) (s:ByteArray) (w:World) (hs:s.size<=2000000000) (hBw:B<=w.heap.size) (ht:bU B w) (hm:fH B w) (T:TypeId) (V:Value) (hd:E5 s (Gp s) (E3 s) 0 ([0,0,0,0,0,0,0,0,0],0,[]) T V):
  QB 264 #[s] w (.iface T V):=by
 refine Ag s w hs T V (Gp s) (E3 s) hd ?_ ?_ ?_
 ·intro a st st' W b S hn hb hO;have h9:st.1.length=9:=by cases hn <;> assumption
  have hw:((i8 s a).toList==[69,84])=false/\((i8 s a).toList==[83])=false/\((i8 s a).toList==[102])=false/\((i8 s a).toList==[73,68])=false:=by
   cases hn with
   | word h _ _ _ h1 h2 h3 h4 _=>
    rw [Zm,h];exact ⟨Ys.2 h1,Ys.2 h2,Ys.2 h3,Ys.2 h4⟩
   | nbr h _ _ _ _=>
    obtain ⟨c,q,e,hc⟩:=qE _;rw [e] at h;exact zj h (by omega)
   | str h _ _=>exact zj (c:=40) h (by decide)
  obtain ⟨n0,n1,n2,n3,n4,n5,n6,n7,n8,e⟩:=Gw h9;rw [e] at hO;exact zW W w.heap.size b n0 n1 n2 n3 n4 n5 n6 n7 n8 _ _ _ S hO _ hw.1 hw.2.1 hw.2.2.1 hw.2.2.2
 ·intro a st st' W b S hn hb hO;have hB:w.heap.size<=W.heap.size:=hb.size
  cases hn with
  | word h h40 h45 hdg _ _ _ _ _=>
   obtain ⟨h0,hc⟩:=vZ h;refine (Du W b (i8 s a) _ h0 hc h40 h45 hdg).mono ?_;rintro e w' ⟨rfl,rfl⟩;exact ⟨rfl,hO,Mv.refl _ _⟩
  | nbr h hz0 hz1 hk h9=>
   obtain ⟨c,q,e,hc⟩:=qE _;obtain ⟨h0,hc0⟩:=vZ (h.trans e);exact y_ W w.heap.size b _ _ _ _ (i8 s a) c S hO h9 hk h0 hc0 hc (fun wx hbx=>jL wx B (i8 s a) _ hz0 hz1 h (ZU hBw (ZU hB hbx.size)) (ht.on ((hb.trans (hbx.mono hB)).mono hBw)) (hm.on ((hb.trans (hbx.mono hB)).mono hBw)))
  | str h hl h9=>
   obtain ⟨h0,hc0⟩:=vZ (c:=40) h;exact za W w.heap.size b _ _ _ _ (i8 s a) S hO h9 h0 hc0 (jY W (i8 s a) _ hl h (by have:=hm.1;omega))
 ·intro a st W b S hf hb hO
  cases hf with
  | text h=>rw [tF h];exact Ac W w.heap.size b _ _ _ _ _ _ _ _ _ _ _ _ S hO
  | line h=>rw [tF h];exact zV W w.heap.size b _ _ _ _ _ _ _ _ _ _ _ _ S hO
  | rect h=>rw [tF h];exact zY W w.heap.size b _ _ _ _ _ _ _ _ _ _ _ _ S hO
  | image h h60 h61 h70 h71 hz hle hc0 hc1 hr0 hr1 hf hg=>
   rw [tF h];have hsz:(s.extract (gR s a) s.size).size=s.size - gR s a:=by rw [<-aP,jF,Za,aP]
   exact xz W w.heap.size b _ _ _ _ _ _ _ _ _ _ _ _ S _ hO h60 h61 h70 h71 (fun wx=>tW wx _ _ _ _ _ _ _ _ hz (by rw [hsz];omega) (by rw [hsz];omega) hc0 hc1 hr0 hr1 hf hg)
theorem oP (w:World) (B m:Nat) (r:List UInt8) (S:Bl) (T:TypeId) (V V1 V2:Value) (f1 f2:Nat) (Z:Ending->World->Prop) (h:o_ B m r w S)
  (hn1:∀ wx,(nilAhead 465 T V "press/drawing.fits").run prog wx=.ok (some false) wx) (hm1:∀ wx,(method 465 T V "press/drawing.fits").run prog wx=.ok (f1,V1) wx) (he1:∀ args wx,(callFunc f1 args).run prog wx=.ok (.enter f1 args) wx)
  (hn2:∀ wx,(nilAhead 465 T V "Write").run prog wx=.ok (some false) wx) (hm2:∀ wx,(method 465 T V "Write").run prog wx=.ok (f2,V2) wx) (he2:∀ args wx,(callFunc f2 args).run prog wx=.ok (.enter f2 args) wx)
  (HF:Hid (QB 264 #[.string ⟨r.toArray⟩] w (.iface T V)))
  (HI:Hid (∀ wx,Below w w wx->QB f1 #[V1] wx true))
  (HW:Hid (∀ wx,Below w w wx->CP f2 #[V2,.iface 190 (zp m)] wx fun e w'=>e=.returned .nilIface/\Z (.returned (.tuple #[.iface T V,true])) w')):
  CP 229 #[zp m] w Z:=by
 have HR:=ai (tp w B m r S h);go_enter func229,ntmps229
 go_wp2_with fail
 refine HR.out.mono ?_;rintro e w0 ⟨rfl,rfl⟩;go_wp2_with fail
 refine HF.out.mono ?_;rintro e w1 ⟨rfl,hb1⟩;go_wp2_with fail
 refine (HI.out w1 hb1).mono ?_;rintro e w2 ⟨rfl,hb2⟩;have hb12:=hb1.trans (hb2.mono hb1.size);go_wp2_with fail
 refine (HW.out w2 hb12).mono ?_;rintro e w3 ⟨rfl,hz⟩;go_wp2;exact hz
def sA (K:World->Bl->List UInt8->Prop) (S:Bl) (w:World) (D:List UInt8) (e:Ending) (w':World):Prop:=e=.returned .nilIface/\∃ S',K w' S' D/\Mv S w S' w'
structure qZ (B:Nat) (T:TypeId) (q q':Value) (f:FuncId) (t0:List UInt8) (K:World->Bl->List UInt8->Prop):Prop where
 thing:∀ D,aJ B (fun w S=>K w S D)
 hn:∀ wx,(nilAhead 465 T q "Write").run prog wx=.ok (some false) wx
 hm:∀ wx,(method 465 T q "Write").run prog wx=.ok (f,q') wx
 he:∀ args wx,(callFunc f args).run prog wx=.ok (.enter f args) wx
 write:∀ w S D (s:ByteArray),K w S D->(D++s.data.toList) <+:t0->CP f #[q',s] w fun e w'=>e=.returned .nilIface/\∃ S',K w' S' (D++s.data.toList)/\Mv S w S' w'
section
variable {B:Nat} {T:TypeId} {q q':Value} {f:FuncId} {t0:List UInt8} {K:World->Bl->List UInt8->Prop}
theorem qZ.send (F:qZ B T q q' f t0 K) {w:World} {S:Bl} {D:List UInt8} (h:K w S D) (x:List UInt8) (hl:(D++x) <+:t0):∀ wx,af w wx->CP f #[q',.string ⟨x.toArray⟩] wx fun e w'=>∃ v,e=.returned v/\sA K S w (D++x) (.returned v) w':=by
 intro wx hb;have hk:K wx S D:=(F.thing D).keep h (fun k hk=>hb.block k ((F.thing D).lt h hk)) hb.size;refine (F.write wx S D ⟨x.toArray⟩ hk (by simpa using hl)).mono ?_;rintro e w' ⟨rfl,S',h',m'⟩;exact ⟨_,rfl,rfl,S',by simpa using h',(Mv.grow hb S).trans m'⟩
theorem Gu (F:qZ B T q q' f t0 K) (w:World) (S:Bl) (D:List UInt8) (o:bj) (ho:o.near) (hk:o.k=2) (hB:B<=w.heap.size) (ht:bU B w) (h:K w S D) (hl:(D++o.text) <+:t0):
  CP 358 #[.agg #[o.a,o.b,o.c,o.d,o.e],.iface T q] w (sA K S w (D++o.text)):=by
 obtain ⟨⟨a1,a2⟩,⟨b1,b2⟩,⟨c1,c2⟩,⟨d1,d2⟩,⟨e1,e2⟩,_⟩:=ho;have r1:∀ z∈[o.e],-100000000<=z/\z<=100000000:=(ZA.2 ⟨⟨e1,e2⟩,(fun z hz=>by simp at hz)⟩);have r2:∀ z∈[o.a,o.b],-100000000<=z/\z<=100000000:=(ZA.2 ⟨⟨a1,a2⟩,(ZA.2 ⟨⟨b1,b2⟩,(fun z hz=>by simp at hz)⟩)⟩);have r3:∀ z∈[o.c,o.d],-100000000<=z/\z<=100000000:=(ZA.2 ⟨⟨c1,c2⟩,(ZA.2 ⟨⟨d1,d2⟩,(fun z hz=>by simp at hz)⟩)⟩);have l1:=dL _ r1;have l2:=dL _ r2;have l3:=dL _ r3;simp only [ZX,ZR] at l1 l2 l3;have ht2:o.text=aG [o.e]++[119,32]++aG [o.a,o.b]++[109,32]++aG [o.c,o.d]++[108,32,83,10]:=by
  unfold bj.text;rw [ZO (by omega),ZN hk];simp only [ZS]
 exact ox B w o.a o.b o.c o.d o.e T q q' f F.hn F.hm hB ht _ _ _ o.text ht2.symm (by omega) (by omega) (by omega) _ F.he (F.send h _ hl) (ek w _ hB ht (by simp) r1) (ek w _ hB ht (by simp) r2) (ek w _ hB ht (by simp) r3)
theorem Gy (F:qZ B T q q' f t0 K) (w:World) (S:Bl) (D:List UInt8) (o:bj) (ho:o.near) (hk:o.k=3) (hB:B<=w.heap.size) (ht:bU B w) (h:K w S D) (hl:(D++o.text) <+:t0):
  CP 360 #[.agg #[o.a,o.b,o.c,o.d,o.e],.iface T q] w (sA K S w (D++o.text)):=by
 obtain ⟨⟨a1,a2⟩,⟨b1,b2⟩,⟨c1,c2⟩,⟨d1,d2⟩,⟨e1,e2⟩,_⟩:=ho;have r1:∀ z∈[o.e],-100000000<=z/\z<=100000000:=(ZA.2 ⟨⟨e1,e2⟩,(fun z hz=>by simp at hz)⟩);have r2:∀ z∈[o.a,o.b,o.c,o.d],-100000000<=z/\z<=100000000:=(ZA.2 ⟨⟨a1,a2⟩,(ZA.2 ⟨⟨b1,b2⟩,(ZA.2 ⟨⟨c1,c2⟩,(ZA.2 ⟨⟨d1,d2⟩,(fun z hz=>by simp at hz)⟩)⟩)⟩)⟩);have l1:=dL _ r1;have l2:=dL _ r2;simp only [ZX,ZR] at l1 l2;have ht2:o.text=aG [o.e]++[103,32]++aG [o.a,o.b,o.c,o.d]++[114,101,32,102,10]:=by
  unfold bj.text;rw [ZO (by omega),ZO (by omega),ZN hk];simp only [ZS]
 exact nV w o.a o.b o.c o.d o.e T q q' f F.hn F.hm _ _ o.text ht2.symm (by omega) (by omega) _ F.he (F.send h _ hl) (ek w _ hB ht (by simp) r1) (ek w _ hB ht (by simp) r2)
theorem Gz (F:qZ B T q q' f t0 K) (w:World) (S:Bl) (D:List UInt8) (o:bj) (ho:o.near) (hk:o.k=1) (hB:B<=w.heap.size) (ht:bU B w) (h:K w S D) (hl:(D++o.text) <+:t0):
  CP 356 #[.agg #[o.a,o.b,o.c,o.s],.iface T q] w (sA K S w (D++o.text)):=by
 obtain ⟨⟨a1,a2⟩,⟨b1,b2⟩,⟨c1,c2⟩,⟨d1,d2⟩,⟨e1,e2⟩,_,_,_,hs⟩:=ho;have hs:=hs hk;have r1:∀ z∈[o.c],-100000000<=z/\z<=100000000:=(ZA.2 ⟨⟨c1,c2⟩,(fun z hz=>by simp at hz)⟩);have r2:∀ z∈[o.a,o.b],-100000000<=z/\z<=100000000:=(ZA.2 ⟨⟨a1,a2⟩,(ZA.2 ⟨⟨b1,b2⟩,(fun z hz=>by simp at hz)⟩)⟩);have l1:=dL _ r1;have l2:=dL _ r2;have l3:=ii o.s.data.toList;rw [aP] at l3;simp only [ZX,ZR] at l1 l2;have ht2:o.text=[66,84,32,47,70,49,32]++aG [o.c]++[84,102,32]++aG [o.a,o.b]++[84,100,32]++bc o.s.data.toList++[32,84,106,32,69,84,10]:=by
  unfold bj.text;rw [ZN hk];simp only [ZS]
 exact oq w o.a o.b o.c o.s T q q' f F.hn F.hm _ _ _ o.text ht2.symm (by omega) (by omega) (by simp only [bc,ZY,ZX,ZR];omega) _ F.he (F.send h _ hl) (ek w _ hB ht (by simp) r1) (ek w _ hB ht (by simp) r2) (fun wx _=>jK wx o.s (by omega))
theorem F_ (F:qZ B T q q' f t0 K) (w:World) (S:Bl) (D:List UInt8) (o:bj) (ho:o.near) (hB:B<=w.heap.size) (ht:bU B w) (h:K w S D) (hl:(D++o.headB) <+:t0):
  CP 132 #[.agg #[o.a,o.b,o.c,o.d,o.co,o.ro],.iface T q] w (sA K S w (D++o.headB)):=by
 obtain ⟨⟨a1,a2⟩,⟨b1,b2⟩,⟨c1,c2⟩,⟨d1,d2⟩,⟨e1,e2⟩,⟨f1,f2⟩,⟨g1,g2⟩,_⟩:=ho;have r1:∀ z∈[o.c],-100000000<=z/\z<=100000000:=(ZA.2 ⟨⟨c1,c2⟩,(fun z hz=>by simp at hz)⟩);have r2:∀ z∈[o.d,o.a,o.b],-100000000<=z/\z<=100000000:=(ZA.2 ⟨⟨d1,d2⟩,(ZA.2 ⟨⟨a1,a2⟩,(ZA.2 ⟨⟨b1,b2⟩,(fun z hz=>by simp at hz)⟩)⟩)⟩);have l1:=dL _ r1;have l2:=dL _ r2;have i1:=ar o.co f1 f2;have i2:=ar o.ro g1 g2;simp only [ZX,ZR] at l1 l2;have ht2:o.headB=[113,32]++aG [o.c]++[48,32,48,32]++aG [o.d,o.a,o.b]++[99,109,32,66,73,32]++([47,87,32]++Lib.itoa o.co++[32,47,72,32]++Lib.itoa o.ro)++[32,47,67,83,32,47,71,32,47,66,80,67,32,56,32,73,68,32]:=by
  unfold bj.headB;simp
 exact nG w o.a o.b o.c o.d o.co o.ro T q q' f F.hn F.hm _ _ _ _ _ o.headB rfl ht2.symm (by omega) (by omega) (by omega) (by omega) (by simp only [ZY,ZX,ZR];omega) _ F.he (F.send h _ hl) (ek w _ hB ht (by simp) r1) (ek w _ hB ht (by simp) r2) (fun wx hb=>bp B wx o.co f1 f2 (ht.on (hb.mono hB))) (fun wx hb=>bp B wx o.ro g1 g2 (ht.on (hb.mono hB)))
theorem Gb (F:qZ B T q q' f t0 K) (w:World) (S:Bl) (D:List UInt8) (o:bj) (ho:o.near) (hk:o.k=4) (hB:B<=w.heap.size) (ht:bU B w) (h:K w S D) (hl:(D++o.text) <+:t0):
  CP 353 #[.agg #[o.a,o.b,o.c,o.d,o.co,o.ro,o.s],.iface T q] w (sA K S w (D++o.text)):=by
 have htx:=yS hk;have hp3:(D++o.headB++o.s.data.toList)++[10,69,73,32,81,10] <+:t0:=by rw [htx] at hl;simpa [ZS] using hl
 have hp2:(D++o.headB)++o.s.data.toList <+:t0:=(YP _ _).trans hp3;have hp1:D++o.headB <+:t0:=(YP _ _).trans hp2;refine lf w o.a o.b o.c o.d o.co o.ro o.s 0 (0:Int) (fun w1=>(∃ S1,K w1 S1 (D++o.headB)/\Mv S w S1 w1)/\w1.cell? (zq w 6)=some (.string o.s)) (fun w2=>∃ S2,K w2 S2 (D++o.headB++o.s.data.toList)/\Mv S w S2 w2) _ F.hn F.hm F.he ?_ ?_ ?_ ?_
 ·intro wx hb c6 hlt;have hkx:K wx S D:=(F.thing D).keep h (fun k hk=>hb.block k ((F.thing D).lt h hk)) hb.size;refine (F_ F wx S D o ho (ZU hB hb.size) (ht.on (hb.mono hB)) hkx hp1).mono ?_;rintro e w' ⟨rfl,S',h',m'⟩;refine .inl ⟨rfl,⟨S',h',(Mv.grow hb S).trans m'⟩,?_⟩;have hnS:¬ S w.heap.size:=fun e=>by have:=(F.thing D).lt h e;omega
  exact (ZQ (a:=zq w 6) (m'.keep hlt hnS)).trans c6
 ·rintro w1 ⟨⟨S1,h1,m1⟩,_⟩;refine (F.write w1 S1 _ o.s h1 hp2).mono ?_;rintro e w' ⟨rfl,S',h',m'⟩;exact .inl ⟨rfl,S',h',m1.trans m'⟩
 ·rintro w1 ⟨_,c⟩;exact c
 ·rintro w2 ⟨S2,h2,m2⟩;refine (F.write w2 S2 _ ⟨#[10,69,73,32,81,10]⟩ h2 hp3).mono ?_;rintro e w' ⟨rfl,S',h',m'⟩;refine ⟨_,rfl,rfl,S',?_,m2.trans m'⟩;rw [htx];simpa using h'
end
def zx (B m:Nat) (t0:List UInt8) (w:World) (S:Bl) (D:List UInt8):Prop:=∃ r,t0=D++r/\o_ B m r w S
theorem uS (T:Nat) (w:World):(method 465 190 (zp T) "Write").run prog w=.ok (355,.pointer (some ⟨T,0,none⟩)) w:=by kernel_rfl
theorem yp (T:Nat) (w:World):(nilAhead 465 190 (zp T) "Write").run prog w=.ok (some false) w:=by kernel_rfl
theorem sJ (args:Array Value) (w:World):(callFunc 355 args).run prog w=.ok (.enter 355 args) w:=by kernel_rfl
theorem ji (B m:Nat) (t0:List UInt8):qZ B 190 (zp m) (zp m) 355 t0 (zx B m t0) where
 thing:=fun D=>aJ.any fun r=>aJ.pure (o_.thing B m r)
 hn:=yp m
 hm:=uS m
 he:=sJ
 write:=by
  rintro w S D s ⟨r,e,h⟩ ⟨r2,e2⟩;have er:r=s.data.toList++r2:=by
   rw [e,ZS] at e2;exact (List.append_cancel_left e2).symm
  rw [er] at h;refine (sV w B m s r2 S h).mono ?_;rintro e w' ⟨rfl,h',m'⟩;exact ⟨rfl,S,⟨r2,e2.symm,h'⟩,m'⟩
def ir (l:List UInt8):Prop:=∀ c∈l,c.toNat < 128
theorem ir.app {a b:List UInt8} (h:ir (a++b)):ir a/\ir b:=⟨fun c hc=>h c (Zu.2 (.inl hc)),fun c hc=>h c (Zu.2 (.inr hc))⟩
theorem ir.mk {a b:List UInt8} (h1:ir a) (h2:ir b):ir (a++b):=fun c hc=>(Zu.1 hc).elim (h1 c) (h2 c)
theorem mX {t x r':List UInt8} (h0:t≠[]) (h:ir (t++x)) (hr:r'=[]\/8<=r'.length):fa (t++(x++r')):=by
 rcases hr with rfl | hr
 ·right;rw [YZ];exact h
 ·left;have:0 < t.length:=Yn.2 h0;simp;omega
theorem qD (z:Int):∀ c∈bJ z,c=45\/c=46\/48<=c.toNat/\c.toNat<=57:=by
 have du:∀ k:Nat,k < 10->48<=(UInt8.ofNat (48+k)).toNat/\(UInt8.ofNat (48+k)).toNat<=57:=fun k hk=>by rw [YW];omega
 intro c hc;unfold bJ at hc;rcases Zu.1 hc with hc | hc
 ·rcases Zu.1 hc with hc | hc
  ·split at hc
   ·simp at hc;exact .inl hc
   ·simp at hc
  ·rw [fy] at hc;exact .inr (.inr (mV _ c hc))
 ·have hm:z.natAbs % 1000 < 1000:=Yy _ (by decide);unfold cq at hc;split at hc
  ·simp at hc
  ·split at hc
   ·simp only [Zk,YQ,or_false] at hc;rcases hc with rfl | rfl
    ·exact .inr (.inl rfl)
    ·exact .inr (.inr (du _ (by omega)))
   ·split at hc
    ·simp only [Zk,YQ,or_false] at hc;rcases hc with rfl | rfl | rfl
     ·exact .inr (.inl rfl)
     ·exact .inr (.inr (du _ (by omega)))
     ·exact .inr (.inr (du _ (by omega)))
    ·simp only [Zk,YQ,or_false] at hc;rcases hc with rfl | rfl | rfl | rfl
     ·exact .inr (.inl rfl)
     ·exact .inr (.inr (du _ (by omega)))
     ·exact .inr (.inr (du _ (by omega)))
     ·exact .inr (.inr (du _ (by omega)))
theorem sQ (z:Int):∀ c∈bJ z,cV c=true:=by
 intro c hc;rcases qD z c hc with rfl | rfl | h
 ·decide
 ·decide
 ·unfold cV j3;simp;refine ⟨?_,?_,?_,?_,?_⟩ <;> (intro e;rw [e] at h;exact absurd h (by decide))
theorem aZ (z:Int):ir (bJ z):=by
 intro c hc;rcases qD z c hc with rfl | rfl | h
 ·decide
 ·decide
 ·omega
theorem D2 (c:UInt8):ir (eS c):=by
 have du:∀ k:Nat,k < 10->(UInt8.ofNat (48+k)).toNat < 128:=fun k hk=>by rw [YW];omega
 have hc:=c.toNat_lt;intro d hd;unfold eS at hd;split at hd
 ·simp only [Zk,YQ,or_false] at hd;rcases hd with rfl | rfl | rfl | rfl
  ·decide
  ·exact du _ (by omega)
  ·exact du _ (by omega)
  ·exact du _ (by omega)
 ·split at hd
  ·simp only [Zk,YQ,or_false] at hd;rcases hd with rfl | rfl
   ·decide
   ·omega
  ·simp only [Zk,YQ,or_false] at hd;subst hd;omega
theorem sK:∀ l:List UInt8,ir (bH l)
 | []=>fun c h=>by cases h
 | c::l=>(D2 c).mk (sK l)
instance (l:List UInt8):Decidable (ir l):=inferInstanceAs (Decidable (∀ c∈l,c.toNat < 128))
theorem py (l:List UInt8):ir (bc l):=((show ir [40] by decide).mk (sK l)).mk (by decide)
theorem sf (z:Int):bJ z≠[]:=by
 obtain ⟨c,q,e,_⟩:=qE z;rw [e];simp
section
variable {s:ByteArray} {a:Nat} {g t x r':List UInt8} {T:TypeId} {V:Value}
abbrev DD (s:ByteArray):=E5 s (Gp s) (E3 s)
theorem df (c:UInt8) (q:List UInt8) {st:rZ} (hr:r'=[]\/8<=r'.length) (hd:s.data.toList.drop a=(g++((c::q)++x))++r') (hy:ir (g++((c::q)++x))) (hg:∀ c∈g,cj c=true) (ht:∀ d∈c::q,cV d=true) (hx:∃ d p,x=d::p/\cV d=false)
  (h45:c.toNat≠45) (hdg:c.toNat < 48\/57 < c.toNat) (h1:c::q≠[69,84]) (h2:c::q≠[83]) (h3:c::q≠[102]) (h4:c::q≠[73,68]) (h9:st.1.length=9)
  (k:∀ a',s.data.toList.drop a'=x++r'->ir x->DD s a' st T V):DD s a st T V:=by
 obtain ⟨d,p,rfl,hp⟩:=hx;have hA:At s a g (c::q) ((d::p)++r'):=At.word (by rw [hd];simp only [ZS]) hg (by simp) ht (by intro e f hh;cases hh;exact hp);have h40:=(j5 (ht c (ZB _))).1;exact .step (hA.okay (mX (by simp) hy.app.2 hr)) (.word hA.tok h40 h45 hdg h1 h2 h3 h4 h9) (k _ hA.nxt hy.app.2.app.2)
theorem dq (z:Int) {ns:List Int} {kk:Nat} {tx:List UInt8} (hr:r'=[]\/8<=r'.length) (hd:s.data.toList.drop a=(g++(bJ z++x))++r') (hy:ir (g++(bJ z++x))) (hg:∀ c∈g,cj c=true) (hx:∃ d p,x=d::p/\cV d=false)
  (hz0:-100000000<=z) (hz1:z<=100000000) (hk:kk < 9) (h9:ns.length=9)
  (k:∀ a',s.data.toList.drop a'=x++r'->ir x->DD s a' (ns.set kk z,kk+1,tx) T V):DD s a (ns,kk,tx) T V:=by
 obtain ⟨d,p,rfl,hp⟩:=hx;have hA:At s a g (bJ z) ((d::p)++r'):=At.word (by rw [hd];simp only [ZS]) hg (sf z) (sQ z) (by intro e f hh;cases hh;exact hp);exact .step (hA.okay (mX (sf z) hy.app.2 hr)) (.nbr hA.tok hz0 hz1 hk h9) (k _ hA.nxt hy.app.2.app.2)
theorem Gm (l:List UInt8) {ns:List Int} {kk:Nat} {tx:List UInt8} (hr:r'=[]\/8<=r'.length) (hd:s.data.toList.drop a=(g++(bc l++x))++r') (hy:ir (g++(bc l++x))) (hg:∀ c∈g,cj c=true) (hl:l.length<=100) (h9:ns.length=9)
  (k:∀ a',s.data.toList.drop a'=x++r'->ir x->DD s a' (ns,kk,l) T V):DD s a (ns,kk,tx) T V:=by
 have hA:At s a g (bc l) (x++r'):=At.str (by rw [hd];simp only [ZS]) hg;exact .step (hA.okay (mX (by simp [bc]) hy.app.2 hr)) (.str hA.tok hl h9) (k _ hA.nxt hy.app.2.app.2)
theorem wB {st:rZ} (hr:r'=[]\/8<=r'.length) (hd:s.data.toList.drop a=(g++(t++x))++r') (hy:ir (g++(t++x))) (hg:∀ c∈g,cj c=true) (h0:t≠[]) (ht:∀ d∈t,cV d=true) (hx:∀ d p,x++r'=d::p->cV d=false)
  (k:At s a g t (x++r')->E3 s a st T V):DD s a st T V:=by
 have hA:At s a g t (x++r'):=At.word (by rw [hd];simp only [ZS]) hg h0 ht hx;exact .fin (hA.okay (mX h0 hy.app.2 hr)) (k hA)
end
theorem jf (z:Int):aG [z]=bJ z++[32]:=by simp [aG]
theorem lu (y z:Int):aG [y,z]=bJ y++([32]++(bJ z++[32])):=by simp [aG]
theorem dI:∀ c∈([32]:List UInt8),cj c=true:=by decide
theorem Fm:∀ c∈([]:List UInt8),cj c=true:=by intro c h;cases h
theorem FJ (s:ByteArray) (o:bj) (r':List UInt8) (ho:o.near) (hk:o.k=2) (hs:s.data.toList=o.text++r') (hr:r'=[]\/8<=r'.length):
  DD s 0 ([0,0,0,0,0,0,0,0,0],0,[]) 217 (.agg #[o.a,o.b,o.c,o.d,o.e]):=by
 obtain ⟨⟨a1,a2⟩,⟨b1,b2⟩,⟨c1,c2⟩,⟨d1,d2⟩,⟨e1,e2⟩,_⟩:=ho;have ht:o.text=[]++(bJ o.e++([32]++([119]++([32]++(bJ o.a++([32]++(bJ o.b++([32]++([109]++([32]++(bJ o.c++([32]++(bJ o.d++([32]++([108]++([32]++([83]++[10]))))))))))))))))):=by
  unfold bj.text;rw [ZO (by omega),ZN hk,jf,lu,lu];simp only [ZS,Zq];rfl
 have s1:ir [32]:=by decide
 have hA:ir o.text:=by
  rw [ht];exact .mk (by decide) (.mk (aZ _) (.mk s1 (.mk (by decide) (.mk s1 (.mk (aZ _) (.mk s1 (.mk (aZ _) (.mk s1 (.mk (by decide) (.mk s1 (.mk (aZ _) (.mk s1 (.mk (aZ _) (.mk s1 (.mk (by decide) (.mk s1 (by decide)))))))))))))))))
 rw [ht] at hs hA;have hd:s.data.toList.drop 0=_:=hs;refine dq o.e hr hd hA Fm ⟨32,_,rfl,by decide⟩ e1 e2 (by omega) rfl fun p1 h1 y1=>?_
 refine df 119 [] hr h1 y1 dI (by decide) ⟨32,_,rfl,by decide⟩ (by decide) (by decide) (by decide) (by decide) (by decide) (by decide) rfl fun p2 h2 y2=>?_
 refine dq o.a hr h2 y2 dI ⟨32,_,rfl,by decide⟩ a1 a2 (by omega) rfl fun p3 h3 y3=>?_
 refine dq o.b hr h3 y3 dI ⟨32,_,rfl,by decide⟩ b1 b2 (by omega) rfl fun p4 h4 y4=>?_
 refine df 109 [] hr h4 y4 dI (by decide) ⟨32,_,rfl,by decide⟩ (by decide) (by decide) (by decide) (by decide) (by decide) (by decide) rfl fun p5 h5 y5=>?_
 refine dq o.c hr h5 y5 dI ⟨32,_,rfl,by decide⟩ c1 c2 (by omega) rfl fun p6 h6 y6=>?_
 refine dq o.d hr h6 y6 dI ⟨32,_,rfl,by decide⟩ d1 d2 (by omega) rfl fun p7 h7 y7=>?_
 refine df 108 [] hr h7 y7 dI (by decide) ⟨32,_,rfl,by decide⟩ (by decide) (by decide) (by decide) (by decide) (by decide) (by decide) rfl fun p8 h8 y8=>?_
 exact wB hr h8 y8 dI (by simp) (by decide) (fun d p e=>by cases e;decide) fun hF=>.line hF.tok
inductive dH
 | w (t g:List UInt8)
 | b (c:UInt8) (g:List UInt8)
 | q (l g:List UInt8)
 | wb (t:List UInt8) (c:UInt8) (g:List UInt8)
def Ak (g:List UInt8):Bool:=g.all cj
def fZ (t:List UInt8):Bool:=!t.isEmpty&&t.all cV
def DS (c:UInt8):Bool:=c==91||c==93
def dH.ok:dH->Bool
 | .w t g=>fZ t&&Ak g&&!g.isEmpty
 | .b c g=>DS c&&Ak g
 | .q _ g=>Ak g
 | .wb t c g=>fZ t&&DS c&&Ak g
def dH.text:dH->List UInt8
 | .w t g=>t++g
 | .b c g=>c::g
 | .q l g=>bc l++g
 | .wb t c g=>t++c::g
def dH.toks:dH->List (List UInt8)
 | .w t _=>[t]
 | .b c _=>[[c]]
 | .q l _=>[bc l]
 | .wb t c _=>[t,[c]]
def h_ (l:List dH):List UInt8:=l.flatMap dH.text
def a7 (l:List dH):List (List UInt8):=l.flatMap dH.toks
def jO (l:List dH):Bool:=l.all dH.ok
inductive nt:List UInt8->List (List UInt8)->List UInt8->Prop
 | nil (l:List UInt8):nt l [] l
 | gap {c:UInt8} {l:List UInt8} {ts:List (List UInt8)} {r:List UInt8} (hc:cj c=true) (h:nt l ts r):nt (c::l) ts r
 | tok {t l:List UInt8} {ts:List (List UInt8)} {r:List UInt8} (hn:ny (t++l)=t.length) (h0:t≠[]) (hd:∀ c q,t++l=c::q->cj c=false) (h:nt l ts r):nt (t++l) (t::ts) r
theorem nt.gaps {g l r:List UInt8} {ts:List (List UInt8)} (hg:Ak g=true) (h:nt l ts r):nt (g++l) ts r:=by
 induction g with
 | nil=>exact h
 | cons c g ih=>
  unfold Ak at hg ih;simp only [List.all_cons,Zr] at hg;exact .gap hg.1 (ih hg.2)
theorem zi {t:List UInt8} (h:fZ t=true):t≠[]/\∀ c∈t,cV c=true:=by
 unfold fZ at h;simp only [Zr,List.all_eq_true] at h;exact ⟨fun e=>by rw [e] at h;exact absurd h.1 (by decide),h.2⟩
theorem Fp {c:UInt8} (h:cj c=true):cV c=false:=by
 unfold cj at h;simp only [List.contains_eq_mem,Zh,Zk,YQ,or_false] at h;rcases h with rfl | rfl <;> rfl
theorem Ca {c:UInt8} (h:DS c=true):cV c=false/\cj c=false/\(c.toNat=91\/c.toNat=93):=by
 unfold DS at h;simp only [Bool.or_eq_true,beq_iff_eq] at h;rcases h with rfl | rfl
 ·exact ⟨rfl,rfl,.inl rfl⟩
 ·exact ⟨rfl,rfl,.inr rfl⟩
theorem nt.word {t l r:List UInt8} {ts:List (List UInt8)} (hw:fZ t=true) (hl:∀ c q,l=c::q->cV c=false) (h:nt l ts r):nt (t++l) (t::ts) r:=by
 obtain ⟨h0,hp⟩:=zi hw;refine .tok (vy t l h0 hp hl) h0 ?_ h;intro c q e
 cases t with
 | nil=>exact absurd rfl h0
 | cons x t=>cases e;exact (j5 (hp _ (ZB _))).2.2.2
theorem nt.brk {c:UInt8} {l r:List UInt8} {ts:List (List UInt8)} (hb:DS c=true) (h:nt l ts r):nt (c::l) ([c]::ts) r:=by
 obtain ⟨_,hg,hc⟩:=Ca hb;refine nt.tok (t:=[c]) (EX c l hc) (by simp) ?_ h;intro d q e
 cases e;exact hg
theorem nt.str {m l r:List UInt8} {ts:List (List UInt8)} (h:nt l ts r):nt (bc m++l) (bc m::ts) r:=by
 refine .tok (zc m l) (by simp [bc]) ?_ h;intro c q hq;have:c=40:=by unfold bc at hq;simp at hq;exact hq.1.symm
 rw [this];decide
theorem dH.tks {x:dH} (hx:x.ok=true) {l r:List UInt8} {ts:List (List UInt8)} (h:nt l ts r):nt (x.text++l) (x.toks++ts) r:=by
 cases x with
 | w t g=>
  simp only [dH.ok,Zr] at hx;obtain ⟨⟨hw,hg⟩,hne⟩:=hx;show nt (t++g++l) _ _
  rw [ZS];refine nt.word hw ?_ (nt.gaps hg h);intro c q e
  cases g with
  | nil=>exact absurd hne (by decide)
  | cons d g=>
   cases e
   unfold Ak at hg;simp only [List.all_cons,Zr] at hg;exact Fp hg.1
 | b c g=>
  simp only [dH.ok,Zr] at hx;exact nt.brk hx.1 (nt.gaps hx.2 h)
 | q m g=>
  show nt (bc m++g++l) _ _
  rw [ZS];exact nt.str (nt.gaps hx h)
 | wb t c g=>
  simp only [dH.ok,Zr] at hx;obtain ⟨⟨hw,hb⟩,hg⟩:=hx;show nt (t++c::g++l) _ _
  rw [ZS,ZE];refine nt.word hw ?_ (nt.brk hb (nt.gaps hg h));intro d q e
  cases e;exact (Ca hb).1
theorem tu:∀ (xs:List dH),jO xs=true->∀ (l r:List UInt8) (ts:List (List UInt8)),nt l ts r->nt (h_ xs++l) (a7 xs++ts) r
 | [],_,l,r,ts,h=>h
 | x::xs,ho,l,r,ts,h=>by
  unfold jO at ho;simp only [List.all_cons,Zr] at ho;have:=dH.tks ho.1 (tu xs ho.2 l r ts h);simpa only [h_,a7,List.flatMap_cons,ZS] using this
def a6 (key:List UInt8) (k:Nat):List (List UInt8)->Option (List UInt8)
 | []=>none
 | t::ts=>if t=key then ts[k]? else a6 key k ts
variable {s key:ByteArray}
theorem zH (t:ByteArray) (l:List UInt8) (h:t.data.toList=l):(t.toList==key.toList)=decide (l=key.data.toList):=by
 rw [Zm,Zm,h];by_cases e:l=key.data.toList
 ·simp [e]
 ·simp [e]
theorem tG {a:Nat} {c:UInt8} {l:List UInt8} (hd:s.data.toList.drop a=c::l) (hc:cj c=true) (f:Nat) (fd:Bool) (k:Nat):
  j8 s (nL s) (tD s) key f a fd k=j8 s (nL s) (tD s) key f (a+1) fd k:=by
 have e:a+nL s a=a+1+nL s (a+1):=by
  have h1:s.data.toList.drop (a+1)=l:=by rw [<-List.drop_drop,hd];rfl
  unfold nL;rw [hd,h1];show a+((c::l).takeWhile cj).length=_
  rw [List.takeWhile_cons_of_pos hc];simp [xG];omega
 cases f with
 | zero=>rfl
 | succ f=>simp only [j8,e]
theorem tH {a:Nat} {t l:List UInt8} (hd:s.data.toList.drop a=t++l) (hn:ny (t++l)=t.length) (h0:t≠[]) (hg:∀ c q,t++l=c::q->cj c=false) (f:Nat) (fd:Bool) (k:Nat):
  s.data.toList.drop (gR s a)=l/\gR s a=a+t.length/\
  j8 s (nL s) (tD s) key (f+1) a fd k=if fd=false then j8 s (nL s) (tD s) key f (gR s a) (decide (t=key.data.toList)) k else if k=0 then ⟨t.toArray⟩ else j8 s (nL s) (tD s) key f (gR s a) true (k - 1):=by
 have hA:At s a [] t l:=⟨by rw [hd];rfl,by simp,hg,hn,h0⟩;have ht:=hA.tok;refine ⟨hA.nxt,by unfold gR;rw [hA.tk,hA.gp];simp,?_⟩;rw [j8,ZO hA.tkne];show (if fd=false then j8 s _ _ key f (gR s a) ((i8 s a).toList==key.toList) k else if k=0 then i8 s a else j8 s _ _ key f (gR s a) true (k - 1))=_
 rw [zH _ _ ht,tF ht]
theorem EZ {l r:List UInt8} {ts:List (List UInt8)} (h:nt l ts r):∀ (a f k:Nat) (u:List UInt8),s.data.toList.drop a=l->l.length < f->(ts[k]? =some u->j8 s (nL s) (tD s) key f a true k=⟨u.toArray⟩)/\(a6 key.data.toList k ts=some u->j8 s (nL s) (tD s) key f a false k=⟨u.toArray⟩):=by
 induction h with
 | nil l=>intro a f k u _ _;exact ⟨by simp,by simp [a6]⟩
 | @gap c l ts r hc h ih=>
  intro a f k u hd hf;have h1:s.data.toList.drop (a+1)=l:=by rw [<-List.drop_drop,hd];rfl
  rw [tG hd hc,tG hd hc];exact ih (a+1) f k u h1 (by simp at hf;omega)
 | @tok t l ts r hn h0 hg h ih=>
  intro a f k u hd hf
  cases f with
  | zero=>omega
  | succ f=>
   have hlen:0 < t.length:=Yn.2 h0;have hf':l.length < f:=by simp at hf;omega
   constructor
   ·intro hk;obtain ⟨hn1,_,he⟩:=tH (key:=key) hd hn h0 hg f true k;rw [he,ZO (by decide)]
    cases k with
    | zero=>rw [ZN rfl];simp at hk;rw [hk]
    | succ k=>
     rw [ZO (by omega),Nat.add_sub_cancel];exact (ih (gR s a) f k u hn1 hf').1 (by simpa using hk)
   ·intro hk;obtain ⟨hn1,_,he⟩:=tH (key:=key) hd hn h0 hg f false k;rw [he,ZN rfl];unfold a6 at hk;by_cases e:t=key.data.toList
    ·rw [ZN e] at hk;rw [Zt e];exact (ih (gR s a) f k u hn1 hf').1 hk
    ·rw [ZO e] at hk;rw [Zo e];exact (ih (gR s a) f k u hn1 hf').2 hk
theorem Dy {l r:List UInt8} {ts:List (List UInt8)} (h:nt l ts r):∀ (a f k:Nat),s.data.toList.drop a=l->l.length < f->r=[]->key.data.toList ∉ ts->j8 s (nL s) (tD s) key f a false k=⟨#[]⟩:=by
 induction h with
 | nil l=>
  intro a f k hd hf hr _
  cases f with
  | zero=>rfl
  | succ f=>
   rw [j8,ZN];unfold tD;rw [<-List.drop_drop,hd,hr];simp [ny]
 | @gap c l ts r hc h ih=>
  intro a f k hd hf hr hk;have h1:s.data.toList.drop (a+1)=l:=by rw [<-List.drop_drop,hd];rfl
  rw [tG hd hc];exact ih (a+1) f k h1 (by simp at hf;omega) hr hk
 | @tok t l ts r hn h0 hg h ih=>
  intro a f k hd hf hr hk
  cases f with
  | zero=>omega
  | succ f=>
   have hlen:0 < t.length:=Yn.2 h0;obtain ⟨hn1,_,he⟩:=tH (key:=key) hd hn h0 hg f false k;rw [he,ZN rfl];rw [Zk] at hk;rw [Zo (fun e=>hk (.inl e.symm))];exact ih (gR s a) f k hn1 (by simp at hf;omega) hr (fun m=>hk (.inr m))
theorem ja (xs:List dH) (rest:List UInt8) (k:Nat) (u:List UInt8) (hs:s.data.toList=h_ xs++rest) (ho:jO xs=true) (h:a6 key.data.toList k (a7 xs)=some u):j9 s key k=⟨u.toArray⟩:=by
 have ht:=tu xs ho rest rest [] (.nil _);rw [YZ] at ht;exact (EZ ht 0 (s.size+1) k u (by rw [List.drop_zero,hs]) (by rw [<-hs,aP];omega)).2 h
theorem gm (xs:List dH) (la:List UInt8) (k:Nat) (hs:s.data.toList=h_ xs++la) (ho:jO xs=true) (hl:fZ la=true) (h:key.data.toList ∉ a7 xs) (h2:key.data.toList≠la):j9 s key k=⟨#[]⟩:=by
 have hw:=nt.word (l:=[]) hl (by simp) (.nil []);rw [YZ] at hw;have ht:=tu xs ho la [] [la] hw;exact Dy ht 0 (s.size+1) k (by rw [List.drop_zero,hs]) (by rw [<-hs,aP];omega) rfl (by simp [h,h2])
def kF:ByteArray:=⟨#[47,70,105,108,116,101,114]⟩
def kT:ByteArray:=⟨#[47,84,121,112,101]⟩
def kP:ByteArray:=⟨#[47,80,97,103,101]⟩
def kD:ByteArray:=⟨#[47,68,101,115,116]⟩
def kI:ByteArray:=⟨#[47,84,105,116,108,101]⟩
def kM:ByteArray:=⟨#[47,77,101,100,105,97,66,111,120]⟩
theorem lr (z:Int):∀ c∈Lib.itoa z,c=45\/48<=c.toNat/\c.toNat<=57:=by
 intro c hc;unfold Lib.itoa at hc;split at hc
 ·rcases Zk.1 hc with h | h
  ·exact .inl h
  ·exact .inr (mV _ c h)
 ·exact .inr (mV _ c hc)
theorem sM (z:Int):Lib.itoa z≠[]:=by
 unfold Lib.itoa;split
 ·simp
 ·unfold Lib.decDigits;split <;> simp
theorem gE (z:Int):fZ (Lib.itoa z)=true:=by
 unfold fZ;simp only [Zr,List.all_eq_true];refine ⟨?_,fun c hc=>?_⟩
 ·have:=sM z
  cases h:Lib.itoa z with
  | nil=>exact absurd h this
  | cons a b=>rfl
 ·rcases lr z c hc with rfl | h
  ·rfl
  ·unfold cV j3;simp;refine ⟨?_,?_,?_,?_,?_⟩ <;> (intro e;rw [e] at h;exact absurd h (by decide))
theorem Cg (z:Int) (l:List UInt8):(Lib.itoa z=47::l)↔False:=by
 refine ⟨fun h=>?_,False.elim⟩;have:=lr z 47 (by rw [h];exact ZB _);revert this;decide
theorem gj (z:Int) (l:List UInt8):(47::l=Lib.itoa z)↔False:=⟨fun h=>(Cg z l).1 h.symm,False.elim⟩
theorem Gc (z:Int) (l:List UInt8):(bJ z=47::l)↔False:=by
 refine ⟨fun h=>?_,False.elim⟩;have:=qD z 47 (by rw [h];exact ZB _);revert this;decide
theorem Fv (z:Int) (l:List UInt8):(47::l=bJ z)↔False:=⟨fun h=>(Gc z l).1 h.symm,False.elim⟩
theorem yP (m l:List UInt8):(bc m=47::l)↔False:=by
 refine ⟨fun h=>?_,False.elim⟩;unfold bc at h;simp at h
theorem lN (m l:List UInt8):(47::l=bc m)↔False:=⟨fun h=>(yP m l).1 h.symm,False.elim⟩
theorem Ef (z:Int):fZ (bJ z)=true:=by
 unfold fZ;simp only [Zr,List.all_eq_true];refine ⟨?_,sQ z⟩;have:=sf z
 cases h:bJ z with
 | nil=>exact absurd h this
 | cons a b=>rfl
theorem pN (z:Int):ir (Lib.itoa z):=by
 intro c hc;rcases lr z c hc with rfl | h
 ·decide
 ·omega
theorem ly (z:Int):ir (aD z):=(pN z).mk (by decide)
theorem gi (k:List UInt8) (z:Int) (h:ir k):ir (bt k z):=by
 unfold bt;split
 ·decide
 ·exact ((h.mk (by decide)).mk (ly z)).mk (by decide)
theorem ir.plainly {l:List UInt8} (h:ir l) (a:Nat):fa (l.drop a):=.inr fun c hc=>h c (List.mem_of_mem_drop hc)
def nv (key:List UInt8) (z:Int):List dH:=if z=0 then [] else [.w key [32],.w (Lib.itoa z) [32],.w [48] [32],.w [82] [32]]
theorem kW (key:List UInt8) (z:Int):h_ (nv key z)=bt key z:=by
 unfold nv bt aD;split
 ·rfl
 ·simp [h_,dH.text]
theorem gT (key:List UInt8) (z:Int) (h:fZ key=true):jO (nv key z)=true:=by
 unfold nv;split
 ·rfl
 ·simp [jO,dH.ok,h,gE];decide
theorem fL (key:List UInt8) (z:Int) (l:List UInt8) (h:47::l≠key):47::l ∉ a7 (nv key z):=by
 unfold nv;split
 ·simp [a7]
 ·simp [a7,dH.toks,gj,h]
theorem lU (key:List UInt8) (z:Int) (l:List UInt8) (k:Nat) (ts:List (List UInt8)) (h:key≠47::l):a6 (47::l) k (a7 (nv key z)++ts)=a6 (47::l) k ts:=by
 unfold nv;split
 ·rfl
 ·simp [a7,dH.toks,a6,Cg,h]
theorem jQ (a b:List dH):h_ (a++b)=h_ a++h_ b:=by simp [h_]
theorem cv (a b:List dH):a7 (a++b)=a7 a++a7 b:=by simp [a7]
theorem jP (a b:List dH):jO (a++b)=(jO a&&jO b):=by simp [jO]
def rf (z:Int):List dH:=[.w (Lib.itoa z) [32],.w [48] [32],.w [82] [32]]
def mT (a:Nat):Nat->List dH
 | 0=>[]
 | m+1=>mT a m++rf ((a+m:Nat):Int)
def rd (a:Nat):Nat->List dH
 | 0=>[.b 93 [32]]
 | m+1=>mT a m++[.w (Lib.itoa ((a+m:Nat):Int)) [32],.w [48] [32],.wb [82] 93 [32]]
theorem uY (x:List UInt8):∀ l:List (List UInt8),Lib.join (l++[x]) [32]=l.flatMap (fun y=>y++[32])++x
 | []=>by rw [Zq,Lib.join_one];rfl
 | y::l=>by
  have ih:=uY x l;rw [ZE,Lib.join_cons];have e:∀ r:List (List UInt8),r≠[]->Lib.joinTail [32] r=[32]++Lib.join r [32]:=by
   intro r hr
   cases r with
   | nil=>exact absurd rfl hr
   | cons z r=>rw [Lib.join_cons];simp [Lib.joinTail]
  rw [e _ (by simp),ih];simp
theorem rg (a:Nat):∀ m,h_ (mT a m)=(cf a m).flatMap (fun y=>y++[32])
 | 0=>rfl
 | m+1=>by
  simp only [mT,cf,jQ,rg a m,List.flatMap_append];congr 1;simp [h_,rf,dH.text,aD]
theorem AR (a m:Nat):h_ (rd a m)=Lib.join (cf a m) [32]++[93,32]:=by
 cases m with
 | zero=>rfl
 | succ m=>
  simp only [rd,cf,jQ,rg,uY];simp [h_,dH.text,aD]
theorem uX (a:Nat):∀ m,jO (mT a m)=true
 | 0=>rfl
 | m+1=>by
  simp only [mT,jP,uX a m,Bool.true_and];simp [jO,rf,dH.ok,gE];decide
theorem D' (a m:Nat):jO (rd a m)=true:=by
 cases m with
 | zero=>rfl
 | succ m=>
  simp only [rd,jP,uX,Bool.true_and];simp [jO,dH.ok,gE];decide
theorem uT (a:Nat) (l:List UInt8):∀ m,47::l ∉ a7 (mT a m)
 | 0=>by simp [a7,mT]
 | m+1=>by
  simp only [mT,cv,Zu,uT a l m,false_or];simp [a7,rf,dH.toks,gj]
theorem D_ (a m:Nat) (l:List UInt8):47::l ∉ a7 (rd a m):=by
 cases m with
 | zero=>simp [a7,rd,dH.toks]
 | succ m=>
  simp only [rd,cv,Zu,uT,false_or];simp [a7,dH.toks,gj]
theorem uZ (a:Nat):∀ m,ir ((cf a m).flatMap (fun y=>y++[32]))
 | 0=>show ir [] by decide
 | m+1=>by
  simp only [cf,List.flatMap_append];refine (uZ a m).mk ?_;simp only [List.flatMap_cons,List.flatMap_nil,YZ];exact (ly _).mk (by decide)
theorem Ea (a m:Nat):ir (Lib.join (cf a m) [32]):=by
 cases m with
 | zero=>show ir [];decide
 | succ m=>
  simp only [cf,uY];exact (uZ a m).mk (ly _)
structure sD (s:ByteArray):Prop where
 f:j9 s kF 0=⟨#[]⟩
 t:j9 s kT 0≠kP
 d:j9 s kD 0=⟨#[]⟩
 i:j9 s kI 0=⟨#[]⟩
 pl:∀ a,fa (s.data.toList.drop a)
theorem FV {x:List UInt8} {k:ByteArray} (h:x≠k.data.toList):(⟨x.toArray⟩:ByteArray)≠k:=by
 intro e;apply h;rw [<-e]
theorem n_ {s:ByteArray} (xs:List dH) (la u:List UInt8) (hs:s.data.toList=h_ xs++la) (ho:jO xs=true) (hl:fZ la=true) (ha:ir s.data.toList)
  (n:∀ k∈[kF,kD,kI],k.data.toList ∉ a7 xs/\k.data.toList≠la) (ht:a6 kT.data.toList 0 (a7 xs)=some u/\u≠kP.data.toList\/(kT.data.toList ∉ a7 xs/\kT.data.toList≠la)):sD s:=by
 refine ⟨gm xs la 0 hs ho hl (n kF (by simp)).1 (n kF (by simp)).2,?_,gm xs la 0 hs ho hl (n kD (by simp)).1 (n kD (by simp)).2,gm xs la 0 hs ho hl (n kI (by simp)).1 (n kI (by simp)).2,fun a=>ha.plainly a⟩;rcases ht with ⟨h1,h2⟩ | ⟨h1,h2⟩
 ·rw [ja xs la 0 u hs ho h1];exact FV h2
 ·rw [gm xs la 0 hs ho hl h1 h2];exact FV (x:=[]) (by decide)
theorem th {s:ByteArray} (up:Int) (a m:Nat) (ct:Int) (hs:s.data.toList=jN up (Lib.join (cf a m) [32]) ct):sD s:=by
 refine n_ ([.w [60,60] [32],.w kT.data.toList [32],.w [47,80,97,103,101,115] [32]]++(nv [47,80,97,114,101,110,116] up++([.w [47,75,105,100,115] [32],.b 91 []]++(rd a m++[.w [47,67,111,117,110,116] [32],.w (Lib.itoa ct) [32]])))) [62,62] [47,80,97,103,101,115] ?_ ?_ (by decide) ?_ ?_ (.inl ⟨?_,by decide⟩)
 ·rw [hs];simp only [jQ,kW,AR,jN];simp [h_,dH.text,kT]
 ·simp only [jP,gT _ _ (show fZ [47,80,97,114,101,110,116]=true by decide),D'];simp [jO,dH.ok,gE,kT];decide
 ·rw [hs];exact (((((show ir _ by decide).mk (gi _ _ (by decide))).mk (by decide)).mk (Ea a m)).mk (by decide)).mk (pN ct) |>.mk (by decide)
 ·intro k hk;simp only [Zk,YQ,or_false] at hk;rcases hk with rfl | rfl | rfl <;> refine ⟨?_,by decide⟩ <;> simp only [cv,Zu,not_or] <;> refine ⟨by simp [a7,dH.toks,kF,kD,kI,kT],fL _ _ _ (by decide),by simp [a7,dH.toks,kF,kD,kI,kT],D_ _ _ _,by simp [a7,dH.toks,kF,kD,kI,kT,gj]⟩
 ·simp [a7,dH.toks,a6,kT]
theorem Df {s:ByteArray} (z:Int) (hs:s.data.toList=Lib.itoa z):sD s:=by
 refine n_ [] (Lib.itoa z) [] hs rfl (gE z) (by rw [hs];exact pN z) ?_ (.inr ⟨by simp [a7],fun e=>(gj z _).1 e⟩);intro k hk;simp only [Zk,YQ,or_false] at hk;rcases hk with rfl | rfl | rfl <;> exact ⟨by simp [a7],fun e=>(gj z _).1 e⟩
theorem BH {s:ByteArray} (hs:s.data.toList=nC):sD s:=by
 refine n_ [.w [60,60] [32],.w kT.data.toList [32],.w [47,70,111,110,116] [32],.w [47,83,117,98,116,121,112,101] [32],.w [47,84,121,112,101,49] [32],.w [47,66,97,115,101,70,111,110,116] [32],.w [47,72,101,108,118,101,116,105,99,97] [32]] [62,62] [47,70,111,110,116] (by rw [hs];rfl) (by decide) (by decide) (by rw [hs];decide) ?_ (.inl ⟨by decide,by decide⟩);intro k hk;simp only [Zk,YQ,or_false] at hk;rcases hk with rfl | rfl | rfl <;> exact ⟨by decide,by decide⟩
theorem BL {s:ByteArray} (all m:Nat) (hs:s.data.toList=f_ all m):sD s:=by
 refine n_ ([.w [60,60] [32],.w kT.data.toList [32],.w [47,79,117,116,108,105,110,101,115] [32]]++(nv [47,70,105,114,115,116] ((all+1:Nat):Int)++(nv [47,76,97,115,116] ((all+m:Nat):Int)++[.w [47,67,111,117,110,116] [32],.w (Lib.itoa (m:Int)) [32]]))) [62,62] [47,79,117,116,108,105,110,101,115] ?_ ?_ (by decide) ?_ ?_ (.inl ⟨?_,by decide⟩)
 ·rw [hs];simp only [jQ,kW,f_];simp [h_,dH.text,kT]
 ·simp only [jP,gT _ _ (show fZ [47,70,105,114,115,116]=true by decide),gT _ _ (show fZ [47,76,97,115,116]=true by decide)];simp [jO,dH.ok,gE,kT];decide
 ·rw [hs];exact (((((show ir _ by decide).mk (gi _ _ (by decide))).mk (gi _ _ (by decide))).mk (by decide)).mk (pN _)).mk (by decide)
 ·intro k hk;simp only [Zk,YQ,or_false] at hk;rcases hk with rfl | rfl | rfl <;> refine ⟨?_,by decide⟩ <;> simp only [cv,Zu,not_or] <;> refine ⟨by simp [a7,dH.toks,kF,kD,kI,kT],fL _ _ _ (by decide),fL _ _ _ (by decide),by simp [a7,dH.toks,kF,kD,kI,kT,gj]⟩
 ·simp [a7,dH.toks,a6,kT]
theorem u7 {s:ByteArray} (root out:Nat) (hs:s.data.toList=vu root out):sD s:=by
 refine n_ ([.w [60,60] [32],.w kT.data.toList [32],.w [47,67,97,116,97,108,111,103] [32],.w [47,80,97,103,101,115] [32]]++(rf (root:Int)++nv [47,79,117,116,108,105,110,101,115] (out:Int))) [62,62] [47,67,97,116,97,108,111,103] ?_ ?_ (by decide) ?_ ?_ (.inl ⟨?_,by decide⟩)
 ·rw [hs];simp only [jQ,kW,vu];simp [h_,dH.text,kT,rf,aD]
 ·simp only [jP,gT _ _ (show fZ [47,79,117,116,108,105,110,101,115]=true by decide)];simp [jO,dH.ok,gE,kT,rf];decide
 ·rw [hs];exact ((((show ir _ by decide).mk (ly _)).mk (by decide)).mk (gi _ _ (by decide))).mk (by decide)
 ·intro k hk;simp only [Zk,YQ,or_false] at hk;rcases hk with rfl | rfl | rfl <;> refine ⟨?_,by decide⟩ <;> simp only [cv,Zu,not_or] <;> refine ⟨by simp [a7,dH.toks,kF,kD,kI,kT],by simp [a7,dH.toks,kF,kD,kI,kT,rf,gj],fL _ _ _ (by decide)⟩
 ·simp [a7,dH.toks,a6,kT]
structure zw (s:ByteArray) (w h:Int):Prop where
 f:j9 s kF 0=⟨#[]⟩
 t:j9 s kT 0=kP
 w:j9 s kM 3=⟨(bJ w).toArray⟩
 h:j9 s kM 4=⟨(bJ h).toArray⟩
 pl:∀ a,fa (s.data.toList.drop a)
theorem Ft {s:ByteArray} (font p i:Nat) (z:Int×Int) (hs:s.data.toList=vO font p i z):zw s z.1 z.2:=by
 obtain ⟨x1,hx1⟩:∃ x,x=[dH.w [60,60] [32],.w kT.data.toList [32],.w kP.data.toList [32]]:=⟨_,rfl⟩;obtain ⟨x2,hx2⟩:∃ x,x=nv [47,80,97,114,101,110,116] ((font+1+p+i / 8:Nat):Int):=⟨_,rfl⟩;obtain ⟨x3,hx3⟩:∃ x,x=[dH.w kM.data.toList [32],.b 91 [],.w [48] [32],.w [48] [32],.w (bJ z.1) [32],.wb (bJ z.2) 93 [32]]:=⟨_,rfl⟩;obtain ⟨x4,hx4⟩:∃ x,x=nv [47,67,111,110,116,101,110,116,115] ((2*i+1:Nat):Int):=⟨_,rfl⟩;obtain ⟨x5,hx5⟩:∃ x,x=[dH.w [47,82,101,115,111,117,114,99,101,115] [32],.w [60,60] [32],.w [47,70,111,110,116] [32],.w [60,60] [32]]:=⟨_,rfl⟩;obtain ⟨x6,hx6⟩:∃ x,x=nv [47,70,49] (font:Int):=⟨_,rfl⟩;obtain ⟨x7,hx7⟩:∃ x,x=[dH.w [62,62] [32],.w [62,62] [32]]:=⟨_,rfl⟩;have hs':s.data.toList=h_ (x1++(x2++(x3++(x4++(x5++(x6++x7))))))++[62,62]:=by
  rw [hs];simp only [jQ,hx2,hx4,hx6,kW,vO,pn];simp [h_,dH.text,hx1,hx3,hx5,hx7,kT,kP,kM]
 have ho:jO (x1++(x2++(x3++(x4++(x5++(x6++x7))))))=true:=by
  simp only [jP,hx2,hx4,hx6,gT _ _ (show fZ [47,80,97,114,101,110,116]=true by decide),gT _ _ (show fZ [47,67,111,110,116,101,110,116,115]=true by decide),gT _ _ (show fZ [47,70,49]=true by decide)];simp [jO,dH.ok,Ef,hx1,hx3,hx5,hx7,kT,kP,kM];decide
 have ha:ir s.data.toList:=by
  rw [hs];refine (((((((show ir _ by decide).mk (gi _ _ (by decide))).mk ?_).mk (gi _ _ (by decide))).mk (by decide)).mk (gi _ _ (by decide))).mk (by decide));exact ((((show ir _ by decide).mk (aZ _)).mk (by decide)).mk (aZ _)).mk (by decide)
 have hm3:∀ k,a6 kM.data.toList k (a7 (x1++(x2++(x3++(x4++(x5++(x6++x7)))))))=a6 kM.data.toList k (a7 (x3++(x4++(x5++(x6++x7))))):=by
  intro k;have e1:∀ ts,a6 kM.data.toList k (a7 x1++ts)=a6 kM.data.toList k ts:=by intro ts;rw [hx1];simp [a7,dH.toks,a6,kT,kP,kM]
  rw [cv,e1,cv,hx2];exact lU _ _ _ _ _ (by decide)
 refine ⟨?_,?_,?_,?_,fun a=>ha.plainly a⟩
 ·refine gm _ _ 0 hs' ho (by decide) ?_ (by decide);simp only [cv,Zu,not_or,hx2,hx4,hx6];refine ⟨?_,fL _ _ _ (by decide),?_,fL _ _ _ (by decide),?_,fL _ _ _ (by decide),?_⟩ <;> simp [a7,dH.toks,hx1,hx3,hx5,hx7,kF,kT,kP,kM,Fv]
 ·refine (ja _ _ 0 kP.data.toList hs' ho ?_);rw [cv,hx1];simp [a7,dH.toks,a6,kT]
 ·refine ja _ _ 3 (bJ z.1) hs' ho ?_;rw [hm3,hx3];simp [a7,dH.toks,a6]
 ·refine ja _ _ 4 (bJ z.2) hs' ho ?_;rw [hm3,hx3];simp [a7,dH.toks,a6]
structure vA (s:ByteArray) (t:List UInt8) (n:Nat):Prop where
 f:j9 s kF 0=⟨#[]⟩
 ty:j9 s kT 0=⟨#[]⟩
 d:j9 s kD 0=⟨#[91]⟩
 i:j9 s kI 0=⟨(bc t).toArray⟩
 d1:j9 s kD 1=⟨(Lib.itoa (n:Int)).toArray⟩
 pl:∀ a,fa (s.data.toList.drop a)
theorem Fs {s:ByteArray} (all m fp i:Nat) (t:List UInt8) (p:Nat) (hs:s.data.toList=iK all m fp i t p):vA s t (fp+p):=by
 obtain ⟨x1,hx1⟩:∃ x,x=[dH.w [60,60] [32],.w kI.data.toList [32],.q t [32]]:=⟨_,rfl⟩;obtain ⟨x2,hx2⟩:∃ x,x=nv [47,80,97,114,101,110,116] (all:Int):=⟨_,rfl⟩;obtain ⟨x3,hx3⟩:∃ x,x=nv [47,80,114,101,118] (if i=0 then 0 else ((all+i:Nat):Int)):=⟨_,rfl⟩;obtain ⟨x4,hx4⟩:∃ x,x=nv [47,78,101,120,116] (if i+1=m then 0 else ((all+i+2:Nat):Int)):=⟨_,rfl⟩;obtain ⟨x5,hx5⟩:∃ x,x=[dH.w kD.data.toList [32],.b 91 [],.w (Lib.itoa ((fp+p:Nat):Int)) [32],.w [48] [32],.w [82] [32],.wb [47,70,105,116] 93 [32]]:=⟨_,rfl⟩;have hs':s.data.toList=h_ (x1++(x2++(x3++(x4++x5))))++[62,62]:=by
  rw [hs];simp only [jQ,hx2,hx3,hx4,kW,iK];simp [h_,dH.text,hx1,hx5,kI,kD,aD]
 have ho:jO (x1++(x2++(x3++(x4++x5))))=true:=by
  simp only [jP,hx2,hx3,hx4,gT _ _ (show fZ [47,80,97,114,101,110,116]=true by decide),gT _ _ (show fZ [47,80,114,101,118]=true by decide),gT _ _ (show fZ [47,78,101,120,116]=true by decide)];simp [jO,dH.ok,gE,hx1,hx5,kI,kD];decide
 have ha:ir s.data.toList:=by
  rw [hs];exact ((((((((show ir _ by decide).mk (py _)).mk (by decide)).mk (gi _ _ (by decide))).mk (gi _ _ (by decide))).mk (gi _ _ (by decide))).mk (by decide)).mk (ly _)).mk (by decide)
 have hd5:∀ k,a6 kD.data.toList k (a7 (x1++(x2++(x3++(x4++x5)))))=a6 kD.data.toList k (a7 x5):=by
  intro k;have e1:∀ ts,a6 kD.data.toList k (a7 x1++ts)=a6 kD.data.toList k ts:=by intro ts;rw [hx1];simp [a7,dH.toks,a6,kI,kD,yP]
  rw [cv,e1,cv,cv,cv,hx2,hx3,hx4];exact (lU _ _ _ _ _ (by decide)).trans ((lU _ _ _ _ _ (by decide)).trans (lU _ _ _ _ _ (by decide)))
 refine ⟨?_,?_,?_,?_,?_,fun a=>ha.plainly a⟩
 ·refine gm _ _ 0 hs' ho (by decide) ?_ (by decide);simp only [cv,Zu,not_or,hx2,hx3,hx4];refine ⟨?_,fL _ _ _ (by decide),fL _ _ _ (by decide),fL _ _ _ (by decide),?_⟩ <;> simp [a7,dH.toks,hx1,hx5,kF,kI,kD,lN,gj]
 ·refine gm _ _ 0 hs' ho (by decide) ?_ (by decide);simp only [cv,Zu,not_or,hx2,hx3,hx4];refine ⟨?_,fL _ _ _ (by decide),fL _ _ _ (by decide),fL _ _ _ (by decide),?_⟩ <;> simp [a7,dH.toks,hx1,hx5,kT,kI,kD,lN,gj]
 ·refine ja _ _ 0 [91] hs' ho ?_;rw [hd5,hx5];simp [a7,dH.toks,a6]
 ·refine ja _ _ 0 (bc t) hs' ho ?_;rw [cv,hx1];simp [a7,dH.toks,a6,kI]
 ·refine ja _ _ 1 (Lib.itoa ((fp+p:Nat):Int)) hs' ho ?_;rw [hd5,hx5];simp [a7,dH.toks,a6]
structure sB (s:ByteArray) (t:List UInt8):Prop where
 f:j9 s kF 0=⟨#[]⟩
 ty:j9 s kT 0=⟨#[]⟩
 d:j9 s kD 0=⟨#[]⟩
 i:j9 s kI 0=⟨(bc t).toArray⟩
 pl:∀ a,fa (s.data.toList.drop a)
theorem D7 {s:ByteArray} (t:List UInt8) (hs:s.data.toList=vx t):sB s t:=by
 obtain ⟨x1,hx1⟩:∃ x,x=[dH.w [60,60] [32],.w kI.data.toList [32],.q t [32]]:=⟨_,rfl⟩;have hs':s.data.toList=h_ x1++[62,62]:=by rw [hs,vx,hx1];simp [h_,dH.text,kI]
 have ho:jO x1=true:=by rw [hx1];rfl
 have ha:ir s.data.toList:=by rw [hs];exact ((show ir _ by decide).mk (py _)).mk (by decide)
 refine ⟨?_,?_,?_,?_,fun a=>ha.plainly a⟩
 ·exact gm _ _ 0 hs' ho (by decide) (by simp [a7,dH.toks,hx1,kF,kI,lN]) (by decide)
 ·exact gm _ _ 0 hs' ho (by decide) (by simp [a7,dH.toks,hx1,kT,kI,lN]) (by decide)
 ·exact gm _ _ 0 hs' ho (by decide) (by simp [a7,dH.toks,hx1,kD,kI,lN]) (by decide)
 ·exact ja _ _ 0 (bc t) hs' ho (by simp [a7,dH.toks,a6,hx1,kI])
def qw (n:Nat) (Z:List UInt8):List UInt8:=cX n++(Z++[10,101,110,100,115,116,114,101,97,109])
structure F8 (s:ByteArray):Prop where
 f:j9 s kF 0=⟨#[47,70,108,97,116,101,68,101,99,111,100,101]⟩
 pl:∀ a,fa (s.data.toList.drop a)
theorem Fq {s:ByteArray} (n:Nat) (Z:List UInt8) (hs:s.data.toList=qw n Z):F8 s:=by
 refine ⟨ja [.w [60,60] [32],.w kF.data.toList [32],.w [47,70,108,97,116,101,68,101,99,111,100,101] [32]] ([47,76,101,110,103,116,104,32]++aD (n:Int)++[32,62,62,10,115,116,114,101,97,109,10]++(Z++[10,101,110,100,115,116,114,101,97,109])) 0 [47,70,108,97,116,101,68,101,99,111,100,101] ?_ (by decide) (by decide),?_⟩
 ·rw [hs,qw,cX];simp [h_,dH.text,kF]
 ·intro a;rw [hs,qw, <-ZS];by_cases h:a<=(cX n++Z).length+1
  ·left;simp at h ⊢;omega
  ·right;obtain ⟨j,rfl⟩:∃ j,a=(cX n++Z).length+j:=⟨a - (cX n++Z).length,by omega⟩;rw [List.drop_length_add_append];intro c hc;have:=List.mem_of_mem_drop hc;exact (show ir [10,101,110,100,115,116,114,101,97,109] by decide) c this
def kQ:Nat->List (List UInt8)->List (List UInt8)
 | _,[]=>[]
 | i,Z::r=>qw (2*i+2) Z::Lib.itoa (Z.length:Int)::kQ (i+1) r
theorem xp (i:Nat) (Z:List UInt8):d_ i Z=aK (2*i+1) (qw (2*i+2) Z)++aK (2*i+2) (Lib.itoa (Z.length:Int)):=by
 have e:fC=[10,101,110,100,115,116,114,101,97,109]++eh:=rfl;simp only [d_,aK,qw,e,ZS]
theorem qx:∀ (Zs:List (List UInt8)) (i:Nat),bW i Zs=aF (2*i+1) (kQ i Zs)
 | [],_=>rfl
 | Z::r,i=>by
  have ih:=qx r (i+1);simp only [bW,kQ,aF,ih,xp,ZS];congr 2
theorem uu:∀ (Zs:List (List UInt8)) (a i:Nat),be a i Zs=aO a (2*i+1) (kQ i Zs)
 | [],_,_=>rfl
 | Z::r,a,i=>by
  have ih:=uu r (a+(d_ i Z).length) (i+1);have e:fC=[10,101,110,100,115,116,114,101,97,109]++eh:=rfl;have e1:(aL (2*i+1)++(cX (2*i+2)++(Z++fC))).length=(aK (2*i+1) (qw (2*i+2) Z)).length:=by
   simp only [aK,qw,e,ZS]
  simp only [be,sF,kQ,aO,ih,e1,ZE,Zq];congr 3;rw [xp,ZY,show 2*i+1+1=2*i+2 from rfl];omega
theorem oD:∀ (Zs:List (List UInt8)) (i:Nat),(kQ i Zs).length=2*Zs.length
 | [],_=>rfl
 | Z::r,i=>by simp only [kQ,ZX,oD r (i+1)];omega
theorem gu:∀ (l m:List (List UInt8)) (a n:Nat),aO a n (l++m)=aO a n l++aO (a+(aF n l).length) (n+l.length) m
 | [],m,a,n=>by simp [aO,aF]
 | b::l,m,a,n=>by
  simp only [ZE,aO,aF,gu l m,ZY,ZX];congr 3 <;> omega
def bX (Zs:List (List UInt8)) (zs:List (Int×Int)) (ms:List (List UInt8×Nat)) (t:List UInt8):List (List UInt8):=kQ 0 Zs++cI (cK Zs) zs ms t
variable (Zs:List (List UInt8)) (zs:List (Int×Int)) (ms:List (List UInt8×Nat)) (t:List UInt8)
theorem jt:eH Zs zs ms t=aO 9 1 (bX Zs zs ms t):=by
 have e:(aC Zs).length=9+(aF 1 (kQ 0 Zs)).length:=by rw [aC,qx,ZY];rfl
 have e2:cK Zs=1+(kQ 0 Zs).length:=by rw [oD,cK];omega
 rw [bX,gu, <-e, <-e2];unfold eH;rw [uu]
def ft:List UInt8:=bi++aF 1 (bX Zs zs ms t)
theorem CE:aC Zs++dv Zs zs ms t=ft Zs zs ms t:=by
 have e2:cK Zs=1+(kQ 0 Zs).length:=by rw [oD,cK];omega
 unfold ft bX;rw [dX, <-e2,aC,qx,ZS];rfl
def EK:List UInt8:=bR (eH Zs zs ms t)++iL ((eH Zs zs ms t).length+1) (l7 (cK Zs) zs ms t) (fo (cK Zs) zs ms t)
def FR:List UInt8:=[120,114,101,102]++10::([48,32]++Lib.itoa (((eH Zs zs ms t).length+1:Nat):Int)++10::([48,48,48,48,48,48,48,48,48,48,32,54,53,53,51,53,32,102,32]++10::EK Zs zs ms t))
def D1 (n:Nat):List UInt8:=Lib.itoa (n:Int)++10::[37,37,69,79,70,10]
def Gn:List UInt8:=[115,116,97,114,116,120,114,101,102,10]
theorem xA:fO Zs zs ms t=ft Zs zs ms t++(FR Zs zs ms t++(Gn++D1 (ft Zs zs ms t).length)):=by
 have e:fO Zs zs ms t=(aC Zs++dv Zs zs ms t)++iE (eH Zs zs ms t) (l7 (cK Zs) zs ms t) (fo (cK Zs) zs ms t) ((aC Zs++dv Zs zs ms t).length):=by
  rw [ZY,ZS];rfl
 rw [e,CE];unfold iE fu FR EK D1 Gn;simp [ZS]
theorem xf:∀ (l:List (List UInt8)) (a n k:Nat) (hk:k < l.length),(aO a n l)[k]? =some (a+(aF n (l.take k)).length)
 | [],_,_,k,hk=>absurd hk (by simp)
 | b::r,a,n,0,_=>by simp [aO,aF]
 | b::r,a,n,k+1,hk=>by
  have:=xf r (a+(aK n b).length) (n+1) k (by simpa using hk);simp only [aO,List.getElem?_cons_succ,this,List.take_succ_cons,aF,ZY];congr 1;omega
theorem yz (l:List (List UInt8)) (n k:Nat) (hk:k < l.length):aF n l=aF n (l.take k)++(aK (n+k) l[k]++aF (n+k+1) (l.drop (k+1))):=by
 conv=>lhs;rw [<-Yq k l,Zn hk]
 rw [dX,Ze,Yr (by omega)];rfl
theorem q6 (l:List UInt8) (h0:l≠[]) (hl:∀ c∈l,48<=c.toNat/\c.toNat<=57):Lib.atoi l=some ((fS l:Nat):Int):=by
 cases l with
 | nil=>exact absurd rfl h0
 | cons c r=>
  have hc:=hl c (ZB _);show (if c==45 then _ else if c==43 then _ else (Lib.decNat (c::r)).map (fun (m:Nat)=>(m:Int)))=_
  rw [ZO (by intro e;have:=congrArg UInt8.toNat (beq_iff_eq.1 e);simp at this;omega),ZO (by intro e;have:=congrArg UInt8.toNat (beq_iff_eq.1 e);simp at this;omega)];unfold Lib.decNat;rw [ZO (by simp),l_ _ _ hl];rfl
theorem CF (n:Nat):Lib.atoi (Lib.itoa (n:Int))=some (n:Int):=by
 rw [fy,q6 _ (by rw [<-fy];exact sM _) (mV n)];rw [show fS (Lib.decDigits n)=n from mF n]
theorem wC:∀ (k:Nat),∀ c∈Lib.repeatL [48] k,c=48
 | 0,c,h=>by simp [Lib.repeatL] at h
 | k+1,c,h=>by
  simp [Lib.repeatL] at h;exact h.elim id (wC k c)
theorem EI (k:Nat):(Lib.repeatL [48] k).foldl (fun n c=>10*n+(c.toNat - 48)) 0=0:=by
 have gen:∀ l:List UInt8,(∀ c∈l,c=48)->l.foldl (fun n (c:UInt8)=>10*n+(c.toNat - 48)) 0=0:=by
  intro l;induction l with
  | nil=>intro _;rfl
  | cons c r ih=>
   intro h;have hc:=h c (ZB _);subst hc;exact ih (fun c hc=>h c (List.mem_cons_of_mem _ hc))
 exact gen _ (wC k)
theorem EW (n:Nat):∀ c∈gr n,48<=c.toNat/\c.toNat<=57:=by
 intro c hc;rcases Zu.1 hc with h | h
 ·rw [wC _ c h];decide
 ·rw [fy] at h;exact mV n c h
theorem DO (n:Nat):Lib.atoi (gr n)=some (n:Int):=by
 rw [q6 _ (by unfold gr;simp [sM]) (EW n)];unfold fS gr;rw [List.foldl_append,EI,fy];rw [show List.foldl (fun n (c:UInt8)=>10*n+(c.toNat - 48)) 0 (Lib.decDigits n)=n from mF n]
theorem A7 (s sub:List UInt8) (p k:Nat) (hp:p < k) (h:Lib.occAt s sub p=true) (hn:∀ j,p < j->j < k->Lib.occAt s sub j=false):Lib.lastOcc s sub k=p:=by
 induction k with
 | zero=>omega
 | succ k ih=>
  by_cases e:k=p
  ·subst e;exact Lib.lastOcc_hit s sub k h
  ·rw [Lib.lastOcc_miss s sub k (hn k (by omega) (by omega))];exact ih (by omega) (fun j h1 h2=>hn j h1 (by omega))
theorem wq (a t:List UInt8) (h:(115:UInt8) ∉ t):Lib.lastIndex (a++(Gn++t)) Gn=(a.length:Int):=by
 unfold Lib.lastIndex;have hl:Gn.length=10:=rfl;rw [ZN (by simp only [ZY];omega)];refine A7 _ _ a.length _ (by simp only [ZY];omega) ?_ ?_
 ·unfold Lib.occAt;rw [List.drop_left,List.isPrefixOf_iff_prefix];exact YP _ _
 ·intro j hj hk;unfold Lib.occAt;obtain ⟨i,rfl⟩:∃ i,j=a.length+(i+1):=⟨j - a.length - 1,by omega⟩;rw [List.drop_length_add_append];have hno:(115:UInt8) ∉ (Gn++t).drop (i+1):=by
   intro hm;have:(115:UInt8)∈([116,97,114,116,120,114,101,102,10]++t).drop i:=hm;rcases Zu.1 (List.mem_of_mem_drop this) with h1 | h1
   ·exact absurd h1 (by decide)
   ·exact h h1
  cases hx:(Gn++t).drop (i+1) with
  | nil=>rfl
  | cons c r=>
   rw [hx] at hno;have hc:(115:UInt8)≠c:=fun e=>hno (by rw [e];exact ZB _)
   show (List.isPrefixOf (115::_) (c::r))=false
   simp [List.isPrefixOf,hc]
theorem Fg (n:Nat):(115:UInt8) ∉ D1 n:=by
 unfold D1;intro h;rcases Zu.1 h with h | h
 ·have:=lr _ _ h;revert this;decide
 ·revert h;decide
theorem oN (z:Int):(10:UInt8) ∉ Lib.itoa z:=by
 intro h;have:=lr _ _ h;revert this;decide
end Go.Proofs.YtbklfkpjoinofaaGreatDoor
