import Derived.Test.YtbklfkpjoinofaaGreatDoorA31
import Derived.Test.YtbklfkpjoinofaaGreatDoorA28
import Derived.Test.YtbklfkpjoinofaaGreatDoorA27
set_option linter.all false
set_option maxRecDepth 100000
set_option maxHeartbeats 8000000
namespace Go.Proofs.YtbklfkpjoinofaaGreatDoor
open Go.RowKit Go.Proofs.Tryz
theorem ri (w:World) (n:Int) (h0:0<=n) (h1:n<=100000000):QE 323 #[n] w (n / 1000:Int):=by
 go_enter func323,ntmps323
 go_wp2;go_ret;exact ⟨by congr 2,rfl⟩
theorem aS.sixO {B b:Nat} {v0 v1 v2 v3 v4 v5:Value} {w:World} {S:Bl} (h:aS B b [v0,v1,v2,v3,v4,v5] w S):w.cell? b=some v0/\w.cell? (zq b 1)=some v1/\w.cell? (zq b 2)=some v2/\w.cell? (zq b 3)=some v3/\w.cell? (zq b 4)=some v4/\w.cell? (zq b 5)=some v5:=
 ⟨h.at 0 _ rfl,h.at 1 _ rfl,h.at 2 _ rfl,h.at 3 _ rfl,h.at 4 _ rfl,h.at 5 _ rfl⟩
theorem pR (w:World) (X Y W H C R:Int) (s:ByteArray) (z:Nat) (hz:C*R=(z:Int)) (hs:1+z<=s.size) (hs2:s.size<=2000000000)
  (HF:Hid (∀ wx,Below w w wx->QB 130 #[.agg #[X,Y,W,H,C,R]] wx true))
  (HB:Hid (∀ wx,QB 89 #[.agg #[X,Y,W,H,C,R]] wx (z:Int)))
  (HC:Hid (∀ wx,QB 83 #[.string (s.extract 1 (1+z))] wx (.string (s.extract 1 (1+z))))):
  QB 324 #[.agg #[X,Y,W,H,C,R],s] w (.string (s.extract 1 (1+z))):=by
 go_enter func324,ntmps324
 have HK:=ai (aS.alloc (B:=w.heap.size) (vs:=[.int .i64 X,.int .i64 Y,.int .i64 W,.int .i64 H,.int .i64 C,.int .i64 R]) (w:=w) (t:=130) (ZV _));have hb0:Below w w (w.alloc (.cells #[X,Y,W,H,C,R] 130)):=(ZQ _ w).alloc (ZV _) _;go_wp2_with fail
 refine (HF.out _ hb0).mono ?_;rintro e w1 ⟨rfl,hb1⟩;have k1:=(aS.thing _ _ _).grow HK.out hb1;obtain ⟨a0,a1,a2,a3,a4,a5⟩:=k1.sixO;clear HF;go_wp2_with fail
 refine (HB.out _).mono ?_;rintro e w2 ⟨rfl,hb2⟩;have k2:=(aS.thing _ _ _).grow k1 hb2;obtain ⟨d0,d1,d2,d3,d4,d5⟩:=k2.sixO;clear a0 a1 a2 a3 a4 a5;have dz:decide ((s.size:Int) < 1+(z:Int))=false:=by simp;omega
 go_wp2_with fail
 refine (HB.out _).mono ?_;rintro e w3 ⟨rfl,hb3⟩;clear d0 d1 d2 d3 d4 d5 HB;go_wp2_with fail
 refine (HC.out _).mono ?_;rintro e w4 ⟨rfl,hb4⟩;clear HC;go_wp2;go_ret;refine ⟨rfl,?_⟩;have g1:=hb0.trans (hb1.mono hb0.size);have g2:=g1.trans (hb2.mono g1.size);have g3:=g2.trans (hb3.mono g2.size);exact g3.trans (hb4.mono g3.size)
theorem rD (w:World) (X Y W H C R:Int) (s:ByteArray) (z:Nat) (hz:C*R=(z:Int)) (hs:1+z<=s.size) (hs2:s.size<=2000000000) (hC0:1<=C) (hC1:C<=64) (hR0:1<=R) (hR1:R<=64) (hf:br (-14400000) [X,Y]=true) (hg:br 1 [W,H]=true):
  QB 324 #[.agg #[X,Y,W,H,C,R],s] w (.string (s.extract 1 (1+z))):=by
 refine pR w X Y W H C R s z hz hs hs2 ?_ ?_ ?_
 ·intro wx _;have:=eJ wx X Y W H C R;rw [hf,hg,Zq hC0,Zq hC1,Zq hR0,Zq hR1] at this;exact this
 ·intro wx;have:=dC wx X Y W H C R (by omega) hC1 (by omega) hR1;rw [hz] at this;exact this
 ·intro wx;exact nY wx _ (by simp;omega)
def EX (z:Nat) (l:List Value) (k:Nat) (v:Value) (w:World):Prop:=
 if k=15 then ∃ g,v=.pointer (some ⟨g,0,none⟩)/\z<=g/\w.heap[g]? =some (.cells #[oz,oz,oz,oz,oz,oz] 130 (0,0)) else v=l.getD k undef
theorem Eu {z:Nat} {l:List Value} {n:Nat} (k:Nat) (v:Value) (w w':World) (_:k < n) (h:EX z l k v w) (hg:af w w'):EX z l k v w':=by
 unfold EX at h ⊢;by_cases hk:k=15
 ·rw [ZM hk] at h ⊢;obtain ⟨g,e,hz,hb⟩:=h;exact ⟨g,e,hz,(hg.block g (ZF.1 hb).1).trans hb⟩
 ·rw [ZO hk] at h ⊢;exact h
theorem uZ (w:World) (B b:Nat) (n0 n1 n2 n3 n4 n5 n6 n7 n8:Int) (k:Nat) (tx:List UInt8) (bh:ByteArray) (S:Bl) (z:Nat) (h:ic B b [n0,n1,n2,n3,n4,n5,n6,n7,n8] k tx w S) (h60:0<=n6) (h61:n6<=100000000) (h70:0<=n7) (h71:n7<=100000000)
  (HF:Hid (∀ wx,QB 324 #[.agg #[n4,n5,n0,n3,.int .i64 (n6 / 1000),.int .i64 (n7 / 1000)],bh] wx (.string (bh.extract 1 (1+z))))):
  QB 298 #[zp b,.string ⟨#[73,68]⟩,bh] w (.iface 135 (.agg #[n4,n5,n0,n3,(n6 / 1000:Int),(n7 / 1000:Int),.string (bh.extract 1 (1+z))])):=by
 have c0:w.cell? b=n0:=h.at 0 _ rfl;have c1:w.cell? (zq b 1)=n1:=h.at 1 _ rfl;have c2:w.cell? (zq b 2)=n2:=h.at 2 _ rfl;have c3:w.cell? (zq b 3)=n3:=h.at 3 _ rfl;have c4:w.cell? (zq b 4)=n4:=h.at 4 _ rfl;have c5:w.cell? (zq b 5)=n5:=h.at 5 _ rfl;have c6:w.cell? (zq b 6)=n6:=h.at 6 _ rfl;have c7:w.cell? (zq b 7)=n7:=h.at 7 _ rfl;have c8:w.cell? (zq b 8)=n8:=h.at 8 _ rfl;have W6:=ai (fun wx=>ri wx n6 h60 h61);have W7:=ai (fun wx=>ri wx n7 h70 h71);go_enter func298,ntmps298
 go_wp2_with fail
 obtain ⟨w0,hw0⟩:∃ w0,w.alloc (Obj.cells #[Value.int IntKind.i64 n0,Value.int IntKind.i64 n1,Value.int IntKind.i64 n2,Value.int IntKind.i64 n3,Value.int IntKind.i64 n4,Value.int IntKind.i64 n5,Value.int IntKind.i64 n6,Value.int IntKind.i64 n7,Value.int IntKind.i64 n8] 322)=w0:=⟨_,rfl⟩;have HN:Hid (∀ w1,af w0 w1->∀ i u,[Value.int .i64 n0,.int .i64 n1,.int .i64 n2,.int .i64 n3,.int .i64 n4,.int .i64 n5,.int .i64 n6,.int .i64 n7,.int .i64 n8][i]? =some u->w1.cell? (zq w i)=some u):=by
  intro w1 hG i u hu;rw [<-hw0] at hG;exact ((aS.thing _ _ _).grow (aS.alloc (B:=0) (vs:=[.int .i64 n0,.int .i64 n1,.int .i64 n2,.int .i64 n3,.int .i64 n4,.int .i64 n5,.int .i64 n6,.int .i64 n7,.int .i64 n8]) (w:=w) (t:=322) (YI _)) hG).at i u hu
 have hb0:Below w w w0:=by rw [<-hw0];exact (ZQ _ w).alloc (ZV _) _
 rw [hw0];clear hw0 c0 c1 c2 c3 c4 c5 c6 c7 c8 h;refine ap 16 _ (EX w0.heap.size [.pointer (some ⟨w,4,none⟩),.int .i64 n4,.pointer (some ⟨w,5,none⟩),.int .i64 n5,.pointer (some ⟨w,0,none⟩),.int .i64 n0,.pointer (some ⟨w,3,none⟩),.int .i64 n3,.pointer (some ⟨w,6,none⟩),.int .i64 n6,.int .i64 (n6 / 1000),.pointer (some ⟨w,7,none⟩),.int .i64 n7,.int .i64 (n7 / 1000),.agg #[n4,n5,n0,n3,(n6 / 1000:Int),(n7 / 1000:Int)],undef]) (by kernel_rfl) rfl (by kernel_rfl) Eu ?_;simp only [TD];refine ⟨fun w1 hG hd=>?_,fun v0=>?_⟩
 ·clear hd;go_wp2;exact RG
 simp only [TN];refine ⟨fun w1 hG hd=>?_,fun v1=>?_⟩
 ·have d0:v0=.pointer (some ⟨w,4,none⟩):=hd ⟨0,.data⟩ (by simp) rfl;clear hd;subst d0;have cc:=HN.out w1 hG 4 _ rfl;go_wp2;exact RG
 simp only [TN];refine ⟨fun w1 hG hd=>?_,fun v2=>?_⟩
 ·clear hd;go_wp2;exact RG
 simp only [TN];refine ⟨fun w1 hG hd=>?_,fun v3=>?_⟩
 ·have d2:v2=.pointer (some ⟨w,5,none⟩):=hd ⟨2,.data⟩ (by simp) rfl;clear hd;subst d2;have cc:=HN.out w1 hG 5 _ rfl;go_wp2;exact RG
 simp only [TN];refine ⟨fun w1 hG hd=>?_,fun v4=>?_⟩
 ·clear hd;go_wp2;exact RG
 simp only [TN];refine ⟨fun w1 hG hd=>?_,fun v5=>?_⟩
 ·have d4:v4=.pointer (some ⟨w,0,none⟩):=hd ⟨4,.data⟩ (by simp) rfl;clear hd;subst d4;have cc:=HN.out w1 hG 0 _ rfl;go_wp2;exact RG
 simp only [TN];refine ⟨fun w1 hG hd=>?_,fun v6=>?_⟩
 ·clear hd;go_wp2;exact RG
 simp only [TN];refine ⟨fun w1 hG hd=>?_,fun v7=>?_⟩
 ·have d6:v6=.pointer (some ⟨w,3,none⟩):=hd ⟨6,.data⟩ (by simp) rfl;clear hd;subst d6;have cc:=HN.out w1 hG 3 _ rfl;go_wp2;exact RG
 simp only [TN];refine ⟨fun w1 hG hd=>?_,fun v8=>?_⟩
 ·clear hd;go_wp2;exact RG
 simp only [TN];refine ⟨fun w1 hG hd=>?_,fun v9=>?_⟩
 ·have d8:v8=.pointer (some ⟨w,6,none⟩):=hd ⟨8,.data⟩ (by simp) rfl;clear hd;subst d8;have cc:=HN.out w1 hG 6 _ rfl;go_wp2;exact RG
 simp only [TN];refine ⟨fun w1 hG hd=>?_,fun v10=>?_⟩
 ·have d9:v9=.int .i64 n6:=hd ⟨9,.data⟩ (by simp) rfl;clear hd;subst d9;have HX:=ai (W6.out w1);go_wp2_with fail
  refine HX.out.mono ?_;rintro e w2 ⟨rfl,rfl⟩;go_wp2;exact RG
 simp only [TN];refine ⟨fun w1 hG hd=>?_,fun v11=>?_⟩
 ·clear hd;go_wp2;exact RG
 simp only [TN];refine ⟨fun w1 hG hd=>?_,fun v12=>?_⟩
 ·have d11:v11=.pointer (some ⟨w,7,none⟩):=hd ⟨11,.data⟩ (by simp) rfl;clear hd;subst d11;have cc:=HN.out w1 hG 7 _ rfl;go_wp2;exact RG
 simp only [TN];refine ⟨fun w1 hG hd=>?_,fun v13=>?_⟩
 ·have d12:v12=.int .i64 n7:=hd ⟨12,.data⟩ (by simp) rfl;clear hd;subst d12;have HX:=ai (W7.out w1);go_wp2_with fail
  refine HX.out.mono ?_;rintro e w2 ⟨rfl,rfl⟩;go_wp2;exact RG
 simp only [TN];refine ⟨fun w1 hG hd=>?_,fun v14=>?_⟩
 ·have d1:v1=.int .i64 n4:=hd ⟨1,.data⟩ (by simp) rfl;have d3:v3=.int .i64 n5:=hd ⟨3,.data⟩ (by simp) rfl;have d5:v5=.int .i64 n0:=hd ⟨5,.data⟩ (by simp) rfl;have d7:v7=.int .i64 n3:=hd ⟨7,.data⟩ (by simp) rfl;have d10:v10=.int .i64 (n6 / 1000):=hd ⟨10,.data⟩ (by simp) rfl;have d13:v13=.int .i64 (n7 / 1000):=hd ⟨13,.data⟩ (by simp) rfl;clear hd;subst d1 d3 d5 d7 d10 d13;go_wp2;exact RG
 simp only [TN];refine ⟨fun w1 hG hd=>?_,fun v15=>?_⟩
 ·clear hd;go_wp2;exact ⟨⟨_,rfl,ZU (by simp) hG.size,ZB _ _⟩,(ZQ _ _).alloc (ZV _) _⟩
 simp only [TN];intro w1 hG hd;have d14:v14=.agg #[n4,n5,n0,n3,(n6 / 1000:Int),(n7 / 1000:Int)]:=hd 14 (by omega);obtain ⟨g,d15,hzg,hbg⟩:∃ g,v15=.pointer (some ⟨g,0,none⟩)/\w0.heap.size<=g/\w1.heap[g]? =some (.cells #[oz,oz,oz,oz,oz,oz] 130 (0,0)):=hd 15 (by omega);clear hd;subst d14 d15;have hrow:=YK w1 g _ #[n4,n5,n0,n3,(n6 / 1000:Int),(n7 / 1000:Int)] _ _ hbg;have hb1:Below w w (w1.setRow g #[n4,n5,n0,n3,(n6 / 1000:Int),(n7 / 1000:Int)]):=by
  have h1:=hb0.trans (hG.mono hb0.size);refine ⟨h1.os,h1.tape,h1.output,ZU h1.size (Nat.le_of_eq (by simp [World.setRow])),fun k hk=>?_⟩;exact (setRow_other _ _ _ _ (by have:=hb0.size;omega)).trans (h1.block k hk)
 refine Zi rfl 130 (.tmp 8) (.tmp 72) rfl g #[n4,n5,n0,n3,(n6 / 1000:Int),(n7 / 1000:Int)] rfl rfl _ _ hbg (by kernel_rfl) rfl (by kernel_rfl) ?_;generalize w1.setRow g #[n4,n5,n0,n3,(n6 / 1000:Int),(n7 / 1000:Int)]=w2 at hrow hb1 ⊢;have e0:=Zw _ _ 0 _ _ _ hrow;have e1:=Zw _ _ 1 _ _ _ hrow;have e2:=Zw _ _ 2 _ _ _ hrow;have e3:=Zw _ _ 3 _ _ _ hrow;have e4:=Zw _ _ 4 _ _ _ hrow;have e5:=Zw _ _ 5 _ _ _ hrow;simp at e0 e1 e2 e3 e4 e5;have hlt:g < w2.heap.size:=(ZF.1 hrow).1;have HR:=ai (fun w9 (hB:Below w2 w2.drew w9)=>(hB.block g hlt).trans hrow);have HB1:=ai hb1;clear HN W6 W7 hbg hG hb0 hb1;go_wp2_with fail
 simp only [Act.put];go_region_law (rw [ZM (by simp [Region.wanted])];go_wp2_with fail;go_at_call 324;refine (HF.out _).mono ?_;rintro e w9 ⟨rfl,hB9⟩;have r9:=HR.out w9 hB9;have g0:=Zw _ _ 0 _ _ _ r9;have g1:=Zw _ _ 1 _ _ _ r9;have g2:=Zw _ _ 2 _ _ _ r9;have g3:=Zw _ _ 3 _ _ _ r9;have g4:=Zw _ _ 4 _ _ _ r9;have g5:=Zw _ _ 5 _ _ _ r9;simp at g0 g1 g2 g3 g4 g5;dsimp only)
 all_goals
  go_wp2;go_ret;refine ⟨rfl,HB1.out.trans ?_⟩;exact (below_drewN (n:=1) hB9).mono HB1.out.size
section
open Go.RowKit Go.Shelf
attribute [local go_sem] Oper.semAt_some
def gT (s:ByteArray) (a:Nat):ByteArray:=s.extract (a+lK s a) (a+lK s a+rd s (a+lK s a))
def gm (s:ByteArray) (a:Nat):Nat:=a+lK s a+rd s (a+lK s a)
structure za (s:ByteArray) (a:Nat):Prop where
 pl:ed (s.data.toList.drop (a+lK s a))
 ne:rd s (a+lK s a)≠0
abbrev pF:=List Int×Nat×List UInt8
inductive DD (s:ByteArray) (Nx:Nat->pF->pF->Prop) (Fin:Nat->pF->TypeId->Value->Prop):Nat->pF->TypeId->Value->Prop
 | step {a:Nat} {st st':pF} {t:TypeId} {v:Value}:za s a->Nx a st st'->DD s Nx Fin (gm s a) st' t v->DD s Nx Fin a st t v
 | fin {a:Nat} {st:pF} {t:TypeId} {v:Value}:za s a->Fin a st t v->DD s Nx Fin a st t v
theorem DD.ok {s:ByteArray} {Nx:Nat->pF->pF->Prop} {Fin:Nat->pF->TypeId->Value->Prop} {a:Nat} {st:pF} {t:TypeId} {v:Value} (h:DD s Nx Fin a st t v):za s a:=by
 cases h with
 | step h _ _=>exact h
 | fin h _=>exact h
theorem xF (s:ByteArray) (w:World) (hs:s.size<=2000000000) (T:TypeId) (V:Value) (Nx:Nat->pF->pF->Prop) (Fin:Nat->pF->TypeId->Value->Prop)
  (HD:Hid (DD s Nx Fin 0 ([0,0,0,0,0,0,0,0,0],0,[]) T V))
  (HE1:Hid (∀ (a:Nat) (st st':pF) (W:World) (b:Nat) (S:Bl),Nx a st st'->Below w w W->ic w.heap.size b st.1 st.2.1 st.2.2 W S->CP 298 #[zp b,.string (gT s a),.string (s.extract (gm s a) s.size)] W fun e W'=>e=.returned .nilIface/\Below W W W'))
  (HT:Hid (∀ (a:Nat) (st st':pF) (W:World) (b:Nat) (S:Bl),Nx a st st'->Below w w W->ic w.heap.size b st.1 st.2.1 st.2.2 W S->CP 299 #[zp b,.string (gT s a)] W fun e W'=>e=.returned true/\ic w.heap.size b st'.1 st'.2.1 st'.2.2 W' S/\Mv S W S W'))
  (HE2:Hid (∀ (a:Nat) (st:pF) (W:World) (b:Nat) (S:Bl),Fin a st T V->Below w w W->ic w.heap.size b st.1 st.2.1 st.2.2 W S->CP 298 #[zp b,.string (gT s a),.string (s.extract (gm s a) s.size)] W fun e W'=>e=.returned (.iface T V)/\Below W W W')):
  QB 264 #[s] w (.iface T V):=by
 have HO:=ai (C8 s);have HQ:=ai (fun B b=>C9 B b s hs);refine (callsIn_wide (n:=0)).1 ?_;refine callsIn_of_wp_marks func264 rfl trivial ?_ rfl;simp only [ntmps264,List.size_toArray,ZX,ZS,Nat.reduceAdd,Nat.reduceSub,Array.replicate_succ,Array.replicate_zero,List.push_toArray,List.append_toArray,Zt,ZG]
 gi_wp2
 refine ⟨trivial,rfl,(callsIn_wide.2 (HO.out _)).mono ?_⟩;rintro e W' ⟨rfl,rfl⟩;obtain ⟨n,hn⟩:∃ n,w.heap.size=n:=⟨_,rfl⟩;rw [hn] at HE1 HT HE2;obtain ⟨wa,hwa⟩:∃ wa,(w.alloc (Obj.cells #[Value.string s] 9)).alloc (Obj.cells #[Value.nilIface] 138)=wa:=⟨_,rfl⟩;obtain ⟨wb,hwb⟩:∃ wb,wa.alloc (Obj.cells #[Value.int IntKind.i64 0,Value.int IntKind.i64 0,Value.int IntKind.i64 0,Value.int IntKind.i64 0,Value.int IntKind.i64 0,Value.int IntKind.i64 0,Value.int IntKind.i64 0,Value.int IntKind.i64 0,Value.int IntKind.i64 0,Value.int IntKind.i64 0,Value.string ⟨#[]⟩] 324)=wb:=⟨_,rfl⟩;obtain ⟨S1,b1⟩:=(Bx.nil w.heap.size w (ZV _)).snoc [.string s] 9 (by simp);obtain ⟨S2,b2⟩:=b1.snoc [.nilIface] 138 (by simp);have hza:wa.heap.size=n+2:=by rw [<-hwa];simp [hn]
 have hzb:wb.heap.size=n+3:=by rw [<-hwb];simp [hza]
 have ba:Below n w wa:=by rw [<-hwa, <-hn];exact ((ZQ _ w).alloc (ZV _) _).alloc (by simp) _
 have bb:Below n w wb:=by rw [<-hwb];exact ba.alloc (by omega) _
 rw [hn] at b2;have b2':Bx n n [[.string s],[.nilIface]] wa S2:=by rw [<-hwa];exact b2
 have hO:ic n (n+2) [0,0,0,0,0,0,0,0,0] 0 [] wb (cC (n+2)):=by
  have:=aS.alloc (B:=n) (vs:=[Value.int IntKind.i64 0,Value.int IntKind.i64 0,Value.int IntKind.i64 0,Value.int IntKind.i64 0,Value.int IntKind.i64 0,Value.int IntKind.i64 0,Value.int IntKind.i64 0,Value.int IntKind.i64 0,Value.int IntKind.i64 0,Value.int IntKind.i64 0,Value.string ⟨#[]⟩]) (w:=wa) (t:=324) (by omega);rw [hza] at this;rw [<-hwb];exact this
 have hwab:Below wa wa wb:=by rw [<-hwb];exact (ZQ _ wa).alloc (ZV _) _
 obtain ⟨st1,_⟩:=ah.new (Bx.thing n _ _) b2' hO hwab (fun k e=>by have e':k=n+2:=e;omega);have hCs:=aS.alloc (B:=n) (vs:=[.string s]) (w:=wb) (t:=9) (by omega);rw [hzb] at hCs;obtain ⟨st2,_⟩:=ah.new (ah.thing (ic.thing _ _ _ _ _) (Bx.thing _ _ _)) st1 hCs ((ZQ _ wb).alloc (ZV _) _) (fun k e=>by have e':k=n+3:=e;omega);clear b1 b2 b2' hO hCs;obtain ⟨W1,hW1⟩:∃ W1,wb.alloc (Obj.cells #[Value.string s] 9)=W1:=⟨_,rfl⟩;have st2':ah (aS n (n+3) [.string s]) (ah (ic n (n+2) [0,0,0,0,0,0,0,0,0] 0 []) (Bx n n [[.string s],[.nilIface]])) W1 (cT (cC (n+3)) (cT (cC (n+2)) S2)):=by rw [<-hW1];exact st2
 have hbel:Below n w W1:=by rw [<-hW1];exact bb.alloc (by omega) _
 have hwb1:n<=W1.heap.size:=by rw [<-hW1];simp [hzb];omega
 rw [hwa,hwb,hW1];clear hwa hwb hW1 st1 st2 hza ba bb hwab
 gi_wp2
 have hge:=fun k=>(ah.thing (aS.thing n (n+3) [.string s]) (ah.thing (ic.thing n (n+2) [0,0,0,0,0,0,0,0,0] 0 []) (Bx.thing n n [[.string s],[.nilIface]]))).ge (k:=k) st2'
 refine mc (B:=n) rfl (fun _=>trivial) rfl rfl (enters_of func256 (by kernel_rfl) rfl) (HQ.out _ _) (fun _ _=>trivial) (aS.thing _ _ _) ?hps
  (fun a W S=>∃ st:pF,DD s Nx Fin a st T V/\ah (ic n (n+2) st.1 st.2.1 st.2.2) (Bx n n [[.string s],[.nilIface]]) W S)
  (fun j W S=>∃ st:pF,j=.ret/\ah (ic n (n+2) st.1 st.2.1 st.2.2) (Bx n n [[.string s],[.iface T V]]) W S) ?hI ?hIx (fun a W S ⟨st,hr,_⟩=>hr.ok.pl) hwb1 (ah.mapR st2' fun W S h=>⟨_,HD.out,h⟩) ?round ?done ?stop
 case hps=>
  rintro a args a' ⟨_,_,_,_,rfl⟩;rfl
 case hI=>exact fun a=>aJ.any fun c=>aJ.pure (ah.thing (ic.thing _ _ _ _ _) (Bx.thing _ _ _))
 case hIx=>exact fun j=>aJ.any fun c=>aJ.pure (ah.thing (ic.thing _ _ _ _ _) (Bx.thing _ _ _))
 case round=>
  rintro l a args a' W0 ⟨ha,h0,hle,rfl,rfl⟩
  gi_wp2
  refine ⟨trivial,?_⟩;rintro W S ⟨st,hr,hst⟩ hbw';have hbw:Below n w W:=hbel.trans hbw';have HR:=ai hr;obtain ⟨SO,kO,_,backO⟩:=ah.fst (Bx.thing n n [[.string s],[.nilIface]]) hst;obtain ⟨SB,kB,_,backB⟩:=ah.snd (ic.thing n (n+2) st.1 st.2.1 st.2.2) hst;have c0:W.cell? n=s:=kB.at 0 0 _ _ rfl rfl;have hi1:(a:Int)+(lK s a:Int)+(rd s (a+lK s a):Int)=(gm s a:Nat):=by unfold gm;omega
  have hi2:gm s a<=s.size:=hle;have ht:s.extract (a+lK s a) (a+lK s a+rd s (a+lK s a))=gT s a:=rfl;rw [hi1,ht];clear hi1 ht hr
  cases HR.out with
  | step hok hn hrest=>
   gi_wp2
   refine ⟨trivial,rfl,(CallsIn.inRound l (callsIn_wide.2 (HE1.out a st _ W (n+2) SO hn hbw kO))).mono ?_⟩;rintro e w1 ⟨rfl,hb1⟩;have k1:=(ic.thing _ _ _ _ _).grow kO hb1;obtain ⟨S3,hst1,m1⟩:=backO _ _ _ k1 (Mv.grow hb1 SO)
   gi_wp2
   obtain ⟨SO1,kO1,_,backO1⟩:=ah.fst (Bx.thing n n [[.string s],[.nilIface]]) hst1;refine ⟨trivial,rfl,(CallsIn.inRound l (callsIn_wide.2 (HT.out a st _ w1 (n+2) SO1 hn (hbw.trans (hb1.mono (ZU (by omega) hbw.size))) kO1))).mono ?_⟩;rintro e w2 ⟨rfl,k2,m2⟩;obtain ⟨S4,hst2,m3⟩:=backO1 _ _ _ k2 m2
   gi_wp2
   exact ⟨S4,⟨_,hrest,hst2⟩,m1.trans m3⟩
  | fin hok hf=>
   gi_wp2
   refine ⟨trivial,rfl,(CallsIn.inRound l (callsIn_wide.2 (HE2.out a st W (n+2) SO hf hbw kO))).mono ?_⟩;rintro e w1 ⟨rfl,hb1⟩;have k1:=(ic.thing _ _ _ _ _).grow kO hb1;obtain ⟨S3,hst1,m1⟩:=backO _ _ _ k1 (Mv.grow hb1 SO);obtain ⟨SB1,kB1,_,backB1⟩:=ah.snd (ic.thing n (n+2) st.1 st.2.1 st.2.2) hst1;have c1:w1.cell? (zp (n+1))=some .nilIface:=kB1.at 1 0 _ _ rfl rfl;have f1:w1.frozen? (zp (n+1))=false:=kB1.fz 1 0 (by simp)
   gi_wp2
   obtain ⟨b',m'⟩:=kB1.set 1 0 _ (.iface T V) rfl (by simp);obtain ⟨S4,hst2,m3⟩:=backB1 _ _ _ b' m';exact ⟨S4,⟨_,rfl,hst2⟩,m1.trans m3⟩
 case done=>
  rintro D a W S' ⟨ha,hn0⟩ hs' hm;obtain ⟨T1,k1,_,_⟩:=ah.fst (Ob.thing _ _ _) hs';obtain ⟨T2,⟨st,hr,_⟩,_,_⟩:=ah.snd (aS.thing _ _ _) k1;exact absurd hn0 hr.ok.ne
 case stop=>
  rintro D c W S' hs' hm;obtain ⟨T1,k1,_,back1⟩:=ah.fst (Ob.thing _ _ _) hs';obtain ⟨T3,k3,_,back3⟩:=ah.snd (ah.thing (aS.thing _ _ _) (aJ.any fun c=>aJ.pure (ah.thing (ic.thing _ _ _ _ _) (Bx.thing _ _ _)))) hs';have hK:=k3.2.2;obtain ⟨T2,k2,_,back2⟩:=ah.snd (aS.thing _ _ _) k1;obtain ⟨st,rfl,hst⟩:=k2
  gi_wp2
  obtain ⟨p6,m6⟩:=k3.put (.deferred none);obtain ⟨T7,k7,m7⟩:=back3 _ _ _ p6 m6;obtain ⟨T8,k8,_,_⟩:=ah.fst (Ob.thing _ _ _) k7;obtain ⟨T9,⟨_,_,k9⟩,_,_⟩:=ah.snd (aS.thing _ _ _) k8;obtain ⟨TB,kB,_,_⟩:=ah.snd (ic.thing _ _ _ _ _) k9;have hc5:(W.putObj D (.deferred none)).cell? (zp (n+1))=some (.iface T V):=kB.at 1 0 _ _ rfl rfl;refine ⟨by simp,.inl ⟨_,_,rfl,run_takeDeferred hK,?_⟩⟩;refine ⟨.iface T V,?_,rfl,?_⟩
  ·simp [results,f264,go_sem,hc5]
  ·exact hbel.trans (((hm.trans m7).below hge hwb1).mono (ZV _))
end
theorem vg:∀ (g l:List UInt8),(∀ c∈g,bX c=true)->(∀ c r,l=c::r->bX c=false)->va (g++l)=g.length
 | [],l,_,h=>by
  cases l with
  | nil=>rfl
  | cons c r=>
   show ((c::r).takeWhile bX).length=0
   rw [List.takeWhile_cons_of_neg (by rw [h c r rfl];decide)];rfl
 | c::g,l,hg,h=>by
  have ih:=vg g l (fun x hx=>hg x (List.mem_cons_of_mem _ hx)) h;show ((c::(g++l)).takeWhile bX).length=g.length+1
  rw [List.takeWhile_cons_of_pos (hg c (Zy _)),ZX];exact congrArg (·+1) ih
def cL (c:UInt8):Bool:=!(jf.contains c)
theorem na:∀ (t r:List UInt8),(∀ c∈t,cL c=true)->(∀ c q,r=c::q->cL c=false)->Lib.indexAny (t++r) jf=if r=[] then -1 else (t.length:Int)
 | [],r,_,h=>by
  cases r with
  | nil=>rfl
  | cons c q=>
   have hc:=h c q rfl;have hc':jf.contains c=true:=by unfold cL at hc;simpa using hc
   show Lib.indexAny (c::q) jf=_
   unfold Lib.indexAny;rw [ZM hc',ZO (by simp)];rfl
 | x::t,r,ht,h=>by
  have ih:=na t r (fun c hc=>ht c (List.mem_cons_of_mem _ hc)) h;have hx:=ht x (Zy _);have hx':¬ (jf.contains x=true):=by unfold cL at hx;simpa using hx
  show Lib.indexAny (x::(t++r)) jf=_
  unfold Lib.indexAny;rw [ZO hx',ih];by_cases hr:r=[]
  ·rw [ZM hr,ZM (by decide),ZM hr]
  ·rw [ZO hr,ZO (by simp),ZO hr];simp
theorem jo {c:UInt8} (h:cL c=true):c.toNat≠40/\c.toNat≠91/\c.toNat≠93/\bX c=false:=by
 have hh:¬ c∈jf:=by unfold cL at h;simpa using h
 simp only [jf,Zl,YU,or_false,not_or] at hh;obtain ⟨h1,h2,h3,h4,h5⟩:=hh;have ne:∀ d:UInt8,c≠d->c.toNat≠d.toNat:=fun d hd e=>hd (UInt8.toNat_inj.1 e)
 refine ⟨ne 40 h5,ne 91 h3,ne 93 h4,?_⟩;unfold bX;simp [h1,h2]
theorem s6 (t r:List UInt8) (h0:t≠[]) (ht:∀ c∈t,cL c=true) (hr:∀ c q,r=c::q->cL c=false):lu (t++r)=t.length:=by
 cases t with
 | nil=>exact absurd rfl h0
 | cons x t=>
  obtain ⟨h40,h91,h93,_⟩:=jo (ht x (Zy _));have hi:=na (x::t) r ht hr;show (if x.toNat=40 then wu (dQ (t++r)) else if x.toNat=91\/x.toNat=93 then 1 else if 0<=Lib.indexAny (x::(t++r)) jf then (Lib.indexAny (x::(t++r)) jf).toNat else (t++r).length+1)=_
  rw [ZO h40,ZO (by rintro (e | e);exact h91 e;exact h93 e)];rw [<-ZG,hi];by_cases hr0:r=[]
  ·rw [ZM hr0,ZO (by decide),hr0,YX];rfl
  ·rw [ZO hr0,ZM (by omega)];rfl
theorem wt:∀ (l r:List UInt8),dQ (bH l++41::r)=some ((bH l).length+1)
 | [],r=>by
  cases r with
  | nil=>rfl
  | cons d q=>rfl
 | c::l,r=>by
  have ih:=wt l r;obtain ⟨m,hm⟩:∃ m,bH l++41::r=m:=⟨_,rfl⟩;have hne:m≠[]:=by rw [<-hm];simp
  rw [hm] at ih;show dQ ((eS c++bH l)++41::r)=some ((eS c++bH l).length+1)
  rw [ZT,hm,ZY];have cC:∀ (x:UInt8) (q:List UInt8) (n:Nat),q≠[]->x.toNat≠41->x.toNat≠92->dQ q=some n->dQ (x::q)=some (n+1):=by
   intro x q n hq h1 h2 h
   cases q with
   | nil=>exact absurd rfl hq
   | cons d q=>simp [dQ,h1,h2,h]
  have two:∀ (y:UInt8) (q:List UInt8) (n:Nat),dQ q=some n->dQ (92::y::q)=some (n+2):=by
   intro y q n h;simp [dQ,h]
  have dig:∀ k:Nat,k < 10->(UInt8.ofNat (48+k)).toNat=48+k:=fun k hk=>by rw [YZ];omega
  unfold eS;split
  ·have hc:=c.toNat_lt;have d2:=dig (c.toNat / 8 % 8) (by omega);have d3:=dig (c.toNat % 8) (by omega);have e3:=cC (UInt8.ofNat (48+c.toNat % 8)) m _ hne (by omega) (by omega) ih;have e2:=cC (UInt8.ofNat (48+c.toNat / 8 % 8)) _ _ (by simp) (by omega) (by omega) e3;have e1:=two (UInt8.ofNat (48+c.toNat / 64)) _ _ e2;simp only [ZG,Zt];rw [e1];simp only [ZX,ZS];congr 1;omega
  ·split
   ·have e1:=two c m _ ih;simp only [ZG,Zt];rw [e1];simp only [ZX,ZS];congr 1;omega
   ·next h1 h2=>
    have e1:=cC c m _ hne (by omega) (by omega) ih;simp only [ZG,Zt];rw [e1];simp only [ZX,ZS];congr 1;omega
theorem wC (l r:List UInt8):lu (bc l++r)=(bc l).length:=by
 unfold bc;show lu (40::(bH l++[41])++r)=_
 rw [ZG,ZT];have e:lu (40::(bH l++([41]++r)))=wu (dQ (bH l++41::r)):=by
  rw [lu];exact ZM (by decide)
 rw [e,wt];show (bH l).length+1+1=_
 simp
theorem Dx (c:UInt8) (r:List UInt8) (h:c.toNat=91\/c.toNat=93):lu (c::r)=1:=by
 show (if c.toNat=40 then _ else if c.toNat=91\/c.toNat=93 then 1 else _)=1
 rw [ZO (by omega),ZM h]
structure At (s:ByteArray) (a:Nat) (g t r:List UInt8):Prop where
 eq:s.data.toList.drop a=g++(t++r)
 gap:∀ c∈g,bX c=true
 hd:∀ c q,t++r=c::q->bX c=false
 len:lu (t++r)=t.length
 ne:t≠[]
variable {s:ByteArray} {a:Nat} {g t r:List UInt8}
theorem At.gp (h:At s a g t r):lK s a=g.length:=by unfold lK;rw [h.eq];exact vg g _ h.gap h.hd
theorem At.drop1 (h:At s a g t r):s.data.toList.drop (a+lK s a)=t++r:=by
 rw [h.gp, <-List.drop_drop,h.eq,List.drop_left]
theorem At.tk (h:At s a g t r):rd s (a+lK s a)=t.length:=by unfold rd;rw [h.drop1];exact h.len
theorem At.tkne (h:At s a g t r):rd s (a+lK s a)≠0:=by
 rw [h.tk];intro e;exact h.ne (Zr e)
theorem At.tok (h:At s a g t r):(gT s a).data.toList=t:=by
 unfold gT;rw [Zd,YR];simp only [List.extract,Xx];rw [h.drop1,h.tk,List.take_left]
theorem At.nxt (h:At s a g t r):s.data.toList.drop (gm s a)=r:=by
 unfold gm;rw [h.tk, <-List.drop_drop,h.drop1,List.drop_left]
theorem At.behind (h:At s a g t r):(s.extract (gm s a) s.size).data.toList=r:=by rw [iA,h.nxt]
theorem At.okay (h:At s a g t r) (hp:ed (t++r)):za s a:=⟨by rw [h.drop1];exact hp,h.tkne⟩
theorem At.word (e:s.data.toList.drop a=g++(t++r)) (hg:∀ c∈g,bX c=true) (h0:t≠[]) (ht:∀ c∈t,cL c=true) (hr:∀ c q,r=c::q->cL c=false):At s a g t r:=by
 refine ⟨e,hg,?_,s6 t r h0 ht hr,h0⟩;intro c q hq
 cases t with
 | nil=>exact absurd rfl h0
 | cons x t=>cases hq;exact (jo (ht _ (Zy _))).2.2.2
theorem At.str {l:List UInt8} (e:s.data.toList.drop a=g++(bc l++r)) (hg:∀ c∈g,bX c=true):At s a g (bc l) r:=by
 refine ⟨e,hg,?_,wC l r,by simp [bc]⟩;intro c q hq;have:c=40:=by unfold bc at hq;simp at hq;exact hq.1.symm
 rw [this];decide
theorem ES {l:List Int} (h:l.length=9):∃ n0 n1 n2 n3 n4 n5 n6 n7 n8,l=[n0,n1,n2,n3,n4,n5,n6,n7,n8]:=by
 match l,h with
 | [n0,n1,n2,n3,n4,n5,n6,n7,n8],_=>exact ⟨n0,n1,n2,n3,n4,n5,n6,n7,n8,rfl⟩
inductive EJ (s:ByteArray) (a:Nat):pF->pF->Prop
 | word {st:pF} {c:UInt8} {q:List UInt8}:(gT s a).data.toList=c::q->c.toNat≠40->c.toNat≠45->(c.toNat < 48\/57 < c.toNat)->c::q≠[69,84]->c::q≠[83]->c::q≠[102]->c::q≠[73,68]->st.1.length=9->EJ s a st st
 | num {ns:List Int} {k:Nat} {tx:List UInt8} {z:Int}:(gT s a).data.toList=bJ z->-100000000<=z->z<=100000000->k < 9->ns.length=9->EJ s a (ns,k,tx) (ns.set k z,k+1,tx)
 | str {ns:List Int} {k:Nat} {tx l:List UInt8}:(gT s a).data.toList=bc l->l.length<=100->ns.length=9->EJ s a (ns,k,tx) (ns,k,l)
inductive DB (s:ByteArray) (a:Nat):pF->TypeId->Value->Prop
 | text {n0 n1 n2 n3 n4 n5 n6 n7 n8:Int} {k:Nat} {tx:List UInt8}:(gT s a).data.toList=[69,84]->DB s a ([n0,n1,n2,n3,n4,n5,n6,n7,n8],k,tx) 215 (.agg #[n1,n2,n0,.string ⟨tx.toArray⟩])
 | line {n0 n1 n2 n3 n4 n5 n6 n7 n8:Int} {k:Nat} {tx:List UInt8}:(gT s a).data.toList=[83]->DB s a ([n0,n1,n2,n3,n4,n5,n6,n7,n8],k,tx) 217 (.agg #[n1,n2,n3,n4,n0])
 | rect {n0 n1 n2 n3 n4 n5 n6 n7 n8:Int} {k:Nat} {tx:List UInt8}:(gT s a).data.toList=[102]->DB s a ([n0,n1,n2,n3,n4,n5,n6,n7,n8],k,tx) 219 (.agg #[n1,n2,n3,n4,n0])
 | image {n0 n1 n2 n3 n4 n5 n6 n7 n8:Int} {k z:Nat} {tx:List UInt8}:(gT s a).data.toList=[73,68]->0<=n6->n6<=100000000->0<=n7->n7<=100000000->n6 / 1000*(n7 / 1000)=(z:Int)->gm s a+1+z<=s.size->1<=n6 / 1000->n6 / 1000<=64->1<=n7 / 1000->n7 / 1000<=64->br (-14400000) [n4,n5]=true->br 1 [n0,n3]=true->
   DB s a ([n0,n1,n2,n3,n4,n5,n6,n7,n8],k,tx) 135 (.agg #[n4,n5,n0,n3,(n6 / 1000:Int),(n7 / 1000:Int),.string ((s.extract (gm s a) s.size).extract 1 (1+z))])
theorem rf {t:ByteArray} {l:List UInt8} (h:t.data.toList=l):t=⟨l.toArray⟩:=Zh (Array.toList_inj.1 (by rw [h]))
theorem oy (z:Int):∃ c q,bJ z=c::q/\(c.toNat=45\/48<=c.toNat/\c.toNat<=57):=by
 unfold bJ;by_cases hz:z < 0
 ·rw [ZM hz];exact ⟨45,_,rfl,.inl rfl⟩
 ·rw [ZO hz,Zt,eP];have hpos:0 < (Lib.decDigits (z.natAbs / 1000)).length:=by rw [Lib.decDigits_length];exact Lib.nDigits_pos _
  cases hh:Lib.decDigits (z.natAbs / 1000) with
  | nil=>rw [hh] at hpos;simp at hpos
  | cons c r=>exact ⟨c,_,rfl,.inr (mV _ c (by rw [hh];exact Zy _))⟩
theorem tG {t:ByteArray} {c:UInt8} {q:List UInt8} (h:t.data.toList=c::q):∃ h0:0 < t.size,t[0]=c:=by
 have hl:0 < t.size:=by rw [<-aP,h];simp
 refine ⟨hl,?_⟩;have e:t.data.toList[0]'(by rw [h];simp)=c:=by simp [h]
 exact e
theorem wG {t:ByteArray} {c:UInt8} {q:List UInt8} (h:t.data.toList=c::q) (hc:c.toNat < 60):(t.toList==[69,84])=false/\(t.toList==[83])=false/\(t.toList==[102])=false/\(t.toList==[73,68])=false:=by
 rw [Zn,h];refine ⟨?_,?_,?_,?_⟩ <;>
 ·simp;intro e;rw [e] at hc;exact absurd hc (by decide)
theorem mO (B:Nat) (s:ByteArray) (w:World) (hs:s.size<=2000000000) (hBw:B<=w.heap.size) (ht:bU B w) (hm:ft B w) (T:TypeId) (V:Value) (hd:DD s (EJ s) (DB s) 0 ([0,0,0,0,0,0,0,0,0],0,[]) T V):
  QB 264 #[s] w (.iface T V):=by
 refine xF s w hs T V (EJ s) (DB s) hd ?_ ?_ ?_
 ·intro a st st' W b S hn hb hO;have h9:st.1.length=9:=by cases hn <;> assumption
  have hw:((gT s a).toList==[69,84])=false/\((gT s a).toList==[83])=false/\((gT s a).toList==[102])=false/\((gT s a).toList==[73,68])=false:=by
   cases hn with
   | word h _ _ _ h1 h2 h3 h4 _=>
    rw [Zn,h];exact ⟨Yv.2 h1,Yv.2 h2,Yv.2 h3,Yv.2 h4⟩
   | num h _ _ _ _=>
    obtain ⟨c,q,e,hc⟩:=oy _;rw [e] at h;exact wG h (by omega)
   | str h _ _=>exact wG (c:=40) h (by decide)
  obtain ⟨n0,n1,n2,n3,n4,n5,n6,n7,n8,e⟩:=ES h9;rw [e] at hO;exact xz W w.heap.size b n0 n1 n2 n3 n4 n5 n6 n7 n8 _ _ _ S hO _ hw.1 hw.2.1 hw.2.2.1 hw.2.2.2
 ·intro a st st' W b S hn hb hO;have hB:w.heap.size<=W.heap.size:=hb.size
  cases hn with
  | word h h40 h45 hdg _ _ _ _ _=>
   obtain ⟨h0,hc⟩:=tG h;refine (BZ W b (gT s a) _ h0 hc h40 h45 hdg).mono ?_;rintro e w' ⟨rfl,rfl⟩;exact ⟨rfl,hO,Mv.refl _ _⟩
  | num h hz0 hz1 hk h9=>
   obtain ⟨c,q,e,hc⟩:=oy _;obtain ⟨h0,hc0⟩:=tG (h.trans e);exact wA W w.heap.size b _ _ _ _ (gT s a) c S hO h9 hk h0 hc0 hc (fun wx hbx=>iD wx B (gT s a) _ hz0 hz1 h (ZU hBw (ZU hB hbx.size)) (ht.on ((hb.trans (hbx.mono hB)).mono hBw)) (hm.on ((hb.trans (hbx.mono hB)).mono hBw)))
  | str h hl h9=>
   obtain ⟨h0,hc0⟩:=tG (c:=40) h;exact wB W w.heap.size b _ _ _ _ (gT s a) S hO h9 h0 hc0 (i8 W (gT s a) _ hl h (by have:=hm.1;omega))
 ·intro a st W b S hf hb hO
  cases hf with
  | text h=>rw [rf h];exact xC W w.heap.size b _ _ _ _ _ _ _ _ _ _ _ _ S hO
  | line h=>rw [rf h];exact xy W w.heap.size b _ _ _ _ _ _ _ _ _ _ _ _ S hO
  | rect h=>rw [rf h];exact xA W w.heap.size b _ _ _ _ _ _ _ _ _ _ _ _ S hO
  | image h h60 h61 h70 h71 hz hle hc0 hc1 hr0 hr1 hf hg=>
   rw [rf h];have hsz:(s.extract (gm s a) s.size).size=s.size - gm s a:=by rw [<-aP,iA,Zc,aP]
   exact uZ W w.heap.size b _ _ _ _ _ _ _ _ _ _ _ _ S _ hO h60 h61 h70 h71 (fun wx=>rD wx _ _ _ _ _ _ _ _ hz (by rw [hsz];omega) (by rw [hsz];omega) hc0 hc1 hr0 hr1 hf hg)
theorem mT (w:World) (B m:Nat) (r:List UInt8) (S:Bl) (T:TypeId) (V V1 V2:Value) (f1 f2:Nat) (Z:Ending->World->Prop) (h:nh B m r w S)
  (hn1:∀ wx,(nilAhead 465 T V "press/drawing.fits").run prog wx=.ok (some false) wx) (hm1:∀ wx,(method 465 T V "press/drawing.fits").run prog wx=.ok (f1,V1) wx) (he1:∀ args wx,(callFunc f1 args).run prog wx=.ok (.enter f1 args) wx)
  (hn2:∀ wx,(nilAhead 465 T V "Write").run prog wx=.ok (some false) wx) (hm2:∀ wx,(method 465 T V "Write").run prog wx=.ok (f2,V2) wx) (he2:∀ args wx,(callFunc f2 args).run prog wx=.ok (.enter f2 args) wx)
  (HF:Hid (QB 264 #[.string ⟨r.toArray⟩] w (.iface T V)))
  (HI:Hid (∀ wx,Below w w wx->QB f1 #[V1] wx true))
  (HW:Hid (∀ wx,Below w w wx->CP f2 #[V2,.iface 190 (zp m)] wx fun e w'=>e=.returned .nilIface/\Z (.returned (.tuple #[.iface T V,true])) w')):
  CP 229 #[zp m] w Z:=by
 have HR:=ai (qX w B m r S h);go_enter func229,ntmps229
 go_wp2_with fail
 refine HR.out.mono ?_;rintro e w0 ⟨rfl,rfl⟩;go_wp2_with fail
 refine HF.out.mono ?_;rintro e w1 ⟨rfl,hb1⟩;go_wp2_with fail
 refine (HI.out w1 hb1).mono ?_;rintro e w2 ⟨rfl,hb2⟩;have hb12:=hb1.trans (hb2.mono hb1.size);go_wp2_with fail
 refine (HW.out w2 hb12).mono ?_;rintro e w3 ⟨rfl,hz⟩;go_wp2;exact hz
structure oL (B:Nat) (T:TypeId) (q q':Value) (f:FuncId) (t0:List UInt8) (K:World->Bl->List UInt8->Prop):Prop where
 thing:∀ D,aJ B (fun w S=>K w S D)
 hn:∀ wx,(nilAhead 465 T q "Write").run prog wx=.ok (some false) wx
 hm:∀ wx,(method 465 T q "Write").run prog wx=.ok (f,q') wx
 he:∀ args wx,(callFunc f args).run prog wx=.ok (.enter f args) wx
 write:∀ w S D (s:ByteArray),K w S D->(D++s.data.toList) <+:t0->CP f #[q',s] w fun e w'=>e=.returned .nilIface/\∃ S',K w' S' (D++s.data.toList)/\Mv S w S' w'
section
variable {B:Nat} {T:TypeId} {q q':Value} {f:FuncId} {t0:List UInt8} {K:World->Bl->List UInt8->Prop}
theorem oL.send (F:oL B T q q' f t0 K) {w:World} {S:Bl} {D:List UInt8} (h:K w S D) (x:List UInt8) (hl:(D++x) <+:t0):∀ wx,af w wx->CP f #[q',.string ⟨x.toArray⟩] wx fun e w'=>∃ v,e=.returned v/\nt K S w (D++x) (.returned v) w':=by
 intro wx hb;have hk:K wx S D:=(F.thing D).keep h (fun k hk=>hb.block k ((F.thing D).lt h hk)) hb.size;refine (F.write wx S D ⟨x.toArray⟩ hk (by simpa using hl)).mono ?_;rintro e w' ⟨rfl,S',h',m'⟩;exact ⟨_,rfl,rfl,S',by simpa using h',(Mv.grow hb S).trans m'⟩
theorem EQ (F:oL B T q q' f t0 K) (w:World) (S:Bl) (D:List UInt8) (o:bj) (ho:o.near) (hk:o.k=2) (hB:B<=w.heap.size) (ht:bU B w) (h:K w S D) (hl:(D++o.text) <+:t0):
  CP 358 #[.agg #[o.a,o.b,o.c,o.d,o.e],.iface T q] w (nt K S w (D++o.text)):=by
 obtain ⟨⟨a1,a2⟩,⟨b1,b2⟩,⟨c1,c2⟩,⟨d1,d2⟩,⟨e1,e2⟩,_⟩:=ho;have r1:∀ z∈[o.e],-100000000<=z/\z<=100000000:=(ZC.2 ⟨⟨e1,e2⟩,(fun z hz=>by simp at hz)⟩);have r2:∀ z∈[o.a,o.b],-100000000<=z/\z<=100000000:=(ZC.2 ⟨⟨a1,a2⟩,(ZC.2 ⟨⟨b1,b2⟩,(fun z hz=>by simp at hz)⟩)⟩);have r3:∀ z∈[o.c,o.d],-100000000<=z/\z<=100000000:=(ZC.2 ⟨⟨c1,c2⟩,(ZC.2 ⟨⟨d1,d2⟩,(fun z hz=>by simp at hz)⟩)⟩);have l1:=dL _ r1;have l2:=dL _ r2;have l3:=dL _ r3;simp only [ZX,ZS] at l1 l2 l3;have ht2:o.text=aG [o.e]++[119,32]++aG [o.a,o.b]++[109,32]++aG [o.c,o.d]++[108,32,83,10]:=by
  unfold bj.text;rw [ZO (by omega),ZM hk];simp only [ZT]
 exact ox B w o.a o.b o.c o.d o.e T q q' f F.hn F.hm hB ht _ _ _ o.text ht2.symm (by omega) (by omega) (by omega) _ F.he (F.send h _ hl) (ek w _ hB ht (by simp) r1) (ek w _ hB ht (by simp) r2) (ek w _ hB ht (by simp) r3)
theorem EU (F:oL B T q q' f t0 K) (w:World) (S:Bl) (D:List UInt8) (o:bj) (ho:o.near) (hk:o.k=3) (hB:B<=w.heap.size) (ht:bU B w) (h:K w S D) (hl:(D++o.text) <+:t0):
  CP 360 #[.agg #[o.a,o.b,o.c,o.d,o.e],.iface T q] w (nt K S w (D++o.text)):=by
 obtain ⟨⟨a1,a2⟩,⟨b1,b2⟩,⟨c1,c2⟩,⟨d1,d2⟩,⟨e1,e2⟩,_⟩:=ho;have r1:∀ z∈[o.e],-100000000<=z/\z<=100000000:=(ZC.2 ⟨⟨e1,e2⟩,(fun z hz=>by simp at hz)⟩);have r2:∀ z∈[o.a,o.b,o.c,o.d],-100000000<=z/\z<=100000000:=(ZC.2 ⟨⟨a1,a2⟩,(ZC.2 ⟨⟨b1,b2⟩,(ZC.2 ⟨⟨c1,c2⟩,(ZC.2 ⟨⟨d1,d2⟩,(fun z hz=>by simp at hz)⟩)⟩)⟩)⟩);have l1:=dL _ r1;have l2:=dL _ r2;simp only [ZX,ZS] at l1 l2;have ht2:o.text=aG [o.e]++[103,32]++aG [o.a,o.b,o.c,o.d]++[114,101,32,102,10]:=by
  unfold bj.text;rw [ZO (by omega),ZO (by omega),ZM hk];simp only [ZT]
 exact nV w o.a o.b o.c o.d o.e T q q' f F.hn F.hm _ _ o.text ht2.symm (by omega) (by omega) _ F.he (F.send h _ hl) (ek w _ hB ht (by simp) r1) (ek w _ hB ht (by simp) r2)
theorem EV (F:oL B T q q' f t0 K) (w:World) (S:Bl) (D:List UInt8) (o:bj) (ho:o.near) (hk:o.k=1) (hB:B<=w.heap.size) (ht:bU B w) (h:K w S D) (hl:(D++o.text) <+:t0):
  CP 356 #[.agg #[o.a,o.b,o.c,o.s],.iface T q] w (nt K S w (D++o.text)):=by
 obtain ⟨⟨a1,a2⟩,⟨b1,b2⟩,⟨c1,c2⟩,⟨d1,d2⟩,⟨e1,e2⟩,_,_,_,hs⟩:=ho;have hs:=hs hk;have r1:∀ z∈[o.c],-100000000<=z/\z<=100000000:=(ZC.2 ⟨⟨c1,c2⟩,(fun z hz=>by simp at hz)⟩);have r2:∀ z∈[o.a,o.b],-100000000<=z/\z<=100000000:=(ZC.2 ⟨⟨a1,a2⟩,(ZC.2 ⟨⟨b1,b2⟩,(fun z hz=>by simp at hz)⟩)⟩);have l1:=dL _ r1;have l2:=dL _ r2;have l3:=ii o.s.data.toList;rw [aP] at l3;simp only [ZX,ZS] at l1 l2;have ht2:o.text=[66,84,32,47,70,49,32]++aG [o.c]++[84,102,32]++aG [o.a,o.b]++[84,100,32]++bc o.s.data.toList++[32,84,106,32,69,84,10]:=by
  unfold bj.text;rw [ZM hk];simp only [ZT]
 exact oq w o.a o.b o.c o.s T q q' f F.hn F.hm _ _ _ o.text ht2.symm (by omega) (by omega) (by simp only [bc,ZY,ZX,ZS];omega) _ F.he (F.send h _ hl) (ek w _ hB ht (by simp) r1) (ek w _ hB ht (by simp) r2) (fun wx _=>jK wx o.s (by omega))
theorem Es (F:oL B T q q' f t0 K) (w:World) (S:Bl) (D:List UInt8) (o:bj) (ho:o.near) (hB:B<=w.heap.size) (ht:bU B w) (h:K w S D) (hl:(D++o.headB) <+:t0):
  CP 132 #[.agg #[o.a,o.b,o.c,o.d,o.co,o.ro],.iface T q] w (nt K S w (D++o.headB)):=by
 obtain ⟨⟨a1,a2⟩,⟨b1,b2⟩,⟨c1,c2⟩,⟨d1,d2⟩,⟨e1,e2⟩,⟨f1,f2⟩,⟨g1,g2⟩,_⟩:=ho;have r1:∀ z∈[o.c],-100000000<=z/\z<=100000000:=(ZC.2 ⟨⟨c1,c2⟩,(fun z hz=>by simp at hz)⟩);have r2:∀ z∈[o.d,o.a,o.b],-100000000<=z/\z<=100000000:=(ZC.2 ⟨⟨d1,d2⟩,(ZC.2 ⟨⟨a1,a2⟩,(ZC.2 ⟨⟨b1,b2⟩,(fun z hz=>by simp at hz)⟩)⟩)⟩);have l1:=dL _ r1;have l2:=dL _ r2;have i1:=ar o.co f1 f2;have i2:=ar o.ro g1 g2;simp only [ZX,ZS] at l1 l2;have ht2:o.headB=[113,32]++aG [o.c]++[48,32,48,32]++aG [o.d,o.a,o.b]++[99,109,32,66,73,32]++([47,87,32]++Lib.itoa o.co++[32,47,72,32]++Lib.itoa o.ro)++[32,47,67,83,32,47,71,32,47,66,80,67,32,56,32,73,68,32]:=by
  unfold bj.headB;simp
 exact lI w o.a o.b o.c o.d o.co o.ro T q q' f F.hn F.hm _ _ _ _ _ o.headB rfl ht2.symm (by omega) (by omega) (by omega) (by omega) (by simp only [ZY,ZX,ZS];omega) _ F.he (F.send h _ hl) (ek w _ hB ht (by simp) r1) (ek w _ hB ht (by simp) r2) (fun wx hb=>bp B wx o.co f1 f2 (ht.on (hb.mono hB))) (fun wx hb=>bp B wx o.ro g1 g2 (ht.on (hb.mono hB)))
theorem Ev (F:oL B T q q' f t0 K) (w:World) (S:Bl) (D:List UInt8) (o:bj) (ho:o.near) (hk:o.k=4) (hB:B<=w.heap.size) (ht:bU B w) (h:K w S D) (hl:(D++o.text) <+:t0):
  CP 353 #[.agg #[o.a,o.b,o.c,o.d,o.co,o.ro,o.s],.iface T q] w (nt K S w (D++o.text)):=by
 have htx:=yS hk;have hp3:(D++o.headB++o.s.data.toList)++[10,69,73,32,81,10] <+:t0:=by rw [htx] at hl;simpa [ZT] using hl
 have hp2:(D++o.headB)++o.s.data.toList <+:t0:=(YT _ _).trans hp3;have hp1:D++o.headB <+:t0:=(YT _ _).trans hp2;refine jL w o.a o.b o.c o.d o.co o.ro o.s 0 (0:Int) (fun w1=>(∃ S1,K w1 S1 (D++o.headB)/\Mv S w S1 w1)/\w1.cell? (zq w 6)=some (.string o.s)) (fun w2=>∃ S2,K w2 S2 (D++o.headB++o.s.data.toList)/\Mv S w S2 w2) _ F.hn F.hm F.he ?_ ?_ ?_ ?_
 ·intro wx hb c6 hlt;have hkx:K wx S D:=(F.thing D).keep h (fun k hk=>hb.block k ((F.thing D).lt h hk)) hb.size;refine (Es F wx S D o ho (ZU hB hb.size) (ht.on (hb.mono hB)) hkx hp1).mono ?_;rintro e w' ⟨rfl,S',h',m'⟩;refine .inl ⟨rfl,⟨S',h',(Mv.grow hb S).trans m'⟩,?_⟩;have hnS:¬ S w.heap.size:=fun e=>by have:=(F.thing D).lt h e;omega
  exact (ZR (a:=zq w 6) (m'.keep hlt hnS)).trans c6
 ·rintro w1 ⟨⟨S1,h1,m1⟩,_⟩;refine (F.write w1 S1 _ o.s h1 hp2).mono ?_;rintro e w' ⟨rfl,S',h',m'⟩;exact .inl ⟨rfl,S',h',m1.trans m'⟩
 ·rintro w1 ⟨_,c⟩;exact c
 ·rintro w2 ⟨S2,h2,m2⟩;refine (F.write w2 S2 _ ⟨#[10,69,73,32,81,10]⟩ h2 hp3).mono ?_;rintro e w' ⟨rfl,S',h',m'⟩;refine ⟨_,rfl,rfl,S',?_,m2.trans m'⟩;rw [htx];simpa using h'
end
def wL (B m:Nat) (t0:List UInt8) (w:World) (S:Bl) (D:List UInt8):Prop:=∃ r,t0=D++r/\nh B m r w S
theorem sL (T:Nat) (w:World):(method 465 190 (zp T) "Write").run prog w=.ok (355,.pointer (some ⟨T,0,none⟩)) w:=by kernel_rfl
theorem vI (T:Nat) (w:World):(nilAhead 465 190 (zp T) "Write").run prog w=.ok (some false) w:=by kernel_rfl
theorem qg (args:Array Value) (w:World):(callFunc 355 args).run prog w=.ok (.enter 355 args) w:=by kernel_rfl
theorem g6 (B m:Nat) (t0:List UInt8):oL B 190 (zp m) (zp m) 355 t0 (wL B m t0) where
 thing:=fun D=>aJ.any fun r=>aJ.pure (nh.thing B m r)
 hn:=vI m
 hm:=sL m
 he:=qg
 write:=by
  rintro w S D s ⟨r,e,h⟩ ⟨r2,e2⟩;have er:r=s.data.toList++r2:=by
   rw [e,ZT] at e2;exact (List.append_cancel_left e2).symm
  rw [er] at h;refine (qC w B m s r2 S h).mono ?_;rintro e w' ⟨rfl,h',m'⟩;exact ⟨rfl,S,⟨r2,e2.symm,h'⟩,m'⟩
def gI (l:List UInt8):Prop:=∀ c∈l,c.toNat < 128
theorem gI.app {a b:List UInt8} (h:gI (a++b)):gI a/\gI b:=⟨fun c hc=>h c (Zu.2 (.inl hc)),fun c hc=>h c (Zu.2 (.inr hc))⟩
theorem gI.mk {a b:List UInt8} (h1:gI a) (h2:gI b):gI (a++b):=fun c hc=>(Zu.1 hc).elim (h1 c) (h2 c)
theorem ko {t x r':List UInt8} (h0:t≠[]) (h:gI (t++x)) (hr:r'=[]\/8<=r'.length):ed (t++(x++r')):=by
 rcases hr with rfl | hr
 ·right;rw [YX];exact h
 ·left;have:0 < t.length:=Yp.2 h0;simp;omega
theorem ot (z:Int):∀ c∈bJ z,c=45\/c=46\/48<=c.toNat/\c.toNat<=57:=by
 have du:∀ k:Nat,k < 10->48<=(UInt8.ofNat (48+k)).toNat/\(UInt8.ofNat (48+k)).toNat<=57:=fun k hk=>by rw [YZ];omega
 intro c hc;unfold bJ at hc;rcases Zu.1 hc with hc | hc
 ·rcases Zu.1 hc with hc | hc
  ·split at hc
   ·simp at hc;exact .inl hc
   ·simp at hc
  ·rw [eP] at hc;exact .inr (.inr (mV _ c hc))
 ·have hm:z.natAbs % 1000 < 1000:=Yt _ (by decide);unfold cq at hc;split at hc
  ·simp at hc
  ·split at hc
   ·simp only [Zl,YU,or_false] at hc;rcases hc with rfl | rfl
    ·exact .inr (.inl rfl)
    ·exact .inr (.inr (du _ (by omega)))
   ·split at hc
    ·simp only [Zl,YU,or_false] at hc;rcases hc with rfl | rfl | rfl
     ·exact .inr (.inl rfl)
     ·exact .inr (.inr (du _ (by omega)))
     ·exact .inr (.inr (du _ (by omega)))
    ·simp only [Zl,YU,or_false] at hc;rcases hc with rfl | rfl | rfl | rfl
     ·exact .inr (.inl rfl)
     ·exact .inr (.inr (du _ (by omega)))
     ·exact .inr (.inr (du _ (by omega)))
     ·exact .inr (.inr (du _ (by omega)))
theorem qy (z:Int):∀ c∈bJ z,cL c=true:=by
 intro c hc;rcases ot z c hc with rfl | rfl | h
 ·decide
 ·decide
 ·unfold cL jf;simp;refine ⟨?_,?_,?_,?_,?_⟩ <;> (intro e;rw [e] at h;exact absurd h (by decide))
theorem aZ (z:Int):gI (bJ z):=by
 intro c hc;rcases ot z c hc with rfl | rfl | h
 ·decide
 ·decide
 ·omega
theorem Cz (c:UInt8):gI (eS c):=by
 have du:∀ k:Nat,k < 10->(UInt8.ofNat (48+k)).toNat < 128:=fun k hk=>by rw [YZ];omega
 have hc:=c.toNat_lt;intro d hd;unfold eS at hd;split at hd
 ·simp only [Zl,YU,or_false] at hd;rcases hd with rfl | rfl | rfl | rfl
  ·decide
  ·exact du _ (by omega)
  ·exact du _ (by omega)
  ·exact du _ (by omega)
 ·split at hd
  ·simp only [Zl,YU,or_false] at hd;rcases hd with rfl | rfl
   ·decide
   ·omega
  ·simp only [Zl,YU,or_false] at hd;subst hd;omega
theorem qi:∀ l:List UInt8,gI (bH l)
 | []=>fun c h=>by cases h
 | c::l=>(Cz c).mk (qi l)
instance (l:List UInt8):Decidable (gI l):=inferInstanceAs (Decidable (∀ c∈l,c.toNat < 128))
theorem np (l:List UInt8):gI (bc l):=((show gI [40] by decide).mk (qi l)).mk (by decide)
theorem pG (z:Int):bJ z≠[]:=by
 obtain ⟨c,q,e,_⟩:=oy z;rw [e];simp
section
variable {s:ByteArray} {a:Nat} {g t x r':List UInt8} {T:TypeId} {V:Value}
abbrev B_ (s:ByteArray):=DD s (EJ s) (DB s)
theorem cV (c:UInt8) (q:List UInt8) {st:pF} (hr:r'=[]\/8<=r'.length) (hd:s.data.toList.drop a=(g++((c::q)++x))++r') (hy:gI (g++((c::q)++x))) (hg:∀ c∈g,bX c=true) (ht:∀ d∈c::q,cL d=true) (hx:∃ d p,x=d::p/\cL d=false)
  (h45:c.toNat≠45) (hdg:c.toNat < 48\/57 < c.toNat) (h1:c::q≠[69,84]) (h2:c::q≠[83]) (h3:c::q≠[102]) (h4:c::q≠[73,68]) (h9:st.1.length=9)
  (k:∀ a',s.data.toList.drop a'=x++r'->gI x->B_ s a' st T V):B_ s a st T V:=by
 obtain ⟨d,p,rfl,hp⟩:=hx;have hA:At s a g (c::q) ((d::p)++r'):=At.word (by rw [hd];simp only [ZT]) hg (by simp) ht (by intro e f hh;cases hh;exact hp);have h40:=(jo (ht c (Zy _))).1;exact .step (hA.okay (ko (by simp) hy.app.2 hr)) (.word hA.tok h40 h45 hdg h1 h2 h3 h4 h9) (k _ hA.nxt hy.app.2.app.2)
theorem c' (z:Int) {ns:List Int} {kk:Nat} {tx:List UInt8} (hr:r'=[]\/8<=r'.length) (hd:s.data.toList.drop a=(g++(bJ z++x))++r') (hy:gI (g++(bJ z++x))) (hg:∀ c∈g,bX c=true) (hx:∃ d p,x=d::p/\cL d=false)
  (hz0:-100000000<=z) (hz1:z<=100000000) (hk:kk < 9) (h9:ns.length=9)
  (k:∀ a',s.data.toList.drop a'=x++r'->gI x->B_ s a' (ns.set kk z,kk+1,tx) T V):B_ s a (ns,kk,tx) T V:=by
 obtain ⟨d,p,rfl,hp⟩:=hx;have hA:At s a g (bJ z) ((d::p)++r'):=At.word (by rw [hd];simp only [ZT]) hg (pG z) (qy z) (by intro e f hh;cases hh;exact hp);exact .step (hA.okay (ko (pG z) hy.app.2 hr)) (.num hA.tok hz0 hz1 hk h9) (k _ hA.nxt hy.app.2.app.2)
theorem EH (l:List UInt8) {ns:List Int} {kk:Nat} {tx:List UInt8} (hr:r'=[]\/8<=r'.length) (hd:s.data.toList.drop a=(g++(bc l++x))++r') (hy:gI (g++(bc l++x))) (hg:∀ c∈g,bX c=true) (hl:l.length<=100) (h9:ns.length=9)
  (k:∀ a',s.data.toList.drop a'=x++r'->gI x->B_ s a' (ns,kk,l) T V):B_ s a (ns,kk,tx) T V:=by
 have hA:At s a g (bc l) (x++r'):=At.str (by rw [hd];simp only [ZT]) hg;exact .step (hA.okay (ko (by simp [bc]) hy.app.2 hr)) (.str hA.tok hl h9) (k _ hA.nxt hy.app.2.app.2)
theorem t6 {st:pF} (hr:r'=[]\/8<=r'.length) (hd:s.data.toList.drop a=(g++(t++x))++r') (hy:gI (g++(t++x))) (hg:∀ c∈g,bX c=true) (h0:t≠[]) (ht:∀ d∈t,cL d=true) (hx:∀ d p,x++r'=d::p->cL d=false)
  (k:At s a g t (x++r')->DB s a st T V):B_ s a st T V:=by
 have hA:At s a g t (x++r'):=At.word (by rw [hd];simp only [ZT]) hg h0 ht hx;exact .fin (hA.okay (ko h0 hy.app.2 hr)) (k hA)
end
theorem gW (z:Int):aG [z]=bJ z++[32]:=by simp [aG]
theorem jP (y z:Int):aG [y,z]=bJ y++([32]++(bJ z++[32])):=by simp [aG]
theorem dA:∀ c∈([32]:List UInt8),bX c=true:=by decide
theorem DU:∀ c∈([]:List UInt8),bX c=true:=by intro c h;cases h
theorem Ed (s:ByteArray) (o:bj) (r':List UInt8) (ho:o.near) (hk:o.k=2) (hs:s.data.toList=o.text++r') (hr:r'=[]\/8<=r'.length):
  B_ s 0 ([0,0,0,0,0,0,0,0,0],0,[]) 217 (.agg #[o.a,o.b,o.c,o.d,o.e]):=by
 obtain ⟨⟨a1,a2⟩,⟨b1,b2⟩,⟨c1,c2⟩,⟨d1,d2⟩,⟨e1,e2⟩,_⟩:=ho;have ht:o.text=[]++(bJ o.e++([32]++([119]++([32]++(bJ o.a++([32]++(bJ o.b++([32]++([109]++([32]++(bJ o.c++([32]++(bJ o.d++([32]++([108]++([32]++([83]++[10]))))))))))))))))):=by
  unfold bj.text;rw [ZO (by omega),ZM hk,gW,jP,jP];simp only [ZT,Zt];rfl
 have s1:gI [32]:=by decide
 have hA:gI o.text:=by
  rw [ht];exact .mk (by decide) (.mk (aZ _) (.mk s1 (.mk (by decide) (.mk s1 (.mk (aZ _) (.mk s1 (.mk (aZ _) (.mk s1 (.mk (by decide) (.mk s1 (.mk (aZ _) (.mk s1 (.mk (aZ _) (.mk s1 (.mk (by decide) (.mk s1 (by decide)))))))))))))))))
 rw [ht] at hs hA;have hd:s.data.toList.drop 0=_:=hs;refine c' o.e hr hd hA DU ⟨32,_,rfl,by decide⟩ e1 e2 (by omega) rfl fun p1 h1 y1=>?_
 refine cV 119 [] hr h1 y1 dA (by decide) ⟨32,_,rfl,by decide⟩ (by decide) (by decide) (by decide) (by decide) (by decide) (by decide) rfl fun p2 h2 y2=>?_
 refine c' o.a hr h2 y2 dA ⟨32,_,rfl,by decide⟩ a1 a2 (by omega) rfl fun p3 h3 y3=>?_
 refine c' o.b hr h3 y3 dA ⟨32,_,rfl,by decide⟩ b1 b2 (by omega) rfl fun p4 h4 y4=>?_
 refine cV 109 [] hr h4 y4 dA (by decide) ⟨32,_,rfl,by decide⟩ (by decide) (by decide) (by decide) (by decide) (by decide) (by decide) rfl fun p5 h5 y5=>?_
 refine c' o.c hr h5 y5 dA ⟨32,_,rfl,by decide⟩ c1 c2 (by omega) rfl fun p6 h6 y6=>?_
 refine c' o.d hr h6 y6 dA ⟨32,_,rfl,by decide⟩ d1 d2 (by omega) rfl fun p7 h7 y7=>?_
 refine cV 108 [] hr h7 y7 dA (by decide) ⟨32,_,rfl,by decide⟩ (by decide) (by decide) (by decide) (by decide) (by decide) (by decide) rfl fun p8 h8 y8=>?_
 exact t6 hr h8 y8 dA (by simp) (by decide) (fun d p e=>by cases e;decide) fun hF=>.line hF.tok
inductive dr
 | w (t g:List UInt8)
 | b (c:UInt8) (g:List UInt8)
 | q (l g:List UInt8)
 | wb (t:List UInt8) (c:UInt8) (g:List UInt8)
def xI (g:List UInt8):Bool:=g.all bX
def fs (t:List UInt8):Bool:=!t.isEmpty&&t.all cL
def Cr (c:UInt8):Bool:=c==91||c==93
def dr.ok:dr->Bool
 | .w t g=>fs t&&xI g&&!g.isEmpty
 | .b c g=>Cr c&&xI g
 | .q _ g=>xI g
 | .wb t c g=>fs t&&Cr c&&xI g
def dr.text:dr->List UInt8
 | .w t g=>t++g
 | .b c g=>c::g
 | .q l g=>bc l++g
 | .wb t c g=>t++c::g
def dr.toks:dr->List (List UInt8)
 | .w t _=>[t]
 | .b c _=>[[c]]
 | .q l _=>[bc l]
 | .wb t c _=>[t,[c]]
def gE (l:List dr):List UInt8:=l.flatMap dr.text
def a7 (l:List dr):List (List UInt8):=l.flatMap dr.toks
def iP (l:List dr):Bool:=l.all dr.ok
inductive lf:List UInt8->List (List UInt8)->List UInt8->Prop
 | nil (l:List UInt8):lf l [] l
 | gap {c:UInt8} {l:List UInt8} {ts:List (List UInt8)} {r:List UInt8} (hc:bX c=true) (h:lf l ts r):lf (c::l) ts r
 | tok {t l:List UInt8} {ts:List (List UInt8)} {r:List UInt8} (hn:lu (t++l)=t.length) (h0:t≠[]) (hd:∀ c q,t++l=c::q->bX c=false) (h:lf l ts r):lf (t++l) (t::ts) r
theorem lf.gaps {g l r:List UInt8} {ts:List (List UInt8)} (hg:xI g=true) (h:lf l ts r):lf (g++l) ts r:=by
 induction g with
 | nil=>exact h
 | cons c g ih=>
  unfold xI at hg ih;simp only [List.all_cons,Zp] at hg;exact .gap hg.1 (ih hg.2)
theorem wF {t:List UInt8} (h:fs t=true):t≠[]/\∀ c∈t,cL c=true:=by
 unfold fs at h;simp only [Zp,List.all_eq_true] at h;exact ⟨fun e=>by rw [e] at h;exact absurd h.1 (by decide),h.2⟩
theorem DW {c:UInt8} (h:bX c=true):cL c=false:=by
 unfold bX at h;simp only [List.contains_eq_mem,Zf,Zl,YU,or_false] at h;rcases h with rfl | rfl <;> rfl
theorem zh {c:UInt8} (h:Cr c=true):cL c=false/\bX c=false/\(c.toNat=91\/c.toNat=93):=by
 unfold Cr at h;simp only [Bool.or_eq_true,beq_iff_eq] at h;rcases h with rfl | rfl
 ·exact ⟨rfl,rfl,.inl rfl⟩
 ·exact ⟨rfl,rfl,.inr rfl⟩
theorem lf.word {t l r:List UInt8} {ts:List (List UInt8)} (hw:fs t=true) (hl:∀ c q,l=c::q->cL c=false) (h:lf l ts r):lf (t++l) (t::ts) r:=by
 obtain ⟨h0,hp⟩:=wF hw;refine .tok (s6 t l h0 hp hl) h0 ?_ h;intro c q e
 cases t with
 | nil=>exact absurd rfl h0
 | cons x t=>cases e;exact (jo (hp _ (Zy _))).2.2.2
theorem lf.brk {c:UInt8} {l r:List UInt8} {ts:List (List UInt8)} (hb:Cr c=true) (h:lf l ts r):lf (c::l) ([c]::ts) r:=by
 obtain ⟨_,hg,hc⟩:=zh hb;refine lf.tok (t:=[c]) (Dx c l hc) (by simp) ?_ h;intro d q e
 cases e;exact hg
theorem lf.str {m l r:List UInt8} {ts:List (List UInt8)} (h:lf l ts r):lf (bc m++l) (bc m::ts) r:=by
 refine .tok (wC m l) (by simp [bc]) ?_ h;intro c q hq;have:c=40:=by unfold bc at hq;simp at hq;exact hq.1.symm
 rw [this];decide
theorem dr.tks {x:dr} (hx:x.ok=true) {l r:List UInt8} {ts:List (List UInt8)} (h:lf l ts r):lf (x.text++l) (x.toks++ts) r:=by
 cases x with
 | w t g=>
  simp only [dr.ok,Zp] at hx;obtain ⟨⟨hw,hg⟩,hne⟩:=hx;show lf (t++g++l) _ _
  rw [ZT];refine lf.word hw ?_ (lf.gaps hg h);intro c q e
  cases g with
  | nil=>exact absurd hne (by decide)
  | cons d g=>
   cases e
   unfold xI at hg;simp only [List.all_cons,Zp] at hg;exact DW hg.1
 | b c g=>
  simp only [dr.ok,Zp] at hx;exact lf.brk hx.1 (lf.gaps hx.2 h)
 | q m g=>
  show lf (bc m++g++l) _ _
  rw [ZT];exact lf.str (lf.gaps hx h)
 | wb t c g=>
  simp only [dr.ok,Zp] at hx;obtain ⟨⟨hw,hb⟩,hg⟩:=hx;show lf (t++c::g++l) _ _
  rw [ZT,ZG];refine lf.word hw ?_ (lf.brk hb (lf.gaps hg h));intro d q e
  cases e;exact (zh hb).1
theorem q6:∀ (xs:List dr),iP xs=true->∀ (l r:List UInt8) (ts:List (List UInt8)),lf l ts r->lf (gE xs++l) (a7 xs++ts) r
 | [],_,l,r,ts,h=>h
 | x::xs,ho,l,r,ts,h=>by
  unfold iP at ho;simp only [List.all_cons,Zp] at ho;have:=dr.tks ho.1 (q6 xs ho.2 l r ts h);simpa only [gE,a7,List.flatMap_cons,ZT] using this
def a6 (key:List UInt8) (k:Nat):List (List UInt8)->Option (List UInt8)
 | []=>none
 | t::ts=>if t=key then ts[k]? else a6 key k ts
variable {s key:ByteArray}
theorem xj (t:ByteArray) (l:List UInt8) (h:t.data.toList=l):(t.toList==key.toList)=decide (l=key.data.toList):=by
 rw [Zn,Zn,h];by_cases e:l=key.data.toList
 ·simp [e]
 ·simp [e]
theorem rg {a:Nat} {c:UInt8} {l:List UInt8} (hd:s.data.toList.drop a=c::l) (hc:bX c=true) (f:Nat) (fd:Bool) (k:Nat):
  js s (lK s) (rd s) key f a fd k=js s (lK s) (rd s) key f (a+1) fd k:=by
 have e:a+lK s a=a+1+lK s (a+1):=by
  have h1:s.data.toList.drop (a+1)=l:=by rw [<-List.drop_drop,hd];rfl
  unfold lK;rw [hd,h1];show a+((c::l).takeWhile bX).length=_
  rw [List.takeWhile_cons_of_pos hc];simp [va];omega
 cases f with
 | zero=>rfl
 | succ f=>simp only [js,e]
theorem rh {a:Nat} {t l:List UInt8} (hd:s.data.toList.drop a=t++l) (hn:lu (t++l)=t.length) (h0:t≠[]) (hg:∀ c q,t++l=c::q->bX c=false) (f:Nat) (fd:Bool) (k:Nat):
  s.data.toList.drop (gm s a)=l/\gm s a=a+t.length/\
  js s (lK s) (rd s) key (f+1) a fd k=if fd=false then js s (lK s) (rd s) key f (gm s a) (decide (t=key.data.toList)) k else if k=0 then ⟨t.toArray⟩ else js s (lK s) (rd s) key f (gm s a) true (k - 1):=by
 have hA:At s a [] t l:=⟨by rw [hd];rfl,by simp,hg,hn,h0⟩;have ht:=hA.tok;refine ⟨hA.nxt,by unfold gm;rw [hA.tk,hA.gp];simp,?_⟩;rw [js,ZO hA.tkne];show (if fd=false then js s _ _ key f (gm s a) ((gT s a).toList==key.toList) k else if k=0 then gT s a else js s _ _ key f (gm s a) true (k - 1))=_
 rw [xj _ _ ht,rf ht]
theorem Dz {l r:List UInt8} {ts:List (List UInt8)} (h:lf l ts r):∀ (a f k:Nat) (u:List UInt8),s.data.toList.drop a=l->l.length < f->(ts[k]? =some u->js s (lK s) (rd s) key f a true k=⟨u.toArray⟩)/\(a6 key.data.toList k ts=some u->js s (lK s) (rd s) key f a false k=⟨u.toArray⟩):=by
 induction h with
 | nil l=>intro a f k u _ _;exact ⟨by simp,by simp [a6]⟩
 | @gap c l ts r hc h ih=>
  intro a f k u hd hf;have h1:s.data.toList.drop (a+1)=l:=by rw [<-List.drop_drop,hd];rfl
  rw [rg hd hc,rg hd hc];exact ih (a+1) f k u h1 (by simp at hf;omega)
 | @tok t l ts r hn h0 hg h ih=>
  intro a f k u hd hf
  cases f with
  | zero=>omega
  | succ f=>
   have hlen:0 < t.length:=Yp.2 h0;have hf':l.length < f:=by simp at hf;omega
   constructor
   ·intro hk;obtain ⟨hn1,_,he⟩:=rh (key:=key) hd hn h0 hg f true k;rw [he,ZO (by decide)]
    cases k with
    | zero=>rw [ZM rfl];simp at hk;rw [hk]
    | succ k=>
     rw [ZO (by omega),Nat.add_sub_cancel];exact (ih (gm s a) f k u hn1 hf').1 (by simpa using hk)
   ·intro hk;obtain ⟨hn1,_,he⟩:=rh (key:=key) hd hn h0 hg f false k;rw [he,ZM rfl];unfold a6 at hk;by_cases e:t=key.data.toList
    ·rw [ZM e] at hk;rw [Zq e];exact (ih (gm s a) f k u hn1 hf').1 hk
    ·rw [ZO e] at hk;rw [Zj e];exact (ih (gm s a) f k u hn1 hf').2 hk
theorem B7 {l r:List UInt8} {ts:List (List UInt8)} (h:lf l ts r):∀ (a f k:Nat),s.data.toList.drop a=l->l.length < f->r=[]->key.data.toList ∉ ts->js s (lK s) (rd s) key f a false k=⟨#[]⟩:=by
 induction h with
 | nil l=>
  intro a f k hd hf hr _
  cases f with
  | zero=>rfl
  | succ f=>
   rw [js,ZM];unfold rd;rw [<-List.drop_drop,hd,hr];simp [lu]
 | @gap c l ts r hc h ih=>
  intro a f k hd hf hr hk;have h1:s.data.toList.drop (a+1)=l:=by rw [<-List.drop_drop,hd];rfl
  rw [rg hd hc];exact ih (a+1) f k h1 (by simp at hf;omega) hr hk
 | @tok t l ts r hn h0 hg h ih=>
  intro a f k hd hf hr hk
  cases f with
  | zero=>omega
  | succ f=>
   have hlen:0 < t.length:=Yp.2 h0;obtain ⟨hn1,_,he⟩:=rh (key:=key) hd hn h0 hg f false k;rw [he,ZM rfl];rw [Zl] at hk;rw [Zj (fun e=>hk (.inl e.symm))];exact ih (gm s a) f k hn1 (by simp at hf;omega) hr (fun m=>hk (.inr m))
theorem gV (xs:List dr) (rest:List UInt8) (k:Nat) (u:List UInt8) (hs:s.data.toList=gE xs++rest) (ho:iP xs=true) (h:a6 key.data.toList k (a7 xs)=some u):jt s key k=⟨u.toArray⟩:=by
 have ht:=q6 xs ho rest rest [] (.nil _);rw [YX] at ht;exact (Dz ht 0 (s.size+1) k u (by rw [List.drop_zero,hs]) (by rw [<-hs,aP];omega)).2 h
theorem fH (xs:List dr) (la:List UInt8) (k:Nat) (hs:s.data.toList=gE xs++la) (ho:iP xs=true) (hl:fs la=true) (h:key.data.toList ∉ a7 xs) (h2:key.data.toList≠la):jt s key k=⟨#[]⟩:=by
 have hw:=lf.word (l:=[]) hl (by simp) (.nil []);rw [YX] at hw;have ht:=q6 xs ho la [] [la] hw;exact B7 ht 0 (s.size+1) k (by rw [List.drop_zero,hs]) (by rw [<-hs,aP];omega) rfl (by simp [h,h2])
def kF:ByteArray:=⟨#[47,70,105,108,116,101,114]⟩
def kT:ByteArray:=⟨#[47,84,121,112,101]⟩
def kP:ByteArray:=⟨#[47,80,97,103,101]⟩
def kD:ByteArray:=⟨#[47,68,101,115,116]⟩
def kI:ByteArray:=⟨#[47,84,105,116,108,101]⟩
def kM:ByteArray:=⟨#[47,77,101,100,105,97,66,111,120]⟩
theorem jO (z:Int):∀ c∈Lib.itoa z,c=45\/48<=c.toNat/\c.toNat<=57:=by
 intro c hc;unfold Lib.itoa at hc;split at hc
 ·rcases Zl.1 hc with h | h
  ·exact .inl h
  ·exact .inr (mV _ c h)
 ·exact .inr (mV _ c hc)
theorem qv (z:Int):Lib.itoa z≠[]:=by
 unfold Lib.itoa;split
 ·simp
 ·unfold Lib.decDigits;split <;> simp
theorem fZ (z:Int):fs (Lib.itoa z)=true:=by
 unfold fs;simp only [Zp,List.all_eq_true];refine ⟨?_,fun c hc=>?_⟩
 ·have:=qv z
  cases h:Lib.itoa z with
  | nil=>exact absurd h this
  | cons a b=>rfl
 ·rcases jO z c hc with rfl | h
  ·rfl
  ·unfold cL jf;simp;refine ⟨?_,?_,?_,?_,?_⟩ <;> (intro e;rw [e] at h;exact absurd h (by decide))
theorem zo (z:Int) (l:List UInt8):(Lib.itoa z=47::l)↔False:=by
 refine ⟨fun h=>?_,False.elim⟩;have:=jO z 47 (by rw [h];exact Zy _);revert this;decide
theorem fy (z:Int) (l:List UInt8):(47::l=Lib.itoa z)↔False:=⟨fun h=>(zo z l).1 h.symm,False.elim⟩
theorem Ew (z:Int) (l:List UInt8):(bJ z=47::l)↔False:=by
 refine ⟨fun h=>?_,False.elim⟩;have:=ot z 47 (by rw [h];exact Zy _);revert this;decide
theorem D2 (z:Int) (l:List UInt8):(47::l=bJ z)↔False:=⟨fun h=>(Ew z l).1 h.symm,False.elim⟩
theorem wn (m l:List UInt8):(bc m=47::l)↔False:=by
 refine ⟨fun h=>?_,False.elim⟩;unfold bc at h;simp at h
theorem j1 (m l:List UInt8):(47::l=bc m)↔False:=⟨fun h=>(wn m l).1 h.symm,False.elim⟩
theorem CX (z:Int):fs (bJ z)=true:=by
 unfold fs;simp only [Zp,List.all_eq_true];refine ⟨?_,qy z⟩;have:=pG z
 cases h:bJ z with
 | nil=>exact absurd h this
 | cons a b=>rfl
theorem nA (z:Int):gI (Lib.itoa z):=by
 intro c hc;rcases jO z c hc with rfl | h
 ·decide
 ·omega
theorem jQ (z:Int):gI (aD z):=(nA z).mk (by decide)
theorem fv (k:List UInt8) (z:Int) (h:gI k):gI (bt k z):=by
 unfold bt;split
 ·decide
 ·exact ((h.mk (by decide)).mk (jQ z)).mk (by decide)
theorem gI.plainly {l:List UInt8} (h:gI l) (a:Nat):ed (l.drop a):=.inr fun c hc=>h c (List.mem_of_mem_drop hc)
def lr (key:List UInt8) (z:Int):List dr:=if z=0 then [] else [.w key [32],.w (Lib.itoa z) [32],.w [48] [32],.w [82] [32]]
theorem jG (key:List UInt8) (z:Int):gE (lr key z)=bt key z:=by
 unfold lr bt aD;split
 ·rfl
 ·simp [gE,dr.text]
theorem gy (key:List UInt8) (z:Int) (h:fs key=true):iP (lr key z)=true:=by
 unfold lr;split
 ·rfl
 ·simp [iP,dr.ok,h,fZ];decide
theorem fa (key:List UInt8) (z:Int) (l:List UInt8) (h:47::l≠key):47::l ∉ a7 (lr key z):=by
 unfold lr;split
 ·simp [a7]
 ·simp [a7,dr.toks,fy,h]
theorem j4 (key:List UInt8) (z:Int) (l:List UInt8) (k:Nat) (ts:List (List UInt8)) (h:key≠47::l):a6 (47::l) k (a7 (lr key z)++ts)=a6 (47::l) k ts:=by
 unfold lr;split
 ·rfl
 ·simp [a7,dr.toks,a6,zo,h]
theorem iX (a b:List dr):gE (a++b)=gE a++gE b:=by simp [gE]
theorem cj (a b:List dr):a7 (a++b)=a7 a++a7 b:=by simp [a7]
theorem iR (a b:List dr):iP (a++b)=(iP a&&iP b):=by simp [iP]
def oX (z:Int):List dr:=[.w (Lib.itoa z) [32],.w [48] [32],.w [82] [32]]
def j9 (a:Nat):Nat->List dr
 | 0=>[]
 | m+1=>j9 a m++oX ((a+m:Nat):Int)
def oW (a:Nat):Nat->List dr
 | 0=>[.b 93 [32]]
 | m+1=>j9 a m++[.w (Lib.itoa ((a+m:Nat):Int)) [32],.w [48] [32],.wb [82] 93 [32]]
theorem uY (x:List UInt8):∀ l:List (List UInt8),Lib.join (l++[x]) [32]=l.flatMap (fun y=>y++[32])++x
 | []=>by rw [Zt,Lib.join_one];rfl
 | y::l=>by
  have ih:=uY x l;rw [ZG,Lib.join_cons];have e:∀ r:List (List UInt8),r≠[]->Lib.joinTail [32] r=[32]++Lib.join r [32]:=by
   intro r hr
   cases r with
   | nil=>exact absurd rfl hr
   | cons z r=>rw [Lib.join_cons];simp [Lib.joinTail]
  rw [e _ (by simp),ih];simp
theorem o0 (a:Nat):∀ m,gE (j9 a m)=(cf a m).flatMap (fun y=>y++[32])
 | 0=>rfl
 | m+1=>by
  simp only [j9,cf,iX,o0 a m,List.flatMap_append];congr 1;simp [gE,oX,dr.text,aD]
theorem x' (a m:Nat):gE (oW a m)=Lib.join (cf a m) [32]++[93,32]:=by
 cases m with
 | zero=>rfl
 | succ m=>
  simp only [oW,cf,iX,o0,uY];simp [gE,dr.text,aD]
theorem sN (a:Nat):∀ m,iP (j9 a m)=true
 | 0=>rfl
 | m+1=>by
  simp only [j9,iR,sN a m,Bool.true_and];simp [iP,oX,dr.ok,fZ];decide
theorem CO (a m:Nat):iP (oW a m)=true:=by
 cases m with
 | zero=>rfl
 | succ m=>
  simp only [oW,iR,sN,Bool.true_and];simp [iP,dr.ok,fZ];decide
theorem sM (a:Nat) (l:List UInt8):∀ m,47::l ∉ a7 (j9 a m)
 | 0=>by simp [a7,j9]
 | m+1=>by
  simp only [j9,cj,Zu,sM a l m,false_or];simp [a7,oX,dr.toks,fy]
theorem CL (a m:Nat) (l:List UInt8):47::l ∉ a7 (oW a m):=by
 cases m with
 | zero=>simp [a7,oW,dr.toks]
 | succ m=>
  simp only [oW,cj,Zu,sM,false_or];simp [a7,dr.toks,fy]
theorem sO (a:Nat):∀ m,gI ((cf a m).flatMap (fun y=>y++[32]))
 | 0=>show gI [] by decide
 | m+1=>by
  simp only [cf,List.flatMap_append];refine (sO a m).mk ?_;simp only [List.flatMap_cons,List.flatMap_nil,YX];exact (jQ _).mk (by decide)
theorem CQ (a m:Nat):gI (Lib.join (cf a m) [32]):=by
 cases m with
 | zero=>show gI [];decide
 | succ m=>
  simp only [cf,uY];exact (sO a m).mk (jQ _)
structure pN (s:ByteArray):Prop where
 f:jt s kF 0=⟨#[]⟩
 t:jt s kT 0≠kP
 d:jt s kD 0=⟨#[]⟩
 i:jt s kI 0=⟨#[]⟩
 pl:∀ a,ed (s.data.toList.drop a)
theorem Ek {x:List UInt8} {k:ByteArray} (h:x≠k.data.toList):(⟨x.toArray⟩:ByteArray)≠k:=by
 intro e;apply h;rw [<-e]
theorem lO {s:ByteArray} (xs:List dr) (la u:List UInt8) (hs:s.data.toList=gE xs++la) (ho:iP xs=true) (hl:fs la=true) (ha:gI s.data.toList)
  (n:∀ k∈[kF,kD,kI],k.data.toList ∉ a7 xs/\k.data.toList≠la) (ht:a6 kT.data.toList 0 (a7 xs)=some u/\u≠kP.data.toList\/(kT.data.toList ∉ a7 xs/\kT.data.toList≠la)):pN s:=by
 refine ⟨fH xs la 0 hs ho hl (n kF (by simp)).1 (n kF (by simp)).2,?_,fH xs la 0 hs ho hl (n kD (by simp)).1 (n kD (by simp)).2,fH xs la 0 hs ho hl (n kI (by simp)).1 (n kI (by simp)).2,fun a=>ha.plainly a⟩;rcases ht with ⟨h1,h2⟩ | ⟨h1,h2⟩
 ·rw [gV xs la 0 u hs ho h1];exact Ek h2
 ·rw [fH xs la 0 hs ho hl h1 h2];exact Ek (x:=[]) (by decide)
theorem qN {s:ByteArray} (up:Int) (a m:Nat) (ct:Int) (hs:s.data.toList=jN up (Lib.join (cf a m) [32]) ct):pN s:=by
 refine lO ([.w [60,60] [32],.w kT.data.toList [32],.w [47,80,97,103,101,115] [32]]++(lr [47,80,97,114,101,110,116] up++([.w [47,75,105,100,115] [32],.b 91 []]++(oW a m++[.w [47,67,111,117,110,116] [32],.w (Lib.itoa ct) [32]])))) [62,62] [47,80,97,103,101,115] ?_ ?_ (by decide) ?_ ?_ (.inl ⟨?_,by decide⟩)
 ·rw [hs];simp only [iX,jG,x',jN];simp [gE,dr.text,kT]
 ·simp only [iR,gy _ _ (show fs [47,80,97,114,101,110,116]=true by decide),CO];simp [iP,dr.ok,fZ,kT];decide
 ·rw [hs];exact (((((show gI _ by decide).mk (fv _ _ (by decide))).mk (by decide)).mk (CQ a m)).mk (by decide)).mk (nA ct) |>.mk (by decide)
 ·intro k hk;simp only [Zl,YU,or_false] at hk;rcases hk with rfl | rfl | rfl <;> refine ⟨?_,by decide⟩ <;> simp only [cj,Zu,not_or] <;> refine ⟨by simp [a7,dr.toks,kF,kD,kI,kT],fa _ _ _ (by decide),by simp [a7,dr.toks,kF,kD,kI,kT],CL _ _ _,by simp [a7,dr.toks,kF,kD,kI,kT,fy]⟩
 ·simp [a7,dr.toks,a6,kT]
theorem BD {s:ByteArray} (z:Int) (hs:s.data.toList=Lib.itoa z):pN s:=by
 refine lO [] (Lib.itoa z) [] hs rfl (fZ z) (by rw [hs];exact nA z) ?_ (.inr ⟨by simp [a7],fun e=>(fy z _).1 e⟩);intro k hk;simp only [Zl,YU,or_false] at hk;rcases hk with rfl | rfl | rfl <;> exact ⟨by simp [a7],fun e=>(fy z _).1 e⟩
theorem yA {s:ByteArray} (hs:s.data.toList=lH):pN s:=by
 refine lO [.w [60,60] [32],.w kT.data.toList [32],.w [47,70,111,110,116] [32],.w [47,83,117,98,116,121,112,101] [32],.w [47,84,121,112,101,49] [32],.w [47,66,97,115,101,70,111,110,116] [32],.w [47,72,101,108,118,101,116,105,99,97] [32]] [62,62] [47,70,111,110,116] (by rw [hs];rfl) (by decide) (by decide) (by rw [hs];decide) ?_ (.inl ⟨by decide,by decide⟩);intro k hk;simp only [Zl,YU,or_false] at hk;rcases hk with rfl | rfl | rfl <;> exact ⟨by decide,by decide⟩
theorem yC {s:ByteArray} (all m:Nat) (hs:s.data.toList=f_ all m):pN s:=by
 refine lO ([.w [60,60] [32],.w kT.data.toList [32],.w [47,79,117,116,108,105,110,101,115] [32]]++(lr [47,70,105,114,115,116] ((all+1:Nat):Int)++(lr [47,76,97,115,116] ((all+m:Nat):Int)++[.w [47,67,111,117,110,116] [32],.w (Lib.itoa (m:Int)) [32]]))) [62,62] [47,79,117,116,108,105,110,101,115] ?_ ?_ (by decide) ?_ ?_ (.inl ⟨?_,by decide⟩)
 ·rw [hs];simp only [iX,jG,f_];simp [gE,dr.text,kT]
 ·simp only [iR,gy _ _ (show fs [47,70,105,114,115,116]=true by decide),gy _ _ (show fs [47,76,97,115,116]=true by decide)];simp [iP,dr.ok,fZ,kT];decide
 ·rw [hs];exact (((((show gI _ by decide).mk (fv _ _ (by decide))).mk (fv _ _ (by decide))).mk (by decide)).mk (nA _)).mk (by decide)
 ·intro k hk;simp only [Zl,YU,or_false] at hk;rcases hk with rfl | rfl | rfl <;> refine ⟨?_,by decide⟩ <;> simp only [cj,Zu,not_or] <;> refine ⟨by simp [a7,dr.toks,kF,kD,kI,kT],fa _ _ _ (by decide),fa _ _ _ (by decide),by simp [a7,dr.toks,kF,kD,kI,kT,fy]⟩
 ·simp [a7,dr.toks,a6,kT]
theorem sU {s:ByteArray} (root out:Nat) (hs:s.data.toList=vu root out):pN s:=by
 refine lO ([.w [60,60] [32],.w kT.data.toList [32],.w [47,67,97,116,97,108,111,103] [32],.w [47,80,97,103,101,115] [32]]++(oX (root:Int)++lr [47,79,117,116,108,105,110,101,115] (out:Int))) [62,62] [47,67,97,116,97,108,111,103] ?_ ?_ (by decide) ?_ ?_ (.inl ⟨?_,by decide⟩)
 ·rw [hs];simp only [iX,jG,vu];simp [gE,dr.text,kT,oX,aD]
 ·simp only [iR,gy _ _ (show fs [47,79,117,116,108,105,110,101,115]=true by decide)];simp [iP,dr.ok,fZ,kT,oX];decide
 ·rw [hs];exact ((((show gI _ by decide).mk (jQ _)).mk (by decide)).mk (fv _ _ (by decide))).mk (by decide)
 ·intro k hk;simp only [Zl,YU,or_false] at hk;rcases hk with rfl | rfl | rfl <;> refine ⟨?_,by decide⟩ <;> simp only [cj,Zu,not_or] <;> refine ⟨by simp [a7,dr.toks,kF,kD,kI,kT],by simp [a7,dr.toks,kF,kD,kI,kT,oX,fy],fa _ _ _ (by decide)⟩
 ·simp [a7,dr.toks,a6,kT]
structure wJ (s:ByteArray) (w h:Int):Prop where
 f:jt s kF 0=⟨#[]⟩
 t:jt s kT 0=kP
 w:jt s kM 3=⟨(bJ w).toArray⟩
 h:jt s kM 4=⟨(bJ h).toArray⟩
 pl:∀ a,ed (s.data.toList.drop a)
theorem DZ {s:ByteArray} (font p i:Nat) (z:Int×Int) (hs:s.data.toList=vO font p i z):wJ s z.1 z.2:=by
 obtain ⟨x1,hx1⟩:∃ x,x=[dr.w [60,60] [32],.w kT.data.toList [32],.w kP.data.toList [32]]:=⟨_,rfl⟩;obtain ⟨x2,hx2⟩:∃ x,x=lr [47,80,97,114,101,110,116] ((font+1+p+i / 8:Nat):Int):=⟨_,rfl⟩;obtain ⟨x3,hx3⟩:∃ x,x=[dr.w kM.data.toList [32],.b 91 [],.w [48] [32],.w [48] [32],.w (bJ z.1) [32],.wb (bJ z.2) 93 [32]]:=⟨_,rfl⟩;obtain ⟨x4,hx4⟩:∃ x,x=lr [47,67,111,110,116,101,110,116,115] ((2*i+1:Nat):Int):=⟨_,rfl⟩;obtain ⟨x5,hx5⟩:∃ x,x=[dr.w [47,82,101,115,111,117,114,99,101,115] [32],.w [60,60] [32],.w [47,70,111,110,116] [32],.w [60,60] [32]]:=⟨_,rfl⟩;obtain ⟨x6,hx6⟩:∃ x,x=lr [47,70,49] (font:Int):=⟨_,rfl⟩;obtain ⟨x7,hx7⟩:∃ x,x=[dr.w [62,62] [32],.w [62,62] [32]]:=⟨_,rfl⟩;have hs':s.data.toList=gE (x1++(x2++(x3++(x4++(x5++(x6++x7))))))++[62,62]:=by
  rw [hs];simp only [iX,hx2,hx4,hx6,jG,vO,pn];simp [gE,dr.text,hx1,hx3,hx5,hx7,kT,kP,kM]
 have ho:iP (x1++(x2++(x3++(x4++(x5++(x6++x7))))))=true:=by
  simp only [iR,hx2,hx4,hx6,gy _ _ (show fs [47,80,97,114,101,110,116]=true by decide),gy _ _ (show fs [47,67,111,110,116,101,110,116,115]=true by decide),gy _ _ (show fs [47,70,49]=true by decide)];simp [iP,dr.ok,CX,hx1,hx3,hx5,hx7,kT,kP,kM];decide
 have ha:gI s.data.toList:=by
  rw [hs];refine (((((((show gI _ by decide).mk (fv _ _ (by decide))).mk ?_).mk (fv _ _ (by decide))).mk (by decide)).mk (fv _ _ (by decide))).mk (by decide));exact ((((show gI _ by decide).mk (aZ _)).mk (by decide)).mk (aZ _)).mk (by decide)
 have hm3:∀ k,a6 kM.data.toList k (a7 (x1++(x2++(x3++(x4++(x5++(x6++x7)))))))=a6 kM.data.toList k (a7 (x3++(x4++(x5++(x6++x7))))):=by
  intro k;have e1:∀ ts,a6 kM.data.toList k (a7 x1++ts)=a6 kM.data.toList k ts:=by intro ts;rw [hx1];simp [a7,dr.toks,a6,kT,kP,kM]
  rw [cj,e1,cj,hx2];exact j4 _ _ _ _ _ (by decide)
 refine ⟨?_,?_,?_,?_,fun a=>ha.plainly a⟩
 ·refine fH _ _ 0 hs' ho (by decide) ?_ (by decide);simp only [cj,Zu,not_or,hx2,hx4,hx6];refine ⟨?_,fa _ _ _ (by decide),?_,fa _ _ _ (by decide),?_,fa _ _ _ (by decide),?_⟩ <;> simp [a7,dr.toks,hx1,hx3,hx5,hx7,kF,kT,kP,kM,D2]
 ·refine (gV _ _ 0 kP.data.toList hs' ho ?_);rw [cj,hx1];simp [a7,dr.toks,a6,kT]
 ·refine gV _ _ 3 (bJ z.1) hs' ho ?_;rw [hm3,hx3];simp [a7,dr.toks,a6]
 ·refine gV _ _ 4 (bJ z.2) hs' ho ?_;rw [hm3,hx3];simp [a7,dr.toks,a6]
structure tc (s:ByteArray) (t:List UInt8) (n:Nat):Prop where
 f:jt s kF 0=⟨#[]⟩
 ty:jt s kT 0=⟨#[]⟩
 d:jt s kD 0=⟨#[91]⟩
 i:jt s kI 0=⟨(bc t).toArray⟩
 d1:jt s kD 1=⟨(Lib.itoa (n:Int)).toArray⟩
 pl:∀ a,ed (s.data.toList.drop a)
theorem DY {s:ByteArray} (all m fp i:Nat) (t:List UInt8) (p:Nat) (hs:s.data.toList=iK all m fp i t p):tc s t (fp+p):=by
 obtain ⟨x1,hx1⟩:∃ x,x=[dr.w [60,60] [32],.w kI.data.toList [32],.q t [32]]:=⟨_,rfl⟩;obtain ⟨x2,hx2⟩:∃ x,x=lr [47,80,97,114,101,110,116] (all:Int):=⟨_,rfl⟩;obtain ⟨x3,hx3⟩:∃ x,x=lr [47,80,114,101,118] (if i=0 then 0 else ((all+i:Nat):Int)):=⟨_,rfl⟩;obtain ⟨x4,hx4⟩:∃ x,x=lr [47,78,101,120,116] (if i+1=m then 0 else ((all+i+2:Nat):Int)):=⟨_,rfl⟩;obtain ⟨x5,hx5⟩:∃ x,x=[dr.w kD.data.toList [32],.b 91 [],.w (Lib.itoa ((fp+p:Nat):Int)) [32],.w [48] [32],.w [82] [32],.wb [47,70,105,116] 93 [32]]:=⟨_,rfl⟩;have hs':s.data.toList=gE (x1++(x2++(x3++(x4++x5))))++[62,62]:=by
  rw [hs];simp only [iX,hx2,hx3,hx4,jG,iK];simp [gE,dr.text,hx1,hx5,kI,kD,aD]
 have ho:iP (x1++(x2++(x3++(x4++x5))))=true:=by
  simp only [iR,hx2,hx3,hx4,gy _ _ (show fs [47,80,97,114,101,110,116]=true by decide),gy _ _ (show fs [47,80,114,101,118]=true by decide),gy _ _ (show fs [47,78,101,120,116]=true by decide)];simp [iP,dr.ok,fZ,hx1,hx5,kI,kD];decide
 have ha:gI s.data.toList:=by
  rw [hs];exact ((((((((show gI _ by decide).mk (np _)).mk (by decide)).mk (fv _ _ (by decide))).mk (fv _ _ (by decide))).mk (fv _ _ (by decide))).mk (by decide)).mk (jQ _)).mk (by decide)
 have hd5:∀ k,a6 kD.data.toList k (a7 (x1++(x2++(x3++(x4++x5)))))=a6 kD.data.toList k (a7 x5):=by
  intro k;have e1:∀ ts,a6 kD.data.toList k (a7 x1++ts)=a6 kD.data.toList k ts:=by intro ts;rw [hx1];simp [a7,dr.toks,a6,kI,kD,wn]
  rw [cj,e1,cj,cj,cj,hx2,hx3,hx4];exact (j4 _ _ _ _ _ (by decide)).trans ((j4 _ _ _ _ _ (by decide)).trans (j4 _ _ _ _ _ (by decide)))
 refine ⟨?_,?_,?_,?_,?_,fun a=>ha.plainly a⟩
 ·refine fH _ _ 0 hs' ho (by decide) ?_ (by decide);simp only [cj,Zu,not_or,hx2,hx3,hx4];refine ⟨?_,fa _ _ _ (by decide),fa _ _ _ (by decide),fa _ _ _ (by decide),?_⟩ <;> simp [a7,dr.toks,hx1,hx5,kF,kI,kD,j1,fy]
 ·refine fH _ _ 0 hs' ho (by decide) ?_ (by decide);simp only [cj,Zu,not_or,hx2,hx3,hx4];refine ⟨?_,fa _ _ _ (by decide),fa _ _ _ (by decide),fa _ _ _ (by decide),?_⟩ <;> simp [a7,dr.toks,hx1,hx5,kT,kI,kD,j1,fy]
 ·refine gV _ _ 0 [91] hs' ho ?_;rw [hd5,hx5];simp [a7,dr.toks,a6]
 ·refine gV _ _ 0 (bc t) hs' ho ?_;rw [cj,hx1];simp [a7,dr.toks,a6,kI]
 ·refine gV _ _ 1 (Lib.itoa ((fp+p:Nat):Int)) hs' ho ?_;rw [hd5,hx5];simp [a7,dr.toks,a6]
structure pJ (s:ByteArray) (t:List UInt8):Prop where
 f:jt s kF 0=⟨#[]⟩
 ty:jt s kT 0=⟨#[]⟩
 d:jt s kD 0=⟨#[]⟩
 i:jt s kI 0=⟨(bc t).toArray⟩
 pl:∀ a,ed (s.data.toList.drop a)
theorem CH {s:ByteArray} (t:List UInt8) (hs:s.data.toList=gx t):pJ s t:=by
 obtain ⟨x1,hx1⟩:∃ x,x=[dr.w [60,60] [32],.w kI.data.toList [32],.q t [32]]:=⟨_,rfl⟩;have hs':s.data.toList=gE x1++[62,62]:=by rw [hs,gx,hx1];simp [gE,dr.text,kI]
 have ho:iP x1=true:=by rw [hx1];rfl
 have ha:gI s.data.toList:=by rw [hs];exact ((show gI _ by decide).mk (np _)).mk (by decide)
 refine ⟨?_,?_,?_,?_,fun a=>ha.plainly a⟩
 ·exact fH _ _ 0 hs' ho (by decide) (by simp [a7,dr.toks,hx1,kF,kI,j1]) (by decide)
 ·exact fH _ _ 0 hs' ho (by decide) (by simp [a7,dr.toks,hx1,kT,kI,j1]) (by decide)
 ·exact fH _ _ 0 hs' ho (by decide) (by simp [a7,dr.toks,hx1,kD,kI,j1]) (by decide)
 ·exact gV _ _ 0 (bc t) hs' ho (by simp [a7,dr.toks,a6,hx1,kI])
def n9 (n:Nat) (Z:List UInt8):List UInt8:=cX n++(Z++[10,101,110,100,115,116,114,101,97,109])
structure Ep (s:ByteArray):Prop where
 f:jt s kF 0=⟨#[47,70,108,97,116,101,68,101,99,111,100,101]⟩
 pl:∀ a,ed (s.data.toList.drop a)
theorem DX {s:ByteArray} (n:Nat) (Z:List UInt8) (hs:s.data.toList=n9 n Z):Ep s:=by
 refine ⟨gV [.w [60,60] [32],.w kF.data.toList [32],.w [47,70,108,97,116,101,68,101,99,111,100,101] [32]] ([47,76,101,110,103,116,104,32]++aD (n:Int)++[32,62,62,10,115,116,114,101,97,109,10]++(Z++[10,101,110,100,115,116,114,101,97,109])) 0 [47,70,108,97,116,101,68,101,99,111,100,101] ?_ (by decide) (by decide),?_⟩
 ·rw [hs,n9,cX];simp [gE,dr.text,kF]
 ·intro a;rw [hs,n9, <-ZT];by_cases h:a<=(cX n++Z).length+1
  ·left;simp at h ⊢;omega
  ·right;obtain ⟨j,rfl⟩:∃ j,a=(cX n++Z).length+j:=⟨a - (cX n++Z).length,by omega⟩;rw [List.drop_length_add_append];intro c hc;have:=List.mem_of_mem_drop hc;exact (show gI [10,101,110,100,115,116,114,101,97,109] by decide) c this
def jA:Nat->List (List UInt8)->List (List UInt8)
 | _,[]=>[]
 | i,Z::r=>n9 (2*i+2) Z::Lib.itoa (Z.length:Int)::jA (i+1) r
theorem uI (i:Nat) (Z:List UInt8):d_ i Z=aK (2*i+1) (n9 (2*i+2) Z)++aK (2*i+2) (Lib.itoa (Z.length:Int)):=by
 have e:fC=[10,101,110,100,115,116,114,101,97,109]++eh:=rfl;simp only [d_,aK,n9,e,ZT]
theorem n_:∀ (Zs:List (List UInt8)) (i:Nat),bW i Zs=aF (2*i+1) (jA i Zs)
 | [],_=>rfl
 | Z::r,i=>by
  have ih:=n_ r (i+1);simp only [bW,jA,aF,ih,uI,ZT];congr 2
theorem sG:∀ (Zs:List (List UInt8)) (a i:Nat),be a i Zs=aO a (2*i+1) (jA i Zs)
 | [],_,_=>rfl
 | Z::r,a,i=>by
  have ih:=sG r (a+(d_ i Z).length) (i+1);have e:fC=[10,101,110,100,115,116,114,101,97,109]++eh:=rfl;have e1:(aL (2*i+1)++(cX (2*i+2)++(Z++fC))).length=(aK (2*i+1) (n9 (2*i+2) Z)).length:=by
   simp only [aK,n9,e,ZT]
  simp only [be,pT,jA,aO,ih,e1,ZG,Zt];congr 3;rw [uI,ZY,show 2*i+1+1=2*i+2 from rfl];omega
theorem mL:∀ (Zs:List (List UInt8)) (i:Nat),(jA i Zs).length=2*Zs.length
 | [],_=>rfl
 | Z::r,i=>by simp only [jA,ZX,mL r (i+1)];omega
theorem gu:∀ (l m:List (List UInt8)) (a n:Nat),aO a n (l++m)=aO a n l++aO (a+(aF n l).length) (n+l.length) m
 | [],m,a,n=>by simp [aO,aF]
 | b::l,m,a,n=>by
  simp only [ZG,aO,aF,gu l m,ZY,ZX];congr 3 <;> omega
def bz (Zs:List (List UInt8)) (zs:List (Int×Int)) (ms:List (List UInt8×Nat)) (t:List UInt8):List (List UInt8):=jA 0 Zs++cI (cK Zs) zs ms t
variable (Zs:List (List UInt8)) (zs:List (Int×Int)) (ms:List (List UInt8×Nat)) (t:List UInt8)
theorem io:eH Zs zs ms t=aO 9 1 (bz Zs zs ms t):=by
 have e:(aC Zs).length=9+(aF 1 (jA 0 Zs)).length:=by rw [aC,n_,ZY];rfl
 have e2:cK Zs=1+(jA 0 Zs).length:=by rw [mL,cK];omega
 rw [bz,gu, <-e, <-e2];unfold eH;rw [sG]
def ex:List UInt8:=bi++aF 1 (bz Zs zs ms t)
theorem zY:aC Zs++dv Zs zs ms t=ex Zs zs ms t:=by
 have e2:cK Zs=1+(jA 0 Zs).length:=by rw [mL,cK];omega
 unfold ex bz;rw [dX, <-e2,aC,n_,ZT];rfl
def Dm:List UInt8:=bR (eH Zs zs ms t)++iL ((eH Zs zs ms t).length+1) (l7 (cK Zs) zs ms t) (fo (cK Zs) zs ms t)
def Ei:List UInt8:=[120,114,101,102]++10::([48,32]++Lib.itoa (((eH Zs zs ms t).length+1:Nat):Int)++10::([48,48,48,48,48,48,48,48,48,48,32,54,53,53,51,53,32,102,32]++10::Dm Zs zs ms t))
def Cy (n:Nat):List UInt8:=Lib.itoa (n:Int)++10::[37,37,69,79,70,10]
def EI:List UInt8:=[115,116,97,114,116,120,114,101,102,10]
theorem u6:fO Zs zs ms t=ex Zs zs ms t++(Ei Zs zs ms t++(EI++Cy (ex Zs zs ms t).length)):=by
 have e:fO Zs zs ms t=(aC Zs++dv Zs zs ms t)++iE (eH Zs zs ms t) (l7 (cK Zs) zs ms t) (fo (cK Zs) zs ms t) ((aC Zs++dv Zs zs ms t).length):=by
  rw [ZY,ZT];rfl
 rw [e,zY];unfold iE fu Ei Dm Cy EI;simp [ZT]
theorem uq:∀ (l:List (List UInt8)) (a n k:Nat) (hk:k < l.length),(aO a n l)[k]? =some (a+(aF n (l.take k)).length)
 | [],_,_,k,hk=>absurd hk (by simp)
 | b::r,a,n,0,_=>by simp [aO,aF]
 | b::r,a,n,k+1,hk=>by
  have:=uq r (a+(aK n b).length) (n+1) k (by simpa using hk);simp only [aO,List.getElem?_cons_succ,this,List.take_succ_cons,aF,ZY];congr 1;omega
theorem vS (l:List (List UInt8)) (n k:Nat) (hk:k < l.length):aF n l=aF n (l.take k)++(aK (n+k) l[k]++aF (n+k+1) (l.drop (k+1))):=by
 conv=>lhs;rw [<-Ym k l,Zo hk]
 rw [dX,Zk,Yq (by omega)];rfl
theorem oN (l:List UInt8) (h0:l≠[]) (hl:∀ c∈l,48<=c.toNat/\c.toNat<=57):Lib.atoi l=some ((fS l:Nat):Int):=by
 cases l with
 | nil=>exact absurd rfl h0
 | cons c r=>
  have hc:=hl c (Zy _);show (if c==45 then _ else if c==43 then _ else (Lib.decNat (c::r)).map (fun (m:Nat)=>(m:Int)))=_
  rw [ZO (by intro e;have:=congrArg UInt8.toNat (beq_iff_eq.1 e);simp at this;omega),ZO (by intro e;have:=congrArg UInt8.toNat (beq_iff_eq.1 e);simp at this;omega)];unfold Lib.decNat;rw [ZO (by simp),j5 _ _ hl];rfl
theorem Ac (n:Nat):Lib.atoi (Lib.itoa (n:Int))=some (n:Int):=by
 rw [eP,oN _ (by rw [<-eP];exact qv _) (mV n)];rw [show fS (Lib.decDigits n)=n from mF n]
theorem t7:∀ (k:Nat),∀ c∈Lib.repeatL [48] k,c=48
 | 0,c,h=>by simp [Lib.repeatL] at h
 | k+1,c,h=>by
  simp [Lib.repeatL] at h;exact h.elim id (t7 k c)
theorem Dk (k:Nat):(Lib.repeatL [48] k).foldl (fun n c=>10*n+(c.toNat - 48)) 0=0:=by
 have gen:∀ l:List UInt8,(∀ c∈l,c=48)->l.foldl (fun n (c:UInt8)=>10*n+(c.toNat - 48)) 0=0:=by
  intro l;induction l with
  | nil=>intro _;rfl
  | cons c r ih=>
   intro h;have hc:=h c (Zy _);subst hc;exact ih (fun c hc=>h c (List.mem_cons_of_mem _ hc))
 exact gen _ (t7 k)
theorem Dw (n:Nat):∀ c∈gr n,48<=c.toNat/\c.toNat<=57:=by
 intro c hc;rcases Zu.1 hc with h | h
 ·rw [t7 _ c h];decide
 ·rw [eP] at h;exact mV n c h
theorem Cl (n:Nat):Lib.atoi (gr n)=some (n:Int):=by
 rw [oN _ (by unfold gr;simp [qv]) (Dw n)];unfold fS gr;rw [List.foldl_append,Dk,eP];rw [show List.foldl (fun n (c:UInt8)=>10*n+(c.toNat - 48)) 0 (Lib.decDigits n)=n from mF n]
theorem yk (s sub:List UInt8) (p k:Nat) (hp:p < k) (h:Lib.occAt s sub p=true) (hn:∀ j,p < j->j < k->Lib.occAt s sub j=false):Lib.lastOcc s sub k=p:=by
 induction k with
 | zero=>omega
 | succ k ih=>
  by_cases e:k=p
  ·subst e;exact Lib.lastOcc_hit s sub k h
  ·rw [Lib.lastOcc_miss s sub k (hn k (by omega) (by omega))];exact ih (by omega) (fun j h1 h2=>hn j h1 (by omega))
theorem tO (a t:List UInt8) (h:(115:UInt8) ∉ t):Lib.lastIndex (a++(EI++t)) EI=(a.length:Int):=by
 unfold Lib.lastIndex;have hl:EI.length=10:=rfl;rw [ZM (by simp only [ZY];omega)];refine yk _ _ a.length _ (by simp only [ZY];omega) ?_ ?_
 ·unfold Lib.occAt;rw [List.drop_left,List.isPrefixOf_iff_prefix];exact YT _ _
 ·intro j hj hk;unfold Lib.occAt;obtain ⟨i,rfl⟩:∃ i,j=a.length+(i+1):=⟨j - a.length - 1,by omega⟩;rw [List.drop_length_add_append];have hno:(115:UInt8) ∉ (EI++t).drop (i+1):=by
   intro hm;have:(115:UInt8)∈([116,97,114,116,120,114,101,102,10]++t).drop i:=hm;rcases Zu.1 (List.mem_of_mem_drop this) with h1 | h1
   ·exact absurd h1 (by decide)
   ·exact h h1
  cases hx:(EI++t).drop (i+1) with
  | nil=>rfl
  | cons c r=>
   rw [hx] at hno;have hc:(115:UInt8)≠c:=fun e=>hno (by rw [e];exact Zy _)
   show (List.isPrefixOf (115::_) (c::r))=false
   simp [List.isPrefixOf,hc]
theorem DO (n:Nat):(115:UInt8) ∉ Cy n:=by
 unfold Cy;intro h;rcases Zu.1 h with h | h
 ·have:=jO _ _ h;revert this;decide
 ·revert h;decide
theorem mQ (z:Int):(10:UInt8) ∉ Lib.itoa z:=by
 intro h;have:=jO _ _ h;revert this;decide
def Do:List (Nat×Int×Int)->List Value
 | []=>[]
 | z::r=>.int .i64 (z.1:Int)::.int .i64 z.2.1::.int .i64 z.2.2::Do r
theorem Dp (l:List (Nat×Int×Int)) (z:Nat×Int×Int):Do (l++[z])=Do l++[.int .i64 (z.1:Int),.int .i64 z.2.1,.int .i64 z.2.2]:=by
 induction l with
 | nil=>rfl
 | cons a r ih=>simp only [ZG,Do,ih]
theorem t_:∀ (l:List (Nat×Int×Int)) (i:Nat) z,l[i]? =some z->(Do l)[i*3]? =some (.int .i64 (z.1:Int))/\(Do l)[i*3+1]? =some (.int .i64 z.2.1)/\(Do l)[i*3+2]? =some (.int .i64 z.2.2)
 | [],i,z,h=>by simp at h
 | a::r,0,z,h=>by simp at h;subst h;exact ⟨rfl,rfl,rfl⟩
 | a::r,i+1,z,h=>by
  have:=t_ r i z (by simpa using h);have e:(i+1)*3=i*3+1+1+1:=by omega
  rw [e];exact this
theorem Tryz.infoSh:(Tryz.prog.info? 193).map (fun i=>(i.zero,i.size,i.bytes))=some (some (.agg #[oz,oz,oz]),3,24):=by kernel_rfl
theorem Tryz.infoMk3:(Tryz.prog.info? 98).map (fun i=>(i.zero,i.size,i.bytes))=some (some (.agg #[.string ⟨#[]⟩,oz]),2,24):=by kernel_rfl
structure gH where
 (ti:ByteArray)
 (sh:List (Nat×Int×Int))
 (cs:List (List UInt8))
 (ms:List (ByteArray×Nat))
def gG (B:Nat) (x:gH) (vs vc vm:Value):As:=ah (aW B 193 3 vs x.sh.length (Do x.sh)) (ah (aW B 9 1 vc x.cs.length (eY x.cs)) (aW B 98 2 vm x.ms.length (iz x.ms)))
theorem gG.thing (B:Nat) (x:gH) (vs vc vm:Value):aJ B (gG B x vs vc vm):=ah.thing (aW.thing _ _ _ _ _ _) (ah.thing (aW.thing _ _ _ _ _ _) (aW.thing _ _ _ _ _ _))
def cv (B l:Nat) (x:gH):As:=fun w S=>∃ v:Value×Value×Value,ah (aS B l [.string x.ti,v.1,v.2.1,v.2.2]) (gG B x v.1 v.2.1 v.2.2) w S
theorem cv.thing (B l:Nat) (x:gH):aJ B (cv B l x):=aJ.any fun _=>ah.thing (aS.thing _ _ _) (gG.thing _ _ _ _ _)
theorem cv.new {B:Nat} {w:World} (hB:B<=w.heap.size):∃ S,cv B w.heap.size ⟨⟨#[]⟩,[],[],[]⟩ (w.alloc (.cells #[.string ⟨#[]⟩,.slice none 0 0,.slice none 0 0,.slice none 0 0] 148)) S/\∀ k,S k->k=w.heap.size:=by
 have e:∀ k,¬ ob (.slice none 0 0) k:=fun k h=>by simp [ob,Value.ownBlock] at h
 refine ⟨cT (cC w.heap.size) (cT (ob (.slice none 0 0)) (cT (ob (.slice none 0 0)) (ob (.slice none 0 0)))),⟨(.slice none 0 0,.slice none 0 0,.slice none 0 0),cC w.heap.size,_,aS.alloc (vs:=[.string ⟨#[]⟩,.slice none 0 0,.slice none 0 0,.slice none 0 0]) hB,⟨_,_,aW.nil _ _ _ _,⟨_,_,aW.nil _ _ _ _,aW.nil _ _ _ _,fun k a=>absurd a (e k),rfl⟩,fun k a=>absurd a (e k),rfl⟩,?_,rfl⟩,?_⟩
 ·rintro k _ (a | a | a) <;> exact e k a
 ·rintro k (a | a | a | a)
  ·exact a
  all_goals exact absurd a (e k)
theorem sK (c:UInt8) (r b:List UInt8):∀ a:List UInt8,c ∉ a->Lib.index (a++(c::r++b)) (c::r)=(a.length:Int)
 | [],_=>by
  show Lib.index (c::(r++b)) (c::r)=0
  unfold Lib.index;rw [ZM (by rw [List.isPrefixOf_iff_prefix];exact YT (c::r) b)]
 | x::l,h=>by
  have hb:c≠x:=fun e=>h (by rw [e];exact Zy _)
  have ih:=sK c r b l (fun e=>h (List.mem_cons_of_mem _ e));rw [ZG];unfold Lib.index;rw [ZO (by simp [List.isPrefixOf,hb]),ZO (by rw [ih];simp),ih];simp
theorem DJ (c:UInt8) (r a b:List UInt8) (h:c ∉ a):Lib.cut (a++(c::r++b)) (c::r)=(a,b,true):=by
 unfold Lib.cut;rw [sK c r b a h,ZM (by omega)];simp only [Int.toNat_natCast,List.take_left, <-List.drop_drop,List.drop_left]
theorem AT (z:Int):(10:UInt8) ∉ aD z:=by
 unfold aD;intro h;rcases Zu.1 h with h | h
 ·exact mQ _ h
 ·revert h;decide
theorem Ct (n:Nat) (Z:List UInt8):∃ a,Lib.cut (n9 n Z) [10,115,116,114,101,97,109,10]=(a,Z++[10,101,110,100,115,116,114,101,97,109],true):=by
 refine ⟨[60,60,32,47,70,105,108,116,101,114,32,47,70,108,97,116,101,68,101,99,111,100,101,32,47,76,101,110,103,116,104,32]++aD (n:Int)++[32,62,62],?_⟩;have:=DJ 10 [115,116,114,101,97,109,10] ([60,60,32,47,70,105,108,116,101,114,32,47,70,108,97,116,101,68,101,99,111,100,101,32,47,76,101,110,103,116,104,32]++aD (n:Int)++[32,62,62]) (Z++[10,101,110,100,115,116,114,101,97,109]) (by
  intro h;rcases Zu.1 h with h | h
  ·rcases Zu.1 h with h | h
   ·revert h;decide
   ·exact AT _ h
  ·revert h;decide)
 rw [<-this];congr 1;simp [n9,cX]
theorem cv.open {B l:Nat} {x:gH} {w:World} {S:Bl} (h:cv B l x w S):∃ aa ks ac kc am km,ah (aS B l [.string x.ti,.slice aa x.sh.length ks,.slice ac x.cs.length kc,.slice am x.ms.length km]) (gG B x (.slice aa x.sh.length ks) (.slice ac x.cs.length kc) (.slice am x.ms.length km)) w S:=by
 obtain ⟨⟨vs,vc,vm⟩,h⟩:=h;obtain ⟨S1,S2,h1,⟨S3,S4,h3,⟨S5,S6,h5,h6,_⟩,_⟩,_⟩:=id h;obtain ⟨aa,ks,e1⟩:=h3.form;obtain ⟨ac,kc,e2⟩:=h5.form;obtain ⟨am,km,e3⟩:=h6.form;dsimp only at e1 e2 e3 h;subst e1 e2 e3;exact ⟨aa,ks,ac,kc,am,km,h⟩
theorem oI (w:World) (B l n cap m0:Nat) (ad:Option Addr) (xs:List Value) (body:ByteArray) (a Z:List UInt8) (ZZ:Ending->World->Prop) (hn:n<=1000) (hl:l < w.heap.size) (hB:B<=w.heap.size) (c2:w.cell? (zq l 2)=some (.slice ad n cap)) (f2:w.frozen? (zq l 2)=false) (ow:w.ownsRow B 9 1 (.slice ad n cap) n xs) (ne:(Value.slice ad n cap).ownBlock≠some l)
  (HC:Hid (CP 221 #[body,.string ⟨#[10,115,116,114,101,97,109,10]⟩] w fun e w'=>e=.returned (.tuple #[.string ⟨a.toArray⟩,.string ⟨(Z++[10,101,110,100,115,116,114,101,97,109]).toArray⟩,.bool true])/\∃ n,w'=w.drewN n))
  (HT:Hid (∀ w1,QE 222 #[.string ⟨(Z++[10,101,110,100,115,116,114,101,97,109]).toArray⟩,.string ⟨#[10,101,110,100,115,116,114,101,97,109]⟩] w1 (.string ⟨Z.toArray⟩)))
  (HZ:Hid (∀ v w7,w.grownBy w7 (Value.slice ad n cap).ownBlock->gq w (Value.slice ad n cap).ownBlock B 9 1 (n+1) (xs++[.string ⟨Z.toArray⟩]) v w7->∀ u,ZZ (.returned u) (w7.setCell (zq l 2) v))):
  CP 190 #[zp l,body] w ZZ:=by
 go_enter func190,ntmps190
 go_wp2_with fail
 refine HC.out.mono ?_;rintro e w1 ⟨rfl,qn,rfl⟩;go_wp2_with fail
 replace c2:(w.drewN qn).cell? (zq l 2)=some (.slice ad n cap):=c2;replace f2:(w.drewN qn).frozen? (zq l 2)=false:=f2;replace hl:l < (w.drewN qn).heap.size:=hl;replace hB:B<=(w.drewN qn).heap.size:=hB;replace ow:(w.drewN qn).ownsRow B 9 1 (.slice ad n cap) n xs:=ow;have HZ9:Hid (∀ v w7,(w.drewN qn).grownBy w7 (Value.slice ad n cap).ownBlock->gq (w.drewN qn) (Value.slice ad n cap).ownBlock B 9 1 (n+1) (xs++[.string ⟨Z.toArray⟩]) v w7->∀ u,ZZ (.returned u) (w7.setCell (zq l 2) v)):=fun v w7 hg ha=>HZ.out v w7 ⟨hg.os,hg.tape,hg.output,hg.size,hg.block⟩ ha
 clear HZ HC;generalize w.drewN qn=wa at c2 f2 hl hB ow HZ9 ⊢;refine cW 9 _ 8 (fun w w'=>w.grownBy w' (Value.slice ad n cap).ownBlock) (pK wa [.pointer (some ⟨l,0,none⟩),.pointer (some ⟨l,0,none⟩),.pointer (some ⟨l,0,none⟩),.pointer (some ⟨l,2,none⟩),.slice ad n cap,.string ⟨(Z++[10,101,110,100,115,116,114,101,97,109]).toArray⟩,.string ⟨Z.toArray⟩,undef,undef] 7 8 [.string ⟨Z.toArray⟩] (Value.slice ad n cap).ownBlock B 9 1 (n+1) (xs++[.string ⟨Z.toArray⟩])) (by kernel_rfl) rfl (by kernel_rfl) (lT _) (fun _ _ _=>lV) (fun _ _ _=>fE) pZ jy ?_;simp only [TD];refine ⟨aB (by decide) fun w1 hG hd=>?_,fun v0=>?_⟩
 ·clear hd;go_wp2;exact RG
 simp only [TN];refine ⟨aB (by decide) fun w1 hG hd=>?_,fun v1=>?_⟩
 ·clear hd;go_wp2;exact RG
 simp only [TN];refine ⟨aB (by decide) fun w1 hG hd=>?_,fun v2=>?_⟩
 ·have d1:v1=.pointer (some ⟨l,0,none⟩):=hd ⟨1,.data⟩ (by simp) rfl;clear hd;subst d1;go_wp2;exact RG
 simp only [TN];refine ⟨aB (by decide) fun w1 hG hd=>?_,fun v3=>?_⟩
 ·have d2:v2=.pointer (some ⟨l,0,none⟩):=hd ⟨2,.data⟩ (by simp) rfl;clear hd;subst d2;go_wp2;exact RG
 simp only [TN];refine ⟨aB (by decide) fun w1 hG hd=>?_,fun v4=>?_⟩
 ·have d3:v3=.pointer (some ⟨l,2,none⟩):=hd ⟨3,.data⟩ (by simp) rfl;clear hd;subst d3;have c:=(ZR (a:=zq l 2) (hG.block l hl (fun e=>ne e.symm))).trans c2;go_wp2;exact RG
 simp only [TN];refine ⟨aB (by decide) fun w1 hG hd=>?_,fun v5=>?_⟩
 ·clear hd;go_wp2;exact RG
 simp only [TN];refine ⟨aB (by decide) fun w1 hG hd=>?_,fun v6=>?_⟩
 ·have d5:v5=.string ⟨(Z++[10,101,110,100,115,116,114,101,97,109]).toArray⟩:=hd ⟨5,.data⟩ (by simp) rfl;clear hd;subst d5;have HX:=ai (HT.out w1);go_wp2_with fail
  refine HX.out.mono ?_;rintro e w2 ⟨rfl,rfl⟩;go_wp2;exact RG
 simp only [TN];refine ⟨aB (by decide) fun w1 hG hd=>?_,fun v7=>?_⟩
 ·have d6:v6=.string ⟨Z.toArray⟩:=hd ⟨6,.data⟩ (by simp) rfl;clear hd;subst d6;go_wp2;exact ⟨jI _ _ (fun k hk=>ZK (ow.lt k hk).2 (World.grownBy.size hG)),(ZQ _ _).alloc (ZV _) _⟩
 simp only [TN];refine ⟨dO rfl fun w1 hG hd=>?_,fun v8=>?_⟩
 ·have d4:v4=.slice ad n cap:=hd ⟨4,.data⟩ (by simp) rfl;have d7:pO _ _ v7 w1:=hd ⟨7,.data⟩ (by simp) rfl;clear hd;subst d4;exact nJ rfl (.tmp 17) (.tmp 20) 47 rfl 9 (.string ⟨#[]⟩) 1 16 Tryz.infoStr rfl (by omega) underlying47 B (Value.slice ad n cap) n (xs) rfl ow hB hG v7 rfl [.string ⟨Z.toArray⟩] d7 rfl (by intro u hu;simp at hu;subst hu;rfl) (by omega) (by omega) ⟨_,rfl,by simp [Act.put]⟩
 simp only [TN];intro w7 hG hd;have d0:v0=.pointer (some ⟨l,0,none⟩):=hd 0 (by omega);have d8:gq _ _ _ _ _ _ _ v8 w7:=hd 8 (by omega);subst d0;obtain ⟨ad7,cap7,hv7⟩:=d8.form;subst hv7;have HX:=ai (HZ9.out _ w7 hG d8);have hb:=hG.block l hl (fun e=>ne e.symm);have k2:=(ZR (a:=zq l 2) hb).trans c2;have kf:=(ZH (a:=zq l 2) hb).trans f2;clear hd HZ9 d8 hG hb c2 ow f2;go_wp2_with fail
 go_end0;exact HX.out _
theorem pD (w:World) (B l:Nat) (x:gH) (S:Bl) (body:ByteArray) (n:Nat) (Z:List UInt8) (hb:body.data.toList=n9 n Z) (hsz:body.size<=2000000000) (hcl:x.cs.length<=1000) (hB:B<=w.heap.size) (hm:ft B w) (h:cv B l x w S):
  CP 190 #[zp l,body] w fun e w'=>(∃ v,e=.returned v)/\∃ S',cv B l {x with cs:=x.cs++[Z]} w' S'/\Mv S w S' w':=by
 obtain ⟨a,ha⟩:=Ct n Z;obtain ⟨_,m,hmc⟩:=hm;have HC:=Tryz.strings_Cut body ⟨#[10,115,116,114,101,97,109,10]⟩ m w (by omega) hmc;rw [hb] at HC;simp only [ha] at HC;have hzl:(Z++[10,101,110,100,115,116,114,101,97,109]).length<=2000000000:=by
  have:=congrArg List.length hb;rw [aP] at this;simp only [n9,ZY] at this ⊢;omega
 have HT:=fun w1=>Tryz.strings_TrimSuffix ⟨(Z++[10,101,110,100,115,116,114,101,97,109]).toArray⟩ ⟨#[10,101,110,100,115,116,114,101,97,109]⟩ w1 (by rw [ae];omega)
 simp only [lZ] at HT;obtain ⟨aa,ks,ac,kc,am,km,h⟩:=h.open;obtain ⟨c2,ow,ne,f2,hl,hgr⟩:=j6 (i:=2) (ah.thing (aW.thing _ _ _ _ _ _) (aW.thing _ _ _ _ _ _)) rfl (ah.mapR h fun _ _ k=>ah.turn k);refine oI w B l x.cs.length kc 0 ac (eY x.cs) body a Z _ hcl hl hB c2 f2 ow ne HC HT ?_;intro v w7 hg ha u;obtain ⟨S',h',m'⟩:=hgr _ _ v w7 hg ha;refine ⟨⟨u,rfl⟩,S',⟨(.slice aa x.sh.length ks,v,.slice am x.ms.length km),?_⟩,m'⟩;have e:eY (x.cs++[Z])=eY x.cs++[.string ⟨Z.toArray⟩]:=by simp [eY]
 have h9:=ah.mapR h' fun _ _ k=>ah.turn k
 unfold gG;dsimp only;rw [e,ZY];exact h9
theorem xp (w:World) (l:List Value) (t:TypeId):∀ j u,l[j]? =some u->(w.alloc (.cells l.toArray t)).cell? ((⟨w,0,none⟩:Addr).add j)=some u:=by
 intro j u h;have:=(aS.alloc (B:=0) (vs:=l) (w:=w) (t:=t) (YI _)).at j u h;have e:(⟨w,0,none⟩:Addr).add j=⟨w,j,none⟩:=by
  unfold Addr.add;split
  ·next h=>rw [h]
  ·simp
 rw [e];exact this
theorem th {wx w7:World} {o:Obj} {v v7:Value} {B:Nat} {e:TypeId} {z n:Nat} {xs:List Value} (hO:w7.ownsRow B e z v7 n xs) (hg:(wx.alloc o).grownBy w7 v.ownBlock) (hat:v7.ownBlock=v.ownBlock\/v7.ownBlock=some (wx.heap.size+1)):wx.grownBy w7 v.ownBlock/\gq wx v.ownBlock B e z n xs v7 w7:=by
 refine ⟨fE (row:=v.ownBlock) ((ZQ _ wx).alloc (ZV _) o) hg,hO,?_⟩;rcases hat with h | h
 ·exact .inl h
 ·exact .inr ⟨_,h,by omega⟩
theorem q7 (w:World) (B l n cap cw:Nat) (ad:Option Addr) (xs:List Value) (body vw vh:ByteArray) (W H:Int) (ZZ:Ending->World->Prop) (hn:n < 80) (hnum:cw<=100000) (hW:decide (1<=W/\W<=14400000)=true) (hH:decide (1<=H/\H<=14400000)=true) (hl:l < w.heap.size) (hB:B<=w.heap.size) (c1:w.cell? (zq l 1)=some (.slice ad n cap)) (f1:w.frozen? (zq l 1)=false) (ow:w.ownsRow B 193 3 (.slice ad n cap) n xs) (ne:(Value.slice ad n cap).ownBlock≠some l)
  (HV3:Hid (∀ wx,af w wx->QB 189 #[body,.string ⟨#[47,77,101,100,105,97,66,111,120]⟩,(3:Int)] wx vw))
  (HV4:Hid (∀ wx,af w wx->QB 189 #[body,.string ⟨#[47,77,101,100,105,97,66,111,120]⟩,(4:Int)] wx vh))
  (HLw:Hid (∀ wx,af w wx->QB 224 #[vw] wx (.tuple #[W,true])))
  (HLh:Hid (∀ wx,af w wx->QB 224 #[vh] wx (.tuple #[H,true])))
  (HZ:Hid (∀ v wx w7,af w wx->wx.grownBy w7 (Value.slice ad n cap).ownBlock->gq wx (Value.slice ad n cap).ownBlock B 193 3 (n+1) (xs++[.int .i64 (cw:Int),.int .i64 W,.int .i64 H]) v w7->ZZ (.returned true) (w7.setCell (zq l 1) v))):
  CP 191 #[zp l,(cw:Int),body] w ZZ:=by
 have HS1:=ai (fun wx=>dW wx W);have HS2:=ai (fun wx=>dW wx H);go_enter func191,ntmps191
 go_wp2_with fail
 refine (HV3.out _ (af.refl _)).mono ?_;rintro e w1 ⟨rfl,hb1⟩;go_wp2_with fail
 refine (HLw.out _ hb1).mono ?_;rintro e w2 ⟨rfl,hb2⟩;replace hb2:=af.trans hb1 hb2;go_wp2_with fail
 refine (HV4.out _ hb2).mono ?_;rintro e w3 ⟨rfl,hb3⟩;replace hb3:=af.trans hb2 hb3;go_wp2_with fail
 refine (HLh.out _ hb3).mono ?_;rintro e w4 ⟨rfl,hb4⟩;replace hb4:=af.trans hb3 hb4;replace c1:w4.cell? (zq l 1)=some (.slice ad n cap):=(Zg hb4 (p:=zq l 1) hl).trans c1;clear HV3 HV4 HLw HLh hb1 hb2 hb3;replace f1:w4.frozen? (zq l 1)=false:=(Below.frozen hb4 (p:=zq l 1) hl).trans f1;replace ow:w4.ownsRow B 193 3 (.slice ad n cap) n xs:=oY ow hb4;replace hB:B<=w4.heap.size:=ZU hB hb4.size;replace hl:l < w4.heap.size:=ZK hl hb4.size;rw [hW] at HS1;rw [hH] at HS2;have dn:((n:Int)==80)=false:=by simp;omega
 go_wp2_with fail
 refine (HS1.out _).mono ?_;rintro e w5 ⟨rfl,rfl⟩;go_wp2_with fail
 refine (HS2.out _).mono ?_;rintro e w6 ⟨rfl,rfl⟩;clear HS1 HS2;go_wp2_with (at_builtin;refine bQ rfl (.tmp 43) (.tmp 48) 146 rfl 193 (.agg #[oz,oz,oz]) 3 24 Tryz.infoSh rfl (by omega) underlying146 B _ n xs rfl (ow.alloc _) (by simp;omega) ⟨w6,0,none⟩ 1 rfl [.int .i64 (cw:Int),.int .i64 W,.int .i64 H] rfl (xp w6 _ _) (by intro u hu;simp at hu;rcases hu with rfl | rfl | rfl <;> rfl) (by omega) (by omega) ?_)
 intro v7 w7 hO7 hg7 hat7;obtain ⟨hg8,ha8⟩:=th hO7 hg7 hat7;have HX:=ai (HZ.out _ w6 w7 hb4 hg8 ha8);obtain ⟨ad7,cap7,hv7⟩:=ha8.form;subst hv7;have kb:=hg8.block l hl (fun e=>ne e.symm);have k1:=(ZR (a:=zq l 1) kb).trans c1;have kf1:=(ZH (a:=zq l 1) kb).trans f1;clear kb c1 f1 ow hO7 hg7 hat7 HZ ha8 hg8;go_wp2
 first
  | exact HX.out
  | (go_ret;exact HX.out)
theorem sA (w:World) (B l cw:Nat) (x:gH) (S:Bl) (body:ByteArray) (W H:Int) (hp:wJ body W H) (hsz:body.size<=2000000000) (hW:bG W 1 14400000) (hH:bG H 1 14400000) (hcl:x.sh.length < 80) (hnum:cw<=100000) (hB:B<=w.heap.size) (ht:bU B w) (hm:ft B w) (h:cv B l x w S):
  CP 191 #[zp l,(cw:Int),body] w fun e w'=>e=.returned true/\∃ S',cv B l {x with sh:=x.sh++[(cw,W,H)]} w' S'/\Mv S w S' w':=by
 obtain ⟨aa,ks,ac,kc,am,km,h⟩:=h.open;obtain ⟨c1,ow,ne,f1,hl,_⟩:=j6 (i:=1) (ah.thing (aW.thing _ _ _ _ _ _) (aW.thing _ _ _ _ _ _)) rfl h;have hb:∀ wx,af w wx->B<=wx.heap.size/\bU B wx/\ft B wx:=fun wx hg=>⟨ZU hB hg.size,ht.on (Zb hg hB),hm.on (Zb hg hB)⟩
 have hV:=fun (k:Nat) (hk:k<=100) wx=>dP body kM k wx hsz hk hp.pl
 refine q7 w B l x.sh.length ks cw aa (Do x.sh) body ⟨(bJ W).toArray⟩ ⟨(bJ H).toArray⟩ W H _ hcl hnum (Zq hW) (Zq hH) hl hB c1 f1 ow ne ?_ ?_ ?_ ?_ ?_
 ·intro wx _;have:=hV 3 (by omega) wx;rw [hp.w] at this;exact this
 ·intro wx _;have:=hV 4 (by omega) wx;rw [hp.h] at this;exact this
 ·intro wx hg;obtain ⟨a,b,c⟩:=hb wx hg;exact iD wx B _ W (by have:=hW.1;omega) (by have:=hW.2;omega) (by simp) a b c
 ·intro wx hg;obtain ⟨a,b,c⟩:=hb wx hg;exact iD wx B _ H (by have:=hH.1;omega) (by have:=hH.2;omega) (by simp) a b c
 ·intro v wx w7 hg hgb ha;have hx:=(ah.thing (aS.thing _ _ _) (gG.thing B x _ _ _)).grow h hg;obtain ⟨_,_,_,_,_,hgr⟩:=j6 (i:=1) (ah.thing (aW.thing _ _ _ _ _ _) (aW.thing _ _ _ _ _ _)) rfl hx;obtain ⟨S',h',m'⟩:=hgr _ _ v w7 hgb ha;refine ⟨rfl,S',⟨(v,.slice ac x.cs.length kc,.slice am x.ms.length km),?_⟩,(Mv.grow hg S).trans m'⟩;unfold gG;dsimp only;rw [Dp,ZY];exact h'
theorem rI (a b:Nat) (h:Lib.decDigits a=Lib.decDigits b):a=b:=by
 have:=congrArg fS h;rw [show fS (Lib.decDigits a)=a from mF a,show fS (Lib.decDigits b)=b from mF b] at this;exact this
theorem CI (a n:Nat):(Lib.itoa (a:Int)==Lib.itoa (n:Int))=decide (a=n):=by
 by_cases h:a=n
 ·subst h;simp
 ·rw [Zj h];apply Bool.eq_false_iff.2;intro e;have:=beq_iff_eq.1 e;rw [eP,eP] at this;exact h (rI a n this)
theorem AY (w:World) (B b:Nat) (a n:Nat) (W H:Int) (ha:a<=1000000) (hB:B<=w.heap.size) (c0:w.cell? b=some (.string ⟨(Lib.itoa (n:Int)).toArray⟩)) (hb:b < w.heap.size) (ht:bU B w):
  QB 263 #[.agg #[.int .i64 (a:Int),W,H],zp b] w (.bool (decide (a=n))):=by
 have HE:=ai (CI a n);go_enter func263,ntmps263
 go_wp2_with fail
 have hb0:Below w w (w.alloc (Obj.cells #[Value.int IntKind.i64 ↑a,Value.int IntKind.i64 W,Value.int IntKind.i64 H] 193)):=(ZQ _ w).alloc (ZV _) _;have z0:(w.alloc (Obj.cells #[Value.int IntKind.i64 ↑a,Value.int IntKind.i64 W,Value.int IntKind.i64 H] 193)).cell? w=(a:Int):=(aS.alloc (B:=0) (vs:=[.int .i64 (a:Int),.int .i64 W,.int .i64 H]) (YI _)).at 0 _ rfl;have hz0:w.heap.size < (w.alloc (Obj.cells #[Value.int IntKind.i64 ↑a,Value.int IntKind.i64 W,Value.int IntKind.i64 H] 193)).heap.size:=by simp
 obtain ⟨w0,hw0⟩:∃ w0,w.alloc (Obj.cells #[Value.int IntKind.i64 ↑a,Value.int IntKind.i64 W,Value.int IntKind.i64 H] 193)=w0:=⟨_,rfl⟩;rw [hw0] at z0 hz0 hb0 ⊢;clear hw0;replace c0:w0.cell? b=some (.string ⟨(Lib.itoa (n:Int)).toArray⟩):=(hb0.cell (p:=b) hb).trans c0;have hbz:b < w0.heap.size:=by omega
 have HI:=ai (fun w1 (hG:af w0 w1)=>bp B w1 (a:Int) (by omega) (by omega) (ht.on ((Zb hb0 hB).trans (Zb hG (ZU hB hb0.size)))));refine ap 5 _ (ag [zp w.heap.size,(a:Int),.string ⟨(Lib.itoa (a:Int)).toArray⟩,.string ⟨(Lib.itoa (n:Int)).toArray⟩,.bool (decide (a=n))]) (by kernel_rfl) rfl (by kernel_rfl) aq ?_;simp only [TD];refine ⟨fun w1 hG hd=>?_,fun v0=>?_⟩
 ·clear hd;go_wp2;exact RG
 simp only [TN];refine ⟨fun w1 hG hd=>?_,fun v1=>?_⟩
 ·have d0:v0=.pointer (some ⟨w,0,none⟩):=hd ⟨0,.data⟩ (by simp) rfl;clear hd;subst d0;have cc:=(Zg hG (p:=w) hz0).trans z0;go_wp2;exact RG
 simp only [TN];refine ⟨fun w1 hG hd=>?_,fun v2=>?_⟩
 ·have d1:v1=.int .i64 (a:Int):=hd ⟨1,.data⟩ (by simp) rfl;clear hd;subst d1;have HX:=ai (HI.out w1 hG);go_wp2_with fail
  refine HX.out.mono ?_;rintro e w2 ⟨rfl,hB2⟩;go_wp2;exact ⟨rfl,hB2⟩
 simp only [TN];refine ⟨fun w1 hG hd=>?_,fun v3=>?_⟩
 ·clear hd;have cc:=(Zg hG (p:=b) hbz).trans c0;go_wp2;exact RG
 simp only [TN];refine ⟨fun w1 hG hd=>?_,fun v4=>?_⟩
 ·have d2:v2=.string ⟨(Lib.itoa (a:Int)).toArray⟩:=hd ⟨2,.data⟩ (by simp) rfl;have d3:v3=.string ⟨(Lib.itoa (n:Int)).toArray⟩:=hd ⟨3,.data⟩ (by simp) rfl;clear hd;subst d2 d3;go_wp2;exact ⟨congrArg Value.bool HE.out,af.refl _⟩
 simp only [TN];intro w1 hG hd;have d4:v4=.bool (decide (a=n)):=hd 4 (by omega);subst d4;clear hd HI HE c0 z0;go_wp2;go_ret;exact ⟨rfl,hb0.trans (Zb hG hb0.size)⟩
theorem rZ (w:World) (b g m cap n p:Nat) (sh:List (Nat×Int×Int)) (hm:sh.length=m) (hm2:m<=1000) (hcap:m<=cap) (hcap2:cap<=9223372036854775807) (hp:p < m) (hg:g < w.heap.size) (hc:∀ i x,(Do sh)[i]? =some x->w.cell? (zq g i)=some x)
  (HN:Hid (∀ i z,sh[i]? =some z->i<=p->∀ wx,af w wx->QB 263 #[.agg #[.int .i64 (z.1:Int),.int .i64 z.2.1,.int .i64 z.2.2],zp b] wx (.bool (decide (i=p))))):
  QB 262 #[.slice g m cap,.func (.func 263) #[] #[zp b]] w (p:Int):=by
 have HR:Hid (∀ i wx,i < m->af w wx->wx.cell? (zq g (i*3))=some (.int .i64 ((sh.getD i (0,0,0)).1:Int))/\wx.cell? (zq g (i*3+1))=some (.int .i64 (sh.getD i (0,0,0)).2.1)/\wx.cell? (zq g (i*3+2))=some (.int .i64 (sh.getD i (0,0,0)).2.2)):=by
  intro i wx hi hG;have he:sh[i]? =some (sh.getD i (0,0,0)):=by rw [ZJ,ZN (by omega)];rfl
  obtain ⟨a1,a2,a3⟩:=t_ sh i _ he;exact ⟨(Zg hG (p:=zq g (i*3)) hg).trans (hc _ _ a1),(Zg hG (p:=zq g (i*3+1)) hg).trans (hc _ _ a2),(Zg hG (p:=zq g (i*3+2)) hg).trans (hc _ _ a3)⟩
 have HN2:Hid (∀ i,i<=p->∀ wx,af w wx->QB 263 #[.agg #[.int .i64 ((sh.getD i (0,0,0)).1:Int),.int .i64 (sh.getD i (0,0,0)).2.1,.int .i64 (sh.getD i (0,0,0)).2.2],zp b] wx (.bool (decide (i=p)))):=by
  intro i hi wx hG;refine HN.out i _ ?_ hi wx hG;rw [ZJ,ZN (by omega)];rfl
 obtain ⟨f,hf⟩:∃ f:Nat->Nat×Int×Int,(fun i=>sh.getD i (0,0,0))=f:=⟨_,rfl⟩;have hf':∀ i,sh.getD i (0,0,0)=f i:=fun i=>congrFun hf i
 simp only [hf'] at HR HN2;clear HN hc hm hf hf';go_enter func262,ntmps262
 go_wp2;go_loopg [8] (p+2) (fun k x wr=>∃ i:Nat,i<=p/\p - i < k/\x=.int .i64 (i:Int)/\af w wr)
 case atStart=>exact ⟨0,by omega,by omega,rfl,af.refl _⟩
 case round=>
  obtain ⟨i,hi,hk,rfl,hG⟩:=hrel;obtain ⟨r0,r1,r2⟩:=HR.out i wr (by omega) hG;have HC:=ai (HN2.out i hi wr hG);have d1:decide ((i:Int) < (m:Int))=true:=by simp;omega
  generalize f i=z at r0 r1 r2 HC;obtain ⟨z1,z2,z3⟩:=z;dsimp only at r0 r1 r2 HC;by_cases hip:i=p
  ·rw [Zq hip] at HC;have HIP:=ai hip;clear hip;go_wp2_with fail
   refine HC.out.mono ?_;rintro e w1 ⟨rfl,hb1⟩;clear HC r0 r1 r2;go_wp2;go_ret;exact ⟨by rw [<-HIP.out];rfl,af.trans hG hb1⟩
  ·rw [Zj hip] at HC;go_wp2_with fail
   refine HC.out.mono ?_;rintro e w1 ⟨rfl,hb1⟩;clear HC r0 r1 r2;go_wp2;go_roundg (gk - 1)
   case measure=>omega
   case rel=>exact ⟨i+1,by omega,by omega,by congr 1,af.trans hG hb1⟩
theorem qJ (w:World) (l:Nat) (s:ByteArray) (vs:Value) (p:Nat) (c1:w.cell? (zq l 1)=some vs) (hl:l < w.heap.size)
  (HI:Hid (∀ wx,af w wx->wx.cell? w=some (.string s)->QB 262 #[vs,.func (.func 263) #[] #[zp w.heap.size]] wx (p:Int))):
  QB 226 #[zp l,s] w (p:Int):=by
 have hmf:∀ (fn:Fn) (first cap:Array Value) (w:World),(Instr.makeFunc fn first cap).run prog w=.ok (.func fn first cap) w:=fun _ _ _ _=>rfl
 go_enter func226,ntmps226
 go_wp2_with fail
 refine (HI.out _ ((ZQ _ w).alloc (ZV _) _) ((aS.alloc (B:=0) (vs:=[.string s]) (YI _)).at 0 _ rfl)).mono ?_;rintro e w1 ⟨rfl,hb1⟩;have hb:Below w w w1:=(af.trans ((ZQ _ w).alloc (ZV _) _) hb1);clear HI;go_wp2;go_ret;exact ⟨rfl,hb⟩
theorem sm (w:World) (B l n p:Nat) (x:gH) (S:Bl) (hp:p < x.sh.length) (hx:x.sh.length<=80) (hn:∀ z∈x.sh,z.1<=1000000) (hu:∀ (i:Nat) z,x.sh[i]? =some z->(z.1=n↔i=p)) (hB:B<=w.heap.size) (ht:bU B w) (h:cv B l x w S):
  QB 226 #[zp l,.string ⟨(Lib.itoa (n:Int)).toArray⟩] w (p:Int):=by
 obtain ⟨aa,ks,ac,kc,am,km,h⟩:=h.open;obtain ⟨S1,S2,hc,⟨S3,S4,hr,_⟩,_⟩:=h;obtain ⟨ad,cap,he,hcap,hcap2,hcell⟩:=aW.lies (B:=B) (e:=193) (z:=3) hr
 cases he
 obtain ⟨g,rfl,hg,hcells⟩:=hcell (by omega);have hl:l < w.heap.size:=hc.2.2.1;refine qJ w l _ _ p (hc.at 1 _ rfl) hl ?_;intro wx hG hs;refine rZ wx w.heap.size g x.sh.length ks n p x.sh rfl (by omega) hcap hcap2 hp (ZK hg hG.size) (fun i v hv=>(Zg hG (p:=zq g i) hg).trans (hcells i v hv)) ?_;intro i z hz hi wy hGy;have hbw:=af.trans hG hGy;have hwx:w.heap.size < wx.heap.size:=ZD wx _ hs;have:=AY wy B w.heap.size z.1 n z.2.1 z.2.2 (hn z (YJ hz)) (ZU hB hbw.size) ((Zg hGy (p:=w) hwx).trans hs) (ZK hwx hGy.size) (ht.on (Zb hbw hB));rw [show decide (z.1=n)=decide (i=p) by simp only [hu i z hz]] at this;exact this
end Go.Proofs.YtbklfkpjoinofaaGreatDoor
