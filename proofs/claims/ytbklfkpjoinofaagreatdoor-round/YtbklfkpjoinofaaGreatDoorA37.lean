import Derived.Test.YtbklfkpjoinofaaGreatDoorA36
import Derived.Test.YtbklfkpjoinofaaGreatDoorA33
import Derived.Deep.Slices
import Derived.ProofKit
set_option linter.all false
set_option maxRecDepth 100000
set_option maxHeartbeats 8000000
namespace Go.Proofs.YtbklfkpjoinofaaGreatDoor
open Go.RowKit Go.Proofs.Tryz
theorem q8 (w:World) (l:Nat) (body vt t:ByteArray) (t0:Value) (ht1:decide (t.size<=100)=true) (htz:t.size<=1000) (hl:l < w.heap.size) (c0:w.cell? l=some t0) (f0:w.frozen? l=false)
  (HV:Hid (QB 189 #[body,.string ⟨#[47,84,105,116,108,101]⟩,oz] w vt))
  (HS:Hid (∀ wx,af w wx->QB 225 #[vt] wx (.tuple #[t,true]))):
  CP 193 #[zp l,body] w fun e w'=>e=.returned true/\∃ wx,af w wx/\w'=wx.setCell l t:=by
 have HT:=ai (fun wx=>jc wx t (by omega));rw [ht1] at HT;go_enter func193,ntmps193
 go_wp2_with fail
 refine HV.out.mono ?_;rintro e w1 ⟨rfl,hb1⟩;go_wp2_with fail
 refine (HS.out _ hb1).mono ?_;rintro e w2 ⟨rfl,hb2⟩;replace hb2:=af.trans hb1 hb2;replace c0:w2.cell? l=some t0:=(Zg hb2 (p:=l) hl).trans c0;replace f0:w2.frozen? l=false:=(Below.frozen hb2 (p:=l) hl).trans f0;clear HV HS hb1;go_wp2_with fail
 refine (HT.out _).mono ?_;rintro e w3 ⟨rfl,rfl⟩;clear HT c0 f0;go_wp2;go_ret;exact ⟨rfl,w2,hb2,rfl⟩
theorem sB (w:World) (B l:Nat) (x:gH) (S:Bl) (body:ByteArray) (t:List UInt8) (hp:pJ body t) (hsz:body.size<=2000000000) (ht:t.length<=100) (hB:B<=w.heap.size) (hm:ft B w) (h:cv B l x w S):
  CP 193 #[zp l,body] w fun e w'=>e=.returned true/\∃ S',cv B l {x with ti:=⟨t.toArray⟩} w' S'/\Mv S w S' w':=by
 obtain ⟨aa,ks,ac,kc,am,km,h⟩:=h.open;obtain ⟨S1,hc,_,_⟩:=ah.fst (gG.thing B x _ _ _) h;refine (q8 w l body ⟨(bc t).toArray⟩ ⟨t.toArray⟩ _ (by simp [ae];exact ht) (by rw [ae];omega) hc.2.2.1 (hc.at 0 _ rfl) (hc.fz 0) ?_ ?_).mono ?_
 ·have:=dP body kI 0 w hsz (by omega) hp.pl;rw [hp.i] at this;exact this
 ·intro wx hg;exact i8 wx _ t ht (by simp) (by have:=hg.size;have:=hm.1;omega)
 ·rintro e w' ⟨rfl,wx,hg,rfl⟩;have hx:=(ah.thing (aS.thing _ _ _) (gG.thing B x _ _ _)).grow h hg;obtain ⟨S2,hc2,_,back⟩:=ah.fst (gG.thing B x _ _ _) hx;obtain ⟨k3,m3⟩:=hc2.set 0 (.string ⟨t.toArray⟩) (by simp);obtain ⟨S4,h4,m4⟩:=back _ _ _ k3 m3;exact ⟨rfl,S4,⟨(.slice aa x.sh.length ks,.slice ac x.cs.length kc,.slice am x.ms.length km),h4⟩,(Mv.grow hg S).trans m4⟩
theorem sv (w:World) (B l n cap p:Nat) (ad:Option Addr) (xs:List Value) (body vt vd t:ByteArray) (lp:Int) (ZZ:Ending->World->Prop) (hn:n < 20) (ht1:decide (0 < t.size/\t.size<=100)=true) (htz:t.size<=1000) (hlp:decide ((p:Int) < lp)=false) (hp:p<=1000) (hl:l < w.heap.size) (hB:B<=w.heap.size) (c3:w.cell? (zq l 3)=some (.slice ad n cap)) (f3:w.frozen? (zq l 3)=false) (ow:w.ownsRow B 98 2 (.slice ad n cap) n xs) (ne:(Value.slice ad n cap).ownBlock≠some l)
  (HV:Hid (QB 189 #[body,.string ⟨#[47,84,105,116,108,101]⟩,oz] w vt))
  (HS:Hid (∀ wx,af w wx->QB 225 #[vt] wx (.tuple #[t,true])))
  (HD:Hid (∀ wx,af w wx->QB 189 #[body,.string ⟨#[47,68,101,115,116]⟩,(1:Int)] wx vd))
  (HP:Hid (∀ wx,af w wx->QB 226 #[zp l,vd] wx (p:Int)))
  (HL:Hid (∀ wx,af w wx->QD 227 #[zp l] wx lp))
  (HZ:Hid (∀ v wx w7,af w wx->wx.grownBy w7 (Value.slice ad n cap).ownBlock->gq wx (Value.slice ad n cap).ownBlock B 98 2 (n+1) (xs++[.string t,.int .i64 (p:Int)]) v w7->ZZ (.returned true) (w7.setCell (zq l 3) v))):
  CP 192 #[zp l,body] w ZZ:=by
 have HT:=ai (fun wx=>jB wx t (by omega));rw [ht1] at HT;go_enter func192,ntmps192
 go_wp2_with fail
 refine HV.out.mono ?_;rintro e w1 ⟨rfl,hb1⟩;go_wp2_with fail
 refine (HS.out _ hb1).mono ?_;rintro e w2 ⟨rfl,hb2⟩;replace hb2:=af.trans hb1 hb2;go_wp2_with fail
 refine (HD.out _ hb2).mono ?_;rintro e w3 ⟨rfl,hb3⟩;replace hb3:=af.trans hb2 hb3;go_wp2_with fail
 refine (HP.out _ hb3).mono ?_;rintro e w4 ⟨rfl,hb4⟩;replace hb4:=af.trans hb3 hb4;clear HV HS HD HP hb1 hb2 hb3;replace c3:w4.cell? (zq l 3)=some (.slice ad n cap):=(Zg hb4 (p:=zq l 3) hl).trans c3;replace f3:w4.frozen? (zq l 3)=false:=(Below.frozen hb4 (p:=zq l 3) hl).trans f3;replace ow:w4.ownsRow B 98 2 (.slice ad n cap) n xs:=oY ow hb4;replace hB:B<=w4.heap.size:=ZU hB hb4.size;replace hl:l < w4.heap.size:=ZK hl hb4.size;have dn:((n:Int)==20)=false:=by simp;omega
 go_wp2_with fail
 refine (HT.out _).mono ?_;rintro e w5 ⟨rfl,rfl⟩;go_wp2_with fail
 refine (HL.out _ hb4).mono ?_;rintro e w6 ⟨rfl,qq,rfl⟩;clear HT HL;replace c3:(w5.drewN qq).cell? (zq l 3)=some (.slice ad n cap):=c3;replace f3:(w5.drewN qq).frozen? (zq l 3)=false:=f3;replace ow:(w5.drewN qq).ownsRow B 98 2 (.slice ad n cap) n xs:=ow;replace hB:B<=(w5.drewN qq).heap.size:=hB;replace hl:l < (w5.drewN qq).heap.size:=hl;replace hb4:af w (w5.drewN qq):=⟨hb4.os,hb4.tape,hb4.output,hb4.size,hb4.block⟩;generalize w5.drewN qq=w6 at c3 f3 ow hB hl hb4 ⊢;go_wp2_with (at_builtin;refine bQ rfl (.tmp 39) (.tmp 43) 27 rfl 98 (.agg #[.string ⟨#[]⟩,oz]) 2 24 Tryz.infoMk3 rfl (by omega) underlying27 B _ n xs rfl (ow.alloc _) (by simp;omega) ⟨w6,0,none⟩ 1 rfl [.string t,.int .i64 (p:Int)] rfl (xp w6 _ _) (by intro u hu;simp at hu;rcases hu with rfl | rfl <;> rfl) (by omega) (by omega) ?_)
 intro v7 w7 hO7 hg7 hat7;obtain ⟨hg8,ha8⟩:=th hO7 hg7 hat7;have HX:=ai (HZ.out _ w6 w7 hb4 hg8 ha8);obtain ⟨ad7,cap7,hv7⟩:=ha8.form;subst hv7;have kb:=hg8.block l hl (fun e=>ne e.symm);have k1:=(ZR (a:=zq l 3) kb).trans c3;have kf1:=(ZH (a:=zq l 3) kb).trans f3;clear kb c3 f3 ow hO7 hg7 hat7 HZ ha8 hg8;go_wp2
 first
  | exact HX.out
  | (go_ret;exact HX.out)
def iC (ms:List (ByteArray×Nat)):Nat:=match ms.getLast? with | some m=>m.2 | none=>0
theorem sf (w:World) (B l:Nat) (x:gH) (S:Bl) (hx:x.ms.length<=20) (h:cv B l x w S):
  QD 227 #[zp l] w (iC x.ms:Int):=by
 obtain ⟨aa,ks,ac,kc,am,km,h⟩:=h.open;obtain ⟨S1,S2,hc,⟨S3,S4,_,⟨S5,S6,_,hr,_⟩,_⟩,_⟩:=h;have c3:=hc.at 3 _ rfl;obtain ⟨ad,cap,he,hcap,hcap2,hcell⟩:=aW.lies (B:=B) (e:=98) (z:=2) hr
 cases he
 rcases List.eq_nil_or_concat x.ms with h0 | ⟨r,m,hrm⟩
 ·rw [h0] at c3;have:iC x.ms=0:=by rw [h0];rfl
  rw [this];exact qw w l km am c3
 ·have hlen:x.ms.length=r.length+1:=by rw [hrm];simp
  obtain ⟨g,rfl,hg,hcells⟩:=hcell (by omega);rw [hlen] at c3 hcap;have hl:iC x.ms=m.2:=by rw [hrm];simp [iC]
  rw [hl];have hx2:x.ms[r.length]? =some m:=by rw [hrm];simp
  exact qx w l g r.length km (by omega) hcap (m.2:Int) c3 (hcells _ _ (s_ x.ms r.length m hx2).2)
theorem uh (w:World) (B l n p:Nat) (x:gH) (S:Bl) (body:ByteArray) (t:List UInt8) (hp:tc body t n) (hsz:body.size<=2000000000) (ht1:0 < t.length/\t.length<=100) (hpx:p < x.sh.length) (hx:x.sh.length<=80) (hn:∀ z∈x.sh,z.1<=1000000) (hu:∀ (i:Nat) z,x.sh[i]? =some z->(z.1=n↔i=p)) (hms:x.ms.length < 20) (hle:iC x.ms<=p) (hB:B<=w.heap.size) (ht:bU B w) (hm:ft B w) (h:cv B l x w S):
  CP 192 #[zp l,body] w fun e w'=>e=.returned true/\∃ S',cv B l {x with ms:=x.ms++[(⟨t.toArray⟩,p)]} w' S'/\Mv S w S' w':=by
 have hL:=h;obtain ⟨aa,ks,ac,kc,am,km,h⟩:=h.open;have rot:∀ {A P Q R:As} {w:World} {S:Bl},ah A (ah P (ah Q R)) w S->ah A (ah R (ah P Q)) w S:=fun h=>ah.mapR h fun _ _ k=>ah.swap (ah.assocR k)
 obtain ⟨c3,ow,ne,f3,hl,_⟩:=j6 (i:=3) (ah.thing (aW.thing _ _ _ _ _ _) (aW.thing _ _ _ _ _ _)) rfl (rot h);have hb:∀ wx,af w wx->B<=wx.heap.size/\bU B wx/\ft B wx:=fun wx hg=>⟨ZU hB hg.size,ht.on (Zb hg hB),hm.on (Zb hg hB)⟩
 refine sv w B l x.ms.length km p am (iz x.ms) body ⟨(bc t).toArray⟩ ⟨(Lib.itoa (n:Int)).toArray⟩ ⟨t.toArray⟩ (iC x.ms:Int) _ hms (by simp only [ae];exact Zq ht1) (by rw [ae];omega) (by simp;omega) (by omega) hl hB c3 f3 ow ne ?_ ?_ ?_ ?_ ?_ ?_
 ·have:=dP body kI 0 w hsz (by omega) hp.pl;rw [hp.i] at this;exact this
 ·intro wx hg;exact i8 wx _ t ht1.2 (by simp) (by have:=hg.size;have:=hm.1;omega)
 ·intro wx hg;have:=dP body kD 1 wx hsz (by omega) hp.pl;rw [hp.d1] at this;exact this
 ·intro wx hg;obtain ⟨a,b,c⟩:=hb wx hg;exact sm wx B l n p x S hpx hx hn hu a b ((cv.thing B l x).grow hL hg)
 ·intro wx hg;exact sf wx B l x S (by omega) ((cv.thing B l x).grow hL hg)
 ·intro v wx w7 hg hgb ha;have hx:=(ah.thing (aS.thing _ _ _) (gG.thing B x _ _ _)).grow h hg;obtain ⟨_,_,_,_,_,hgr⟩:=j6 (i:=3) (ah.thing (aW.thing _ _ _ _ _ _) (aW.thing _ _ _ _ _ _)) rfl (rot hx);obtain ⟨S',h',m'⟩:=hgr _ _ v w7 hgb ha;refine ⟨rfl,S',⟨(.slice aa x.sh.length ks,.slice ac x.cs.length kc,v),?_⟩,(Mv.grow hg S).trans m'⟩;have h9:=ah.mapR h' fun _ _ k=>ah.assoc (ah.swap k)
  unfold gG;dsimp only;have e:iz (x.ms++[(⟨t.toArray⟩,p)])=iz x.ms++[.string ⟨t.toArray⟩,.int .i64 (p:Int)]:=nf _ _;rw [e,ZY];exact h9
theorem BX (w:World) (l cw:Nat) (body:ByteArray) (vf vt vd vi:ByteArray) (h1:vf.toList.isEmpty=true) (h2:(vt.toList==[47,80,97,103,101])=false) (h3:vd.toList.isEmpty=true) (h4:vi.toList.isEmpty=true)
  (HF:Hid (∀ wx,QB 189 #[body,.string ⟨#[47,70,105,108,116,101,114]⟩,oz] wx vf))
  (HT:Hid (∀ wx,QB 189 #[body,.string ⟨#[47,84,121,112,101]⟩,oz] wx vt))
  (HD:Hid (∀ wx,QB 189 #[body,.string ⟨#[47,68,101,115,116]⟩,oz] wx vd))
  (HI:Hid (∀ wx,QB 189 #[body,.string ⟨#[47,84,105,116,108,101]⟩,oz] wx vi)):
  QB 143 #[zp l,(cw:Int),body] w true:=by
 go_enter func143,ntmps143
 go_wp2_with fail
 refine (HF.out _).mono ?_;rintro e w1 ⟨rfl,hb1⟩;go_wp2_with fail
 refine (HT.out _).mono ?_;rintro e w2 ⟨rfl,hb2⟩;replace hb2:=af.trans hb1 hb2;go_wp2_with fail
 refine (HD.out _).mono ?_;rintro e w3 ⟨rfl,hb3⟩;replace hb3:=af.trans hb2 hb3;go_wp2_with fail
 refine (HI.out _).mono ?_;rintro e w4 ⟨rfl,hb4⟩;replace hb4:=af.trans hb3 hb4;clear HF HT HD HI;go_wp2;go_ret;exact ⟨rfl,hb4⟩
theorem ui (w:World) (l cw:Nat) (body:ByteArray) (vf:ByteArray) (Z:Ending->World->Prop) (h1:vf.toList.isEmpty=false)
  (HF:Hid (∀ wx,QB 189 #[body,.string ⟨#[47,70,105,108,116,101,114]⟩,oz] wx vf))
  (HC:Hid (∀ wx,af w wx->CP 190 #[zp l,body] wx fun e w'=>(∃ v,e=.returned v)/\Z (.returned true) w')):
  CP 143 #[zp l,(cw:Int),body] w Z:=by
 go_enter func143,ntmps143
 go_wp2_with fail
 refine (HF.out _).mono ?_;rintro e w1 ⟨rfl,hb1⟩;go_wp2_with fail
 refine (HC.out _ hb1).mono ?_;rintro e w2 ⟨⟨v,rfl⟩,hZ⟩;clear HF HC;go_wp2
 first
  | exact hZ
  | (go_ret;exact hZ)
theorem BY (w:World) (l cw:Nat) (body:ByteArray) (vf vt:ByteArray) (Z:Ending->World->Prop) (h1:vf.toList.isEmpty=true) (h2:(vt.toList==[47,80,97,103,101])=true)
  (HF:Hid (∀ wx,QB 189 #[body,.string ⟨#[47,70,105,108,116,101,114]⟩,oz] wx vf))
  (HT:Hid (∀ wx,QB 189 #[body,.string ⟨#[47,84,121,112,101]⟩,oz] wx vt))
  (HC:Hid (∀ wx,af w wx->CP 191 #[zp l,(cw:Int),body] wx fun e w'=>∃ v,e=.returned v/\Z (.returned v) w')):
  CP 143 #[zp l,(cw:Int),body] w Z:=by
 go_enter func143,ntmps143
 go_wp2_with fail
 refine (HF.out _).mono ?_;rintro e w1 ⟨rfl,hb1⟩;go_wp2_with fail
 refine (HT.out _).mono ?_;rintro e w2 ⟨rfl,hb2⟩;replace hb2:=af.trans hb1 hb2;go_wp2_with fail
 refine (HC.out _ hb2).mono ?_;rintro e w9 ⟨v,rfl,hZ⟩;clear HF HC;go_wp2
 first
  | exact hZ
  | (go_ret;exact hZ)
theorem BV (w:World) (l cw:Nat) (body:ByteArray) (vf vt vd:ByteArray) (Z:Ending->World->Prop) (h1:vf.toList.isEmpty=true) (h2:(vt.toList==[47,80,97,103,101])=false) (h3:vd.toList.isEmpty=false)
  (HF:Hid (∀ wx,QB 189 #[body,.string ⟨#[47,70,105,108,116,101,114]⟩,oz] wx vf))
  (HT:Hid (∀ wx,QB 189 #[body,.string ⟨#[47,84,121,112,101]⟩,oz] wx vt))
  (HD:Hid (∀ wx,QB 189 #[body,.string ⟨#[47,68,101,115,116]⟩,oz] wx vd))
  (HC:Hid (∀ wx,af w wx->CP 192 #[zp l,body] wx fun e w'=>∃ v,e=.returned v/\Z (.returned v) w')):
  CP 143 #[zp l,(cw:Int),body] w Z:=by
 go_enter func143,ntmps143
 go_wp2_with fail
 refine (HF.out _).mono ?_;rintro e w1 ⟨rfl,hb1⟩;go_wp2_with fail
 refine (HT.out _).mono ?_;rintro e w2 ⟨rfl,hb2⟩;replace hb2:=af.trans hb1 hb2;go_wp2_with fail
 refine (HD.out _).mono ?_;rintro e w3 ⟨rfl,hb3⟩;replace hb3:=af.trans hb2 hb3;go_wp2_with fail
 refine (HC.out _ hb3).mono ?_;rintro e w9 ⟨v,rfl,hZ⟩;clear HF HC;go_wp2
 first
  | exact hZ
  | (go_ret;exact hZ)
theorem yX (w:World) (l cw:Nat) (body:ByteArray) (vf vt vd vi:ByteArray) (Z:Ending->World->Prop) (h1:vf.toList.isEmpty=true) (h2:(vt.toList==[47,80,97,103,101])=false) (h3:vd.toList.isEmpty=true) (h4:vi.toList.isEmpty=false)
  (HF:Hid (∀ wx,QB 189 #[body,.string ⟨#[47,70,105,108,116,101,114]⟩,oz] wx vf))
  (HT:Hid (∀ wx,QB 189 #[body,.string ⟨#[47,84,121,112,101]⟩,oz] wx vt))
  (HD:Hid (∀ wx,QB 189 #[body,.string ⟨#[47,68,101,115,116]⟩,oz] wx vd))
  (HI:Hid (∀ wx,QB 189 #[body,.string ⟨#[47,84,105,116,108,101]⟩,oz] wx vi))
  (HC:Hid (∀ wx,af w wx->CP 193 #[zp l,body] wx fun e w'=>∃ v,e=.returned v/\Z (.returned v) w')):
  CP 143 #[zp l,(cw:Int),body] w Z:=by
 go_enter func143,ntmps143
 go_wp2_with fail
 refine (HF.out _).mono ?_;rintro e w1 ⟨rfl,hb1⟩;go_wp2_with fail
 refine (HT.out _).mono ?_;rintro e w2 ⟨rfl,hb2⟩;replace hb2:=af.trans hb1 hb2;go_wp2_with fail
 refine (HD.out _).mono ?_;rintro e w3 ⟨rfl,hb3⟩;replace hb3:=af.trans hb2 hb3;go_wp2_with fail
 refine (HI.out _).mono ?_;rintro e w4 ⟨rfl,hb4⟩;replace hb4:=af.trans hb3 hb4;go_wp2_with fail
 refine (HC.out _ hb4).mono ?_;rintro e w9 ⟨v,rfl,hZ⟩;clear HF HC;go_wp2
 first
  | exact hZ
  | (go_ret;exact hZ)
inductive sE
 | no
 | con (Z:List UInt8)
 | pg (W H:Int)
 | mk (t:List UInt8) (n p:Nat)
 | ti (t:List UInt8)
def gH.eff (x:gH) (cw:Nat):sE->gH
 | .no=>x
 | .con Z=>{x with cs:=x.cs++[Z]}
 | .pg W H=>{x with sh:=x.sh++[(cw,W,H)]}
 | .mk t _ p=>{x with ms:=x.ms++[(⟨t.toArray⟩,p)]}
 | .ti t=>{x with ti:=⟨t.toArray⟩}
def Ca (b:List UInt8):sE->Prop
 | .no=>∀ s:ByteArray,s.data.toList=b->pN s
 | .con Z=>∃ n,b=n9 n Z
 | .pg W H=>(∀ s:ByteArray,s.data.toList=b->wJ s W H)/\bG W 1 14400000/\bG H 1 14400000
 | .mk t n _=>∀ s:ByteArray,s.data.toList=b->tc s t n
 | .ti t=>∀ s:ByteArray,s.data.toList=b->pJ s t
def EY (x:gH) (cw:Nat):sE->Prop
 | .no=>True
 | .con _=>x.cs.length<=1000
 | .pg _ _=>x.sh.length < 80/\cw<=100000
 | .mk t n p=>(0 < t.length/\t.length<=100)/\p < x.sh.length/\x.sh.length<=80/\(∀ z∈x.sh,z.1<=1000000)/\(∀ (i:Nat) z,x.sh[i]? =some z->(z.1=n↔i=p))/\x.ms.length < 20/\iC x.ms<=p
 | .ti t=>t.length<=100
theorem ir {s:ByteArray} (h:s=⟨#[]⟩):s.toList.isEmpty=true:=by rw [h,Zn];rfl
theorem j7 {c:UInt8} {r:List UInt8}:(⟨(c::r).toArray⟩:ByteArray).toList.isEmpty=false:=by rw [Zn];rfl
theorem EO {s:ByteArray} (h:s≠kP):(s.toList==[47,80,97,103,101])=false:=by
 apply Bool.eq_false_iff.2;intro e;apply h;have:=beq_iff_eq.1 e;rw [Zn] at this;exact Zh (Array.toList_inj.1 this)
theorem Dv (w:World) (B l cw:Nat) (x:gH) (S:Bl) (s:ByteArray) (b:List UInt8) (e:sE) (hs:s.data.toList=b) (hsz:s.size<=2000000000) (hSay:Ca b e) (hF:EY x cw e) (hB:B<=w.heap.size) (ht:bU B w) (hm:ft B w) (h:cv B l x w S):
  CP 143 #[zp l,(cw:Int),s] w fun e' w'=>e'=.returned true/\∃ S',cv B l (x.eff cw e) w' S'/\Mv S w S' w':=by
 have hg:∀ wx,af w wx->B<=wx.heap.size/\bU B wx/\ft B wx/\cv B l x wx S:=fun wx hg=>⟨ZU hB hg.size,ht.on (Zb hg hB),hm.on (Zb hg hB),(cv.thing B l x).grow h hg⟩
 cases e with
 | no=>
  have q:=hSay s hs;have V:=fun (key:ByteArray) wx=>dP s key 0 wx hsz (by omega) q.pl
  refine (BX w l cw s _ _ _ _ (ir q.f) (EO q.t) (ir q.d) (ir q.i) (V kF) (V kT) (V kD) (V kI)).mono ?_;rintro e' w' ⟨rfl,hb⟩;exact ⟨rfl,S,(cv.thing B l x).grow h hb,Mv.grow hb S⟩
 | con Z=>
  obtain ⟨n,hn⟩:=hSay;have q:=DX n Z (hs.trans hn);refine ui w l cw s _ _ ?_ (fun wx=>dP s kF 0 wx hsz (by omega) q.pl) ?_
  ·rw [q.f];exact j7 (c:=47) (r:=[70,108,97,116,101,68,101,99,111,100,101])
  ·intro wx hgx;obtain ⟨a,_,c,d⟩:=hg wx hgx;refine (pD wx B l x S s n Z (hs.trans hn) hsz hF a c d).mono ?_;rintro e' w' ⟨hv,S',k,m⟩;exact ⟨hv,rfl,S',k,(Mv.grow hgx S).trans m⟩
 | pg W H=>
  obtain ⟨hp,hW,hH⟩:=hSay;have q:=hp s hs;have V:=fun (key:ByteArray) wx=>dP s key 0 wx hsz (by omega) q.pl
  refine BY w l cw s _ _ _ (ir q.f) ?_ (V kF) (V kT) ?_
  ·rw [q.t,Zn];rfl
  ·intro wx hgx;obtain ⟨a,b',c,d⟩:=hg wx hgx;refine (sA wx B l cw x S s W H q hsz hW hH hF.1 hF.2 a b' c d).mono ?_;rintro e' w' ⟨rfl,S',k,m⟩;exact ⟨_,rfl,rfl,S',k,(Mv.grow hgx S).trans m⟩
 | mk t n p=>
  have q:=hSay s hs;have V:=fun (key:ByteArray) wx=>dP s key 0 wx hsz (by omega) q.pl
  obtain ⟨f1,f2,f3,f4,f5,f6,f7⟩:=hF;refine BV w l cw s _ _ _ _ (ir q.f) (by rw [q.ty,Zn];rfl) ?_ (V kF) (V kT) (V kD) ?_
  ·rw [q.d];exact j7 (c:=91) (r:=[])
  ·intro wx hgx;obtain ⟨a,b',c,d⟩:=hg wx hgx;refine (uh wx B l n p x S s t q hsz f1 f2 f3 f4 f5 f6 f7 a b' c d).mono ?_;rintro e' w' ⟨rfl,S',k,m⟩;exact ⟨_,rfl,rfl,S',k,(Mv.grow hgx S).trans m⟩
 | ti t=>
  have q:=hSay s hs;have V:=fun (key:ByteArray) wx=>dP s key 0 wx hsz (by omega) q.pl
  refine yX w l cw s _ _ _ _ _ (ir q.f) (by rw [q.ty,Zn];rfl) (ir q.d) ?_ (V kF) (V kT) (V kD) (V kI) ?_
  ·rw [q.i];have e:bc t=40::(bH t++[41]):=rfl;rw [e];exact j7
  ·intro wx hgx;obtain ⟨a,_,c,d⟩:=hg wx hgx;refine (sB wx B l x S s t q hsz hF a c d).mono ?_;rintro e' w' ⟨rfl,S',k,m⟩;exact ⟨_,rfl,rfl,S',k,(Mv.grow hgx S).trans m⟩
def run:gH->Nat->List sE->gH
 | x,_,[]=>x
 | x,n,e::r=>run (x.eff n e) (n+1) r
theorem ky:∀ (a b:List sE) (x:gH) (n:Nat),run x n (a++b)=run (run x n a) (n+a.length) b
 | [],b,x,n=>rfl
 | e::a,b,x,n=>by
  simp only [ZG,run,ky a b,ZX];congr 1;omega
def lM:gH->Nat->List sE->List (List UInt8)->Prop
 | _,_,[],[]=>True
 | x,n,e::es,b::bs=>Ca b e/\EY x n e/\lM (x.eff n e) (n+1) es bs
 | _,_,_,_=>False
theorem g_:∀ (e1:List sE) (b1:List (List UInt8)) (e2:List sE) (b2:List (List UInt8)) (x:gH) (n:Nat),lM x n e1 b1->lM (run x n e1) (n+e1.length) e2 b2->lM x n (e1++e2) (b1++b2)
 | [],[],e2,b2,x,n,_,h=>h
 | [],b::b1,e2,b2,x,n,h,_=>h.elim
 | e::e1,[],e2,b2,x,n,h,_=>h.elim
 | e::e1,b::b1,e2,b2,x,n,⟨h1,h2,h3⟩,h=>⟨h1,h2,g_ e1 b1 e2 b2 _ _ h3 (by simp only [run,ZX] at h;rw [show n+1+e1.length=n+(e1.length+1) by omega];exact h)⟩
theorem sQ:∀ (es:List sE) (bs:List (List UInt8)) (x:gH) (n:Nat),lM x n es bs->es.length=bs.length
 | [],[],_,_,_=>rfl
 | [],_::_,_,_,h=>h.elim
 | _::_,[],_,_,h=>h.elim
 | e::es,b::bs,x,n,h=>by simp [sQ es bs _ _ h.2.2]
theorem vT:∀ (es:List sE) (bs:List (List UInt8)) (x:gH) (n j:Nat) (hj:j < bs.length) (hj':j < es.length),lM x n es bs->Ca bs[j] es[j]/\EY (run x n (es.take j)) (n+j) es[j]
 | [],[],_,_,j,hj,_,_=>absurd hj (by simp)
 | [],_::_,_,_,_,_,_,h=>h.elim
 | _::_,[],_,_,_,_,_,h=>h.elim
 | e::es,b::bs,x,n,0,_,_,h=>⟨h.1,h.2.1⟩
 | e::es,b::bs,x,n,j+1,hj,hj',h=>by
  have:=vT es bs (x.eff n e) (n+1) j (by simpa using hj) (by simpa using hj') h.2.2;simp only [List.getElem_cons_succ,List.take_succ_cons,run];rw [show n+(j+1)=n+1+j by omega];exact this
theorem Dn (es:List sE) (x:gH) (n j:Nat) (hj:j < es.length):run x n (es.take (j+1))=(run x n (es.take j)).eff (n+j) es[j]:=by
 rw [Zv hj,ky,Zk,Yq (by omega)];rfl
def pU:List (List UInt8)->List sE
 | []=>[]
 | Z::r=>.con Z::.no::pU r
theorem uy:∀ l,(pU l).length=2*l.length
 | []=>rfl
 | Z::r=>by simp only [pU,ZX,uy r];omega
theorem uA:∀ (Zs:List (List UInt8)) (x:gH) (n:Nat),run x n (pU Zs)={x with cs:=x.cs++Zs}
 | [],x,n=>by simp [pU,run]
 | Z::r,x,n=>by simp only [pU,run,gH.eff,uA r];simp
theorem zi:∀ (Zs:List (List UInt8)) (i:Nat) (x:gH) (n:Nat),x.cs.length+Zs.length<=1000->lM x n (pU Zs) (jA i Zs)
 | [],_,_,_,_=>trivial
 | Z::r,i,x,n,h=>by
  simp only [ZX] at h;refine ⟨⟨_,rfl⟩,(show x.cs.length<=1000 by omega),fun s hs=>BD _ hs,trivial,zi r (i+1) _ _ ?_⟩;simp [gH.eff];omega
def EF (zs:List (Int×Int)):List sE:=zs.map fun z=>.pg z.1 z.2
def o8:Nat->List (Int×Int)->List (Nat×Int×Int)
 | _,[]=>[]
 | n,z::r=>(n,z.1,z.2)::o8 (n+1) r
theorem kE:∀ (zs:List (Int×Int)) (n:Nat),(o8 n zs).length=zs.length
 | [],_=>rfl
 | z::r,n=>by simp [o8,kE r]
theorem yO:∀ (zs:List (Int×Int)) (n i:Nat) y,(o8 n zs)[i]? =some y->y.1=n+i
 | [],n,i,y,h=>by simp [o8] at h
 | z::r,n,0,y,h=>by simp [o8] at h;rw [<-h];rfl
 | z::r,n,i+1,y,h=>by
  have:=yO r (n+1) i y (by simpa [o8] using h);omega
theorem ua:∀ (zs:List (Int×Int)) (n:Nat),(o8 n zs).map (·.2)=zs
 | [],_=>rfl
 | z::r,n=>by simp [o8,ua r]
theorem zA:∀ (zs:List (Int×Int)) (x:gH) (n:Nat),run x n (EF zs)={x with sh:=x.sh++o8 n zs}
 | [],x,n=>by simp [EF,run,o8]
 | z::r,x,n=>by
  have:=zA r {x with sh:=x.sh++[(n,z.1,z.2)]} (n+1);show run {x with sh:=x.sh++[(n,z.1,z.2)]} (n+1) (EF r)=_
  rw [this];simp [o8]
theorem Df (font p:Nat):∀ (zs:List (Int×Int)) (i:Nat) (x:gH) (n:Nat),x.sh.length+zs.length<=80->n+zs.length<=100000->(∀ z∈zs,bG z.1 1 14400000/\bG z.2 1 14400000)->lM x n (EF zs) (dI font p i zs)
 | [],_,_,_,_,_,_=>trivial
 | z::r,i,x,n,h,hn,hz=>by
  simp only [ZX] at h hn;refine ⟨⟨fun s hs=>DZ font p i z hs,hz z (by simp)⟩,⟨by omega,by omega⟩,Df font p r (i+1) _ _ ?_ (by omega) (fun y hy=>hz y (by simp [hy]))⟩;simp [gH.eff];omega
def ET (n:Nat):List sE:=List.replicate n .no
theorem zw:∀ (k:Nat) (x:gH) (n:Nat),run x n (ET k)=x
 | 0,_,_=>rfl
 | k+1,x,n=>zw k x (n+1)
theorem C5:∀ (bs:List (List UInt8)) (x:gH) (n:Nat),(∀ b∈bs,Ca b .no)->lM x n (ET bs.length) bs
 | [],_,_,_=>trivial
 | b::r,x,n,h=>⟨h b (by simp),trivial,C5 r _ _ (fun c hc=>h c (by simp [hc]))⟩
theorem vK (p f c s:Nat):∀ b∈bS p f c s,Ca b .no:=by
 induction c using Nat.strongRecOn generalizing f s with
 | _ c ih=>
  intro b hb;rw [bS] at hb;split at hb
  ·simp only [Zl,YU,or_false] at hb;subst hb;exact fun s hs=>qN _ _ _ _ hs
  ·rcases Zu.1 hb with hb | hb
   ·obtain ⟨g,_,rfl⟩:=YC.1 hb;exact fun s hs=>qN _ _ _ _ hs
   ·exact ih _ (by omega) _ _ b hb
def Em (fp:Nat) (ms:List (List UInt8×Nat)):List sE:=ms.map fun m=>.mk m.1 (fp+m.2) m.2
def El (ms:List (List UInt8×Nat)):List (ByteArray×Nat):=ms.map fun m=>(⟨m.1.toArray⟩,m.2)
theorem zr (fp:Nat):∀ (ms:List (List UInt8×Nat)) (x:gH) (n:Nat),run x n (Em fp ms)={x with ms:=x.ms++El ms}
 | [],x,n=>by simp [Em,El,run]
 | m::r,x,n=>by
  have:=zr fp r {x with ms:=x.ms++[(⟨m.1.toArray⟩,m.2)]} (n+1);show run {x with ms:=x.ms++[(⟨m.1.toArray⟩,m.2)]} (n+1) (Em fp r)=_
  rw [this];simp [El]
def nr:Nat->List (List UInt8×Nat)->Prop
 | _,[]=>True
 | p,m::r=>p<=m.2/\nr m.2 r
theorem vr (l:List (ByteArray×Nat)) (m:ByteArray×Nat):iC (l++[m])=m.2:=by simp [iC]
theorem C3 (fp all M:Nat) (zs:List (Int×Int)) (hz:zs.length<=80) (hfp:fp<=100000):∀ (ms:List (List UInt8×Nat)) (i:Nat) (x:gH) (n:Nat),x.sh=o8 fp zs->x.ms.length+ms.length<=20->(∀ m∈ms,(0 < m.1.length/\m.1.length<=100)/\m.2 < zs.length)->nr (iC x.ms) ms->lM x n (Em fp ms) (bK all M fp i ms)
 | [],_,_,_,_,_,_,_=>trivial
 | m::r,i,x,n,hx,hl,hm,hs=>by
  simp only [ZX] at hl;obtain ⟨h1,h2⟩:=hm m (by simp);refine ⟨fun s hs=>DY all M fp i m.1 m.2 hs,⟨h1,?_,?_,?_,?_,by omega,hs.1⟩,C3 fp all M zs hz hfp r (i+1) _ _ hx ?_ (fun y hy=>hm y (by simp [hy])) ?_⟩
  ·rw [hx,kE];exact h2
  ·rw [hx,kE];exact hz
  ·intro z hzz;rw [hx] at hzz;obtain ⟨k,hk⟩:=List.getElem?_of_mem hzz;have:=yO zs fp k z hk;have hk2:=(Zx.1 hk).1;rw [kE] at hk2;omega
  ·intro k z hk;rw [hx] at hk;have:=yO zs fp k z hk;omega
  ·simp [gH.eff];omega
  ·show nr (iC (x.ms++[(⟨m.1.toArray⟩,m.2)])) r
   rw [vr];exact hs.2
def uS (Zs:List (List UInt8)) (zs:List (Int×Int)) (ms:List (List UInt8×Nat)) (t:List UInt8):List sE:=
 pU Zs++((([.no]++(EF zs++ET (bS zs.length (cK Zs+1) zs.length 1).length))++(if ms=[] then [] else .no::Em (cK Zs+1) ms))++((if t=[] then [] else [.ti t])++[.no]))
def yn (Zs:List (List UInt8)) (zs:List (Int×Int)) (ms:List (List UInt8×Nat)) (t:List UInt8):gH:=⟨⟨t.toArray⟩,o8 (cK Zs+1) zs,Zs,El ms⟩
def oD:gH:=⟨⟨#[]⟩,[],[],[]⟩
theorem DK (Zs:List (List UInt8)) (zs:List (Int×Int)) (ms:List (List UInt8×Nat)) (t:List UInt8) (hl:Zs.length=zs.length) (hz:zs.length<=80) (hzs:∀ z∈zs,bG z.1 1 14400000/\bG z.2 1 14400000) (hm:ms.length<=20) (hms:∀ m∈ms,(0 < m.1.length/\m.1.length<=100)/\m.2 < zs.length) (hso:nr 0 ms) (ht:t.length<=100):
  lM oD 1 (uS Zs zs ms t) (bz Zs zs ms t)/\run oD 1 (uS Zs zs ms t)=yn Zs zs ms t:=by
 have hfn:cK Zs=2*zs.length+1:=by rw [cK,hl]
 have e1:1+(pU Zs).length=cK Zs:=by rw [uy,cK];omega
 have eAll:bz Zs zs ms t=jA 0 Zs++((([lH]++(dI (cK Zs) zs.length 0 zs++bS zs.length (cK Zs+1) zs.length 1))++dd (cK Zs+(b_ (cK Zs) zs).length) (cK Zs+1) ms)++((if t=[] then [] else [gx t])++[vu (fJ (cK Zs) zs) (pA (cK Zs) zs ms)])):=by
  simp [bz,cI,dG,eG,b_]
 have r1:run oD 1 (pU Zs)={oD with cs:=Zs}:=by rw [uA];rfl
 have r2:∀ n,run {oD with cs:=Zs} n ([.no]++(EF zs++ET (bS zs.length (cK Zs+1) zs.length 1).length))=⟨⟨#[]⟩,o8 (n+1) zs,Zs,[]⟩:=by
  intro n;rw [ky,ky,zw,zA];simp [run,gH.eff,oD]
 have r3:∀ n x,run x n (if ms=[] then [] else .no::Em (cK Zs+1) ms)={x with ms:=x.ms++El ms}:=by
  intro n x;split
  ·next h=>subst h;simp [run,El]
  ·show run (x.eff n .no) (n+1) (Em (cK Zs+1) ms)=_
   rw [zr];rfl
 have r4:∀ n x,x.ti=⟨#[]⟩->run x n ((if t=[] then [] else [.ti t])++[.no])={x with ti:=⟨t.toArray⟩}:=by
  intro n x hx;split
  ·next h=>subst h;simp [run,gH.eff, <-hx]
  ·simp [run,gH.eff]
 constructor
 ·rw [eAll];unfold uS;refine g_ _ _ _ _ _ _ (zi Zs 0 oD 1 (by simp [oD];omega)) ?_;rw [r1,e1];refine g_ _ _ _ _ _ _ (g_ _ _ _ _ _ _ (g_ [.no] [lH] _ _ _ _ ⟨fun s hs=>yA hs,trivial,trivial⟩ ?_) ?_) ?_
  ·refine g_ _ _ _ _ _ _ (Df _ _ zs 0 _ _ ?_ ?_ hzs) (C5 _ _ _ (vK _ _ _ _))
   ·simp [run,gH.eff,oD];omega
   ·simp;omega
  ·rw [r2];unfold dd;split
   ·trivial
   ·refine ⟨fun s hs=>yC _ _ hs,trivial,C3 (cK Zs+1) _ _ zs hz (by omega) ms 0 _ _ rfl ?_ hms hso⟩;simp [gH.eff];omega
  ·by_cases ht0:t=[]
   ·rw [ZM ht0,ZM ht0];exact ⟨fun s hs=>sU _ _ hs,trivial,trivial⟩
   ·rw [ZO ht0,ZO ht0];exact ⟨fun s hs=>CH t hs,ht,fun s hs=>sU _ _ hs,trivial,trivial⟩
 ·unfold uS;obtain ⟨A,hA⟩:∃ A,[sE.no]++(EF zs++ET (bS zs.length (cK Zs+1) zs.length 1).length)=A:=⟨_,rfl⟩;obtain ⟨M,hM⟩:∃ M,(if ms=[] then [] else sE.no::Em (cK Zs+1) ms)=M:=⟨_,rfl⟩;obtain ⟨T,hT⟩:∃ T,(if t=[] then [] else [sE.ti t])++[.no]=T:=⟨_,rfl⟩;rw [hA] at r2;rw [hM] at r3;rw [hT] at r4;rw [hA,hM,hT,ky (pU Zs) (A++M++T),r1,e1,ky (A++M) T,ky A M,r2,r3,r4 _ _ rfl];simp [yn]
section
variable (Zs:List (List UInt8)) (zs:List (Int×Int)) (ms:List (List UInt8×Nat)) (t:List UInt8)
def tn:List Nat:=eH Zs zs ms t++[(ex Zs zs ms t).length]
theorem um:(tn Zs zs ms t).length=(bz Zs zs ms t).length+1:=by
 unfold tn;rw [ZY,io,fP];rfl
theorem Cm (k:Nat) (h:k < (bz Zs zs ms t).length+1):(tn Zs zs ms t)[k]? =some (9+(aF 1 ((bz Zs zs ms t).take k)).length):=by
 have hb:(eH Zs zs ms t).length=(bz Zs zs ms t).length:=by rw [io,fP]
 unfold tn;by_cases hk:k < (bz Zs zs ms t).length
 ·rw [YF (by omega),io];exact uq (bz Zs zs ms t) 9 1 k hk
 ·have e:k=(bz Zs zs ms t).length:=by omega
  subst e;rw [Ze (by omega),hb,Nat.sub_self,Ya];simp [ex,bi];omega
theorem tp (k:Nat) (h:k < (tn Zs zs ms t).length):(tn Zs zs ms t)[k]=9+(aF 1 ((bz Zs zs ms t).take k)).length:=
 (Zx.1 (Cm Zs zs ms t k (by rw [um] at h;exact h))).2
theorem Cj (k:Nat) (h:k+1 < (tn Zs zs ms t).length):zc (tn Zs zs ms t) (k+1)=9+(aF 1 ((bz Zs zs ms t).take k)).length:=by
 unfold zc;rw [ZO (by omega),Nat.add_sub_cancel,ZJ,ZN (by omega)];exact tp Zs zs ms t k (by omega)
theorem we (s:ByteArray) (hs:s.data.toList=fO Zs zs ms t) (k:Nat) (h:k < (bz Zs zs ms t).length):
  (s.extract (9+(aF 1 ((bz Zs zs ms t).take k)).length) (9+(aF 1 ((bz Zs zs ms t).take (k+1))).length)).data.toList=aK (1+k) (bz Zs zs ms t)[k]/\9+(aF 1 ((bz Zs zs ms t).take (k+1))).length<=s.size/\(aF 1 ((bz Zs zs ms t).take (k+1))).length=(aF 1 ((bz Zs zs ms t).take k)).length+(aK (1+k) (bz Zs zs ms t)[k]).length:=by
 have e1:=vS (bz Zs zs ms t) 1 k h;have e2:aF 1 ((bz Zs zs ms t).take (k+1))=aF 1 ((bz Zs zs ms t).take k)++aK (1+k) (bz Zs zs ms t)[k]:=by
  rw [Zv h,fj,Zk,Yq (by omega)]
 rw [u6,ex,e1] at hs;obtain ⟨R,hR⟩:∃ R,s.data.toList=(bi++aF 1 ((bz Zs zs ms t).take k))++(aK (1+k) (bz Zs zs ms t)[k]++R):=⟨_,by rw [hs];simp only [ZT];rfl⟩;have hl:s.size=9+(aF 1 ((bz Zs zs ms t).take k)).length+(aK (1+k) (bz Zs zs ms t)[k]).length+R.length:=by
  rw [<-aP,hR];simp [bi];omega
 have e3:(aF 1 ((bz Zs zs ms t).take (k+1))).length=(aF 1 ((bz Zs zs ms t).take k)).length+(aK (1+k) (bz Zs zs ms t)[k]).length:=by rw [e2,ZY]
 refine ⟨?_,by omega,e3⟩;rw [Zd,YR];simp only [List.extract];rw [hR,List.drop_left' (by simp [bi];omega),e3];rw [show 9+((aF 1 ((bz Zs zs ms t).take k)).length+(aK (1+k) (bz Zs zs ms t)[k]).length) - (9+(aF 1 ((bz Zs zs ms t).take k)).length)=(aK (1+k) (bz Zs zs ms t)[k]).length by omega];exact List.take_left
end
theorem xO (n:Nat) (h:n < 10000000000):(Lib.itoa (n:Int)).length<=10:=by
 have:=h_ n h;unfold gr at this;rw [ZY] at this;omega
theorem wD (n c i:Nat):Lib.atoi ((iL n c i).take 10)=none/\20<=(iL n c i).length:=by
 constructor
 ·rfl
 ·simp [iL];omega
theorem tP (w:World) (B:Nat) (s:ByteArray) (Zs:List (List UInt8)) (zs:List (Int×Int)) (ms:List (List UInt8×Nat)) (t:List UInt8) (hs:s.data.toList=fO Zs zs ms t) (hsz:s.size<=2000000000) (hl:Zs.length=zs.length) (hz:zs.length<=80) (hzs:∀ z∈zs,bG z.1 1 14400000/\bG z.2 1 14400000) (hm:ms.length<=20) (hms:∀ m∈ms,(0 < m.1.length/\m.1.length<=100)/\m.2 < zs.length) (hso:nr 0 ms) (htl:t.length<=100) (hal:(bz Zs zs ms t).length<=100000)
  (hB:B<=w.heap.size) (ht:bU B w) (hml:ft B w) (he:ng B w):
  CP 96 #[s] w fun e w'=>∃ l,e=.returned (.tuple #[zp l,true])/\∃ S',cv w.heap.size l (yn Zs zs ms t) w' S'/\Below w w w':=by
 obtain ⟨hok,hrun⟩:=DK Zs zs ms t hl hz hzs hm hms hso htl;have hel:=sQ _ _ _ _ hok;have hP:∀ w',Below w w w'->bU w.heap.size w'/\ft w.heap.size w'/\ng w.heap.size w':=fun w' hb=>⟨(qU ht hB).on hb,(hml.mono hB).on hb,ng.on (B:=w.heap.size) ⟨ZK he.1 hB,he.2⟩ hb⟩
 have hfa:=u6 Zs zs ms t;have hMl:=um Zs zs ms t;have hblen:(eH Zs zs ms t).length=(bz Zs zs ms t).length:=by rw [io,fP]
 have hah:(ex Zs zs ms t).length<=s.size:=by rw [<-aP,hs,hfa];simp only [ZY];omega
 have hbl:∀ n∈eH Zs zs ms t,n<=2000000000:=by
  intro n hn;rw [io] at hn;have:=iT _ _ _ n hn;have e:(ex Zs zs ms t).length=9+(aF 1 (bz Zs zs ms t)).length:=by rw [ex,ZY];rfl
  omega
 have hTk:∀ j l W S (h:j < (bz Zs zs ms t).length),Below w w W->cv w.heap.size l (run oD 1 ((uS Zs zs ms t).take j)) W S->CP 143 #[zp l,((j+1:Nat):Int),.string ⟨((bz Zs zs ms t)[j]).toArray⟩] W fun e w'=>e=.returned true/\∃ S',cv w.heap.size l (run oD 1 ((uS Zs zs ms t).take (j+1))) w' S'/\Mv S W S' w':=by
  intro j l W S h hb hL;obtain ⟨p1,p2,_⟩:=hP W hb;obtain ⟨q1,q2⟩:=vT _ _ oD 1 j h (by omega) hok;rw [Dn _ _ _ _ (by omega:j < (uS Zs zs ms t).length)];rw [show 1+j=j+1 by omega] at q2 ⊢;refine Dv W w.heap.size l (j+1) _ S _ _ _ (by simp) ?_ q1 q2 hb.size p1 p2 hL;have hp:=we Zs zs ms t s hs j h;have:(aK (1+j) (bz Zs zs ms t)[j]).length=(aL (1+j)).length+((bz Zs zs ms t)[j].length+8):=by simp [aK,eh]
  rw [ae];omega
 refine (sd w s (bz Zs zs ms t) (fun j=>run oD 1 ((uS Zs zs ms t).take j)) (fun w'=>Below w w w') (ZQ _ _) (fun _ h=>h) rfl ?_ ?_ ?_ hTk).mono ?_
 ·simp only [<-hel,Ya,hrun,yn,kE,hl]
 ·simp only [<-hel,Ya,hrun,yn];omega
 ·intro b;refine vQ w.heap.size b s (tn Zs zs ms t) (bz Zs zs ms t) _ (fun _ _ h1 h2=>h1.trans h2) hMl (by omega) hsz ?_ ?_ ?_
  ·intro i h;rw [tp];constructor
   ·cases i with
    | zero=>simp [zc]
    | succ i=>
     rw [Cj _ _ _ _ i h];have:=(we Zs zs ms t s hs i (by omega)).2.2;omega
   ·cases i with
    | zero=>simp [aF];rw [<-aP,hs,hfa];simp [ex,bi]
    | succ i=>exact (we Zs zs ms t s hs i (by omega)).2.1
  ·intro b;have hq:=xf w.heap.size b s (ex Zs zs ms t).length (eH Zs zs ms t) (iL ((eH Zs zs ms t).length+1) (l7 (cK Zs) zs ms t) (fo (cK Zs) zs ms t)) (fun w'=>Below w w w') (fun _ _ h1 h2=>h1.trans h2) (fun w' hb=>(hP w' hb).2.2) ?_ ?_ (wD _ _ _).2 (wD _ _ _).1 ?_
   ·rw [hblen] at hq;exact hq
   ·intro W hb hBW;obtain ⟨_,p2,_⟩:=hP W hb;have hsx:s.data.toList=ex Zs zs ms t++(([120,114,101,102]++10::(([48,32]++Lib.itoa (((eH Zs zs ms t).length+1:Nat):Int))++10::([48,48,48,48,48,48,48,48,48,48,32,54,53,53,51,53,32,102,32]++10::(bR (eH Zs zs ms t)++iL ((eH Zs zs ms t).length+1) (l7 (cK Zs) zs ms t) (fo (cK Zs) zs ms t)))))++([115,116,97,114,116,120,114,101,102,10]++(Lib.itoa ((ex Zs zs ms t).length:Int)++10::[37,37,69,79,70,10]))):=by rw [hs,hfa];rfl
    refine wz W w.heap.size s _ _ _ _ _ _ _ hsx (by decide) ?_ (by decide) (mQ _) ?_ (Ac _) ?_ hsz p2 hBW
    ·intro h;rcases Zu.1 h with h | h
     ·revert h;decide
     ·exact mQ _ h
    ·have h9:=xO (ex Zs zs ms t).length (by omega);omega
    ·have h0:=tO (ex Zs zs ms t++Ei Zs zs ms t) (Cy (ex Zs zs ms t).length) (DO _);rw [ZT, <-hfa, <-hs] at h0;exact h0
   ·intro n hn;exact ⟨h_ n (by have:=hbl n hn;omega),Cl n⟩
   ·have:(bR (eH Zs zs ms t)++iL ((eH Zs zs ms t).length+1) (l7 (cK Zs) zs ms t) (fo (cK Zs) zs ms t)).length<=s.size:=by
     rw [<-aP,hs,hfa];simp only [Ei,Dm,ZY,ZX];omega
    omega
  ·intro i h h' W hb hBW;obtain ⟨_,p2,_⟩:=hP W hb;obtain ⟨p3,p4,_⟩:=we Zs zs ms t s hs i h';rw [Cj _ _ _ _ i h,tp];refine (xn W w.heap.size _ (Lib.itoa ((1+i:Nat):Int)++[32,48,32,111,98,106]) (bz Zs zs ms t)[i] ?_ ?_ ?_ p2).mono ?_
   ·rw [p3];simp [aK,aL,eh]
   ·intro hh;rcases Zu.1 hh with hh | hh
    ·exact mQ _ hh
    ·revert hh;decide
   ·rw [<-aP,p3];have:=(we Zs zs ms t s hs i h').2.2;omega
   ·rintro e w' ⟨rfl,q,rfl⟩;exact ⟨rfl,⟨rfl,rfl,rfl,ZV _,fun _ _=>rfl⟩⟩
 ·rintro e w' ⟨l,rfl,S',k,hb⟩;simp only [<-hel,Ya,hrun] at k;exact ⟨l,rfl,S',k,hb⟩
def dH (Zs:List (List UInt8)) (i:Nat):List UInt8:=if i=0 then [] else aC (Zs.take i)
theorem Dy (Zs:List (List UInt8)):aC Zs≠[]:=by simp [aC,bi]
theorem sV (Zs:List (List UInt8)) (i:Nat):dH Zs i++eW (dH Zs i)=aC (Zs.take i):=by
 unfold dH;split
 ·next h=>subst h;simp [eW,aC,bW]
 ·unfold eW;rw [ZO (Dy _),YX]
theorem yW {α:Type} (l:List α) (i:Nat) (h:i < l.length):l.take (i+1)=l.take i++[l[i]]:=Zv h
theorem yN (Zs:List (List UInt8)) (i:Nat) (h:i < Zs.length):dH Zs i++BB (dH Zs i) (2*i) Zs[i]=dH Zs (i+1):=by
 unfold BB;have e:dH Zs (i+1)=aC (Zs.take i)++d_ i Zs[i]:=by
  unfold dH;rw [ZO (by omega),yW Zs i h,aC,lG,Zk,Yq (by omega),YH, <-ZT];rfl
 rw [e, <-sV];simp [d_,ZT]
theorem xr (Zs:List (List UInt8)) (i:Nat) (h:i < Zs.length):be 9 0 (Zs.take i)++[(dH Zs i).length+(eW (dH Zs i)).length]++[(dH Zs i++(eW (dH Zs i)++(aL (2*i+1)++cX (2*i+2)))++Zs[i]).length+18]=be 9 0 (Zs.take (i+1)):=by
 have e0:(dH Zs i).length+(eW (dH Zs i)).length=9+(bW 0 (Zs.take i)).length:=by
  rw [<-ZY,sV,aC,ZY];rfl
 rw [yW Zs i h,lF,Zk,Yq (by omega),YH,e0,pT,ZT];congr 1;have e1:fC.length=18:=rfl;simp only [ZG,Zt,ZY,e1];congr 2;omega
theorem sW (Zs:List (List UInt8)) (i:Nat):dH Zs i <+:aC Zs:=by
 unfold dH;split
 ·exact List.nil_prefix
 ·unfold aC;have:∀ (k:Nat) (l m:List (List UInt8)),bW k l <+:bW k (l++m):=by
   intro k l;induction l generalizing k with
   | nil=>intro m;simp [bW]
   | cons a r ih=>intro m;simp only [ZG,bW];exact (List.prefix_append_right_inj _).2 (ih (k+1) m)
  have h:=this 0 (Zs.take i) (Zs.drop i);rw [Ym] at h;exact (List.prefix_append_right_inj _).2 h
theorem xD {B:Nat} {w:World} {t0:List UInt8} (m:Nat) (hB:B<=w.heap.size) {S:Bl} (h:nh B m t0 w S) (hm:m < w.heap.size):
  ∃ S',aX (wL B m t0) B (w.heap.size+1) w.heap.size 190 (zp m) [] [] [] ((w.alloc (.cells #[.iface 190 (zp m),oz] 208)).alloc (.cells #[zp w.heap.size,.slice none 0 0,.slice none 0 0] 166)) S'/\(∀ k,S' k->S k\/w.heap.size<=k):=by
 have e:∀ k,¬ ob (.slice none 0 0) k:=fun k h=>by simp [ob,Value.ownBlock] at h
 obtain ⟨w1,hw1⟩:∃ w1,w.alloc (.cells #[.iface 190 (zp m),oz] 208)=w1:=⟨_,rfl⟩;have hz1:w1.heap.size=w.heap.size+1:=by rw [<-hw1];simp
 have hb1:Below w w w1:=by rw [<-hw1];exact (ZQ _ w).alloc (ZV _) _
 have hc1:aS B w.heap.size [.iface 190 (zp m),.int .i64 0] w1 (cC w.heap.size):=by rw [<-hw1];exact aS.alloc hB
 have hSm:S=cC m:=h.1;rw [hw1];have hf:aS B (w.heap.size+1) [.pointer (some ⟨w,0,none⟩),.slice none 0 0,.slice none 0 0] (w1.alloc (.cells #[zp w.heap.size,.slice none 0 0,.slice none 0 0] 166)) (cC (w.heap.size+1)):=by
  have:=aS.alloc (B:=B) (vs:=[.pointer (some ⟨w,0,none⟩),.slice none 0 0,.slice none 0 0]) (w:=w1) (t:=166) (by omega);rw [hz1] at this;exact this
 have hb2:Below w1 w1 (w1.alloc (.cells #[zp w.heap.size,.slice none 0 0,.slice none 0 0] 166)):=(ZQ _ w1).alloc (ZV _) _;obtain ⟨w2,hw2⟩:∃ w2,w1.alloc (.cells #[zp w.heap.size,.slice none 0 0,.slice none 0 0] 166)=w2:=⟨_,rfl⟩;rw [hw2] at hf hb2 ⊢;have hM2:=(nh.thing B m t0).grow ((nh.thing B m t0).grow h hb1) hb2;have hc2:=(aS.thing B _ _).grow hc1 hb2;refine ⟨cT (cT (cC (w.heap.size+1)) (cT (ob (.slice none 0 0)) (ob (.slice none 0 0)))) (cT (cC w.heap.size) S),⟨_,_,⟨.slice none 0 0,.slice none 0 0,cC (w.heap.size+1),_,hf,⟨_,_,aW.nil _ _ _ _,aW.nil _ _ _ _,fun k a=>absurd a (e k),rfl⟩,?_,rfl⟩,⟨S,⟨t0,rfl,hM2⟩,rfl,hB,?_,by have:=hb2.size;omega,by simp,hc2.at 0 _ rfl,hc2.at 1 _ rfl,hc2.fz⟩,?_,rfl⟩,?_⟩
 ·rintro k _ (a | a) <;> exact e k a
 ·rw [hSm];intro a;have a':w.heap.size=m:=a;omega
 ·rintro k (a | a | a) (b | b)
  ·have a':k=w.heap.size+1:=a;have b':k=w.heap.size:=b;omega
  ·rw [hSm] at b;have a':k=w.heap.size+1:=a;have b':k=m:=b;omega
  all_goals exact absurd a (e k)
 ·rintro k ((a | a | a) | (a | a))
  ·exact .inr (by have a':k=w.heap.size+1:=a;omega)
  ·exact absurd a (e k)
  ·exact absurd a (e k)
  ·exact .inr (by have a':k=w.heap.size:=a;omega)
  ·exact .inl a
theorem vG (w:World) (s:ByteArray):
  CP 144 #[s] w fun e w'=>e=.returned (zp w.heap.size)/\w'=w.alloc (.cells #[s] 240):=by
 go_enter func144,ntmps144
 go_wp2;go_ret;exact ⟨rfl,rfl⟩
def gD (B l:Nat) (x:gH) (aa ac am:Option Addr) (ks kc km:Nat):As:=ah (aS B l [.string x.ti,.slice aa x.sh.length ks,.slice ac x.cs.length kc,.slice am x.ms.length km]) (gG B x (.slice aa x.sh.length ks) (.slice ac x.cs.length kc) (.slice am x.ms.length km))
theorem gD.thing (B l:Nat) (x:gH) (aa ac am:Option Addr) (ks kc km:Nat):aJ B (gD B l x aa ac am ks kc km):=ah.thing (aS.thing _ _ _) (gG.thing _ _ _ _ _)
theorem gD.close {B l:Nat} {x:gH} {aa ac am:Option Addr} {ks kc km:Nat} {w:World} {S:Bl} (h:gD B l x aa ac am ks kc km w S):cv B l x w S:=⟨(_,_,_),h⟩
theorem gD.lies {B l:Nat} {x:gH} {aa ac am:Option Addr} {ks kc km:Nat} {w:World} {S:Bl} (h:gD B l x aa ac am ks kc km w S):
  fB (.slice aa x.sh.length ks) x.sh.length (Do x.sh) w/\fB (.slice ac x.cs.length kc) x.cs.length (eY x.cs) w/\fB (.slice am x.ms.length km) x.ms.length (iz x.ms) w/\
  w.cell? l=x.ti/\w.cell? (zq l 1)=some (.slice aa x.sh.length ks)/\w.cell? (zq l 2)=some (.slice ac x.cs.length kc)/\w.cell? (zq l 3)=some (.slice am x.ms.length km)/\(∀ b,am=some ⟨b,0,none⟩->0 < x.ms.length->S b):=by
 obtain ⟨S1,S2,h1,⟨S3,S4,h3,⟨S5,S6,h5,h6,_,e4⟩,_,e2⟩,_,rfl⟩:=h;refine ⟨aW.lies (B:=B) (e:=193) (z:=3) h3,aW.lies (B:=B) (e:=9) (z:=1) h5,aW.lies (B:=B) (e:=98) (z:=2) h6,h1.at 0 _ rfl,h1.at 1 _ rfl,h1.at 2 _ rfl,h1.at 3 _ rfl,?_⟩;intro b hb hm;refine .inr ?_;rw [e2];refine .inr ?_;rw [e4];refine .inr ?_;rw [h6.1];subst hb;rcases h6.2.2 with ⟨hu,hz⟩ | ⟨gg,cap,cur,hu,_⟩
 ·cases hu
 ·cases hu;rfl
theorem zK (l:List (List UInt8)) (i:Nat) (z:List UInt8) (h:l[i]? =some z):(eY l)[i]? =some (.string ⟨z.toArray⟩):=by simp [eY,h]
theorem xK (w:World) (B l:Nat) (x:gH) (S:Bl) (s:ByteArray) (xs:List iB) (hx:∀ p∈xs,kx p) (hxl:xs.length<=80) (hsh:x.sh.map (·.2)=aQ xs) (hcs:x.cs=aA xs) (hti:x.ti.size<=100) (hm:x.ms.length<=20) (hms:∀ m∈x.ms,m.1.size<=100/\m.2<=80)
  (hs:s.data.toList=fO (aA xs) (aQ xs) (ax x.ms) x.ti.data.toList) (hB:B<=w.heap.size) (ht:bU B w) (h:cv B l x w S):
  CP 97 #[zp l,s] w fun e w'=>e=.returned true/\∃ S',cv B l x w' S'/\Mv S w S' w':=by
 obtain ⟨aa,ks,ac,kc,am,km,hO⟩:=h.open;have hO:gD B l x aa ac am ks kc km w S:=hO;have hOt:=gD.thing B l x aa ac am ks kc km;have hzl:(aA xs).length=xs.length:=by simp [aA]
 have hsl:(aQ xs).length=xs.length:=by simp [aQ]
 have hn1:x.sh.length=xs.length:=by rw [<-hsl, <-hsh,Yx]
 have hn2:x.cs.length=xs.length:=by rw [hcs,hzl]
 have hup:=cN hx hxl;obtain ⟨t0,ht0⟩:∃ t0,fO (aA xs) (aQ xs) (ax x.ms) x.ti.data.toList=t0:=⟨_,rfl⟩;have hpre0:aC (aA xs) <+:t0:=by rw [<-ht0];exact YT _ _
 have d:=yo B w.heap.size t0;have hbel:∀ {S' w'},Mv S w S' w'->Below B w w':=fun m=>m.below (fun k e=>hOt.ge hO e) hB
 obtain ⟨L1,L2,L3,_⟩:=hO.lies;obtain ⟨_,_,ea,ca1,ca2,_⟩:=L1
 cases ea
 obtain ⟨_,_,ec,cc1,cc2,_⟩:=L2
 cases ec
 rw [hn1] at ca1;rw [hn2] at cc1;have hT:∀ i,aJ B (aX (wL B w.heap.size t0) B (w.heap.size+1+1) (w.heap.size+1) 190 (zp w) (be 9 0 ((aA xs).take i)) ((aQ xs).take i) (dH (aA xs) i)):=fun i=>aX.thing d.thing _ _ _ _ _ _ _
 refine (vq w l xs.length ks kc x.ms.length km w.heap.size (w.heap.size+1+1) s aa ac am x.ti (fun i=>((x.sh.getD i (0,0,0)).1:Int)) (fun i=>(x.sh.getD i (0,0,0)).2) (fun i=>⟨(x.cs.getD i []).toArray⟩)
  (fun i wx=>∃ S',ah (gD B l x aa ac am ks kc km) (aX (wL B w.heap.size t0) B (w.heap.size+1+1) (w.heap.size+1) 190 (zp w) (be 9 0 ((aA xs).take i)) ((aQ xs).take i) (dH (aA xs) i)) wx S'/\Mv S w S' wx)
  (fun wx=>wx=w.alloc (.cells #[s] 240)) (fun wx=>∃ S',ah (gD B l x aa ac am ks kc km) (nh B w.heap.size []) wx S'/\Mv S w S' wx) hxl ca1 ca2 cc1 cc2 ?_ ?_ ?_ ?_ ?_ ?_ ?_ ?_).mono ?_
 ·exact vG w s
 ·rintro wx rfl;refine (u7 _ _ _).mono ?_;rintro e w' ⟨rfl,rfl⟩;refine ⟨by simp,?_⟩;simp only [World.size_alloc];have hM:nh B w.heap.size t0 (w.alloc (.cells #[s] 240)) (cC w.heap.size):=by
   have:=aS.alloc (B:=B) (vs:=[.string s]) (w:=w) (t:=240) hB;have es:s=⟨t0.toArray⟩:=Zh (Array.toList_inj.1 (by rw [hs,ht0]));unfold nh;rw [<-es];exact this
  obtain ⟨S2,h2,hS2⟩:=xD w.heap.size (by simp;omega) hM (by simp);simp only [World.size_alloc] at h2 hS2;obtain ⟨a1,a2⟩:=ah.new hOt hO h2 ((((ZQ _ w).alloc (ZV _) _).alloc (by simp) _).alloc (by simp;omega) _) (fun k e=>by
   rcases hS2 k e with a | a
   ·have a':k=w.heap.size:=a;omega
   ·omega)
  refine ⟨_,?_,a2⟩;have:=ah.swap a1;simpa [dH,be] using this
 ·rintro i wx ⟨S',h',_⟩;obtain ⟨S1,k1,_,_⟩:=ah.fst (hT i) h';obtain ⟨_,_,_,q0,q1,q2,q3,_⟩:=k1.lies;rw [hn1] at q1;rw [hn2] at q2;exact ⟨q0,q1,q2,q3⟩
 ·rintro i wx hi ⟨S',h',_⟩;obtain ⟨S1,k1,_,_⟩:=ah.fst (hT i) h';obtain ⟨⟨_,_,e1,_,_,g1⟩,⟨_,_,e2,_,_,g2⟩,_⟩:=k1.lies
  cases e1
  cases e2
  obtain ⟨g,rfl,_,hg⟩:=g1 (by omega);obtain ⟨gc,rfl,_,hgc⟩:=g2 (by omega);have he:x.sh[i]? =some (x.sh.getD i (0,0,0)):=by rw [ZJ,ZN (by omega)];rfl
  obtain ⟨a1,a2,a3⟩:=t_ x.sh i _ he;refine ⟨g,gc,rfl,rfl,hg _ _ a1,hg _ _ a2,hg _ _ a3,hgc _ _ (zK _ _ _ ?_)⟩;rw [ZJ,ZN (by omega)];rfl
 ·rintro i wx w' ⟨S',h',m'⟩ hb;exact ⟨S',(ah.thing hOt (hT i)).grow h' hb,m'.trans (Mv.grow hb S')⟩
 ·rintro i wx hi ⟨S',h',m'⟩;obtain ⟨S2,k2,_,back⟩:=ah.snd hOt h';have hiz:i < (aA xs).length:=by omega
  have ez:x.cs.getD i []=(aA xs)[i]:=by rw [hcs,ZJ,ZN hiz];rfl
  have es:(x.sh.getD i (0,0,0)).2=(aQ xs)[i]'(by omega):=by
   have e1:(x.sh.map (·.2))[i]'(by simp;omega)=(aQ xs)[i]'(by omega):=by simp only [hsh]
   rw [<-e1,List.getElem_map,ZJ,ZN (by omega)];rfl
  have hcl:(be 9 0 ((aA xs).take i)).length=2*i:=by rw [dy,Zk,Yq (by omega)]
  have hnx:=yN (aA xs) i hiz;have hpn:dH (aA xs) (i+1) <+:t0:=(sW _ _).trans hpre0;have hl1:(dH (aA xs) (i+1)).length<=100000000:=ZU (sW (aA xs) (i+1)).length_le hup;have hl2:(dH (aA xs) i).length+(aA xs)[i].length<=(dH (aA xs) (i+1)).length:=by
   rw [<-hnx];unfold BB;simp only [ZY];omega
  have hP:=vV d (ZV _) wx S2 (w.heap.size+1+1) (w.heap.size+1) _ _ _ ((aQ xs)[i]'(by omega)).1 ((aQ xs)[i]'(by omega)).2 ⟨((aA xs)[i]).toArray⟩ k2 (ZU hB m'.size) (ht.on (hbel m')) (by rw [hcl];omega) (by rw [Zk];omega) (by rw [ae];omega) (by rw [hcl,hnx];exact hpn);rw [hcl,hnx,xr _ _ hiz] at hP;show CP _ #[_,.int .i64 (x.sh.getD i (0,0,0)).2.1,.int .i64 (x.sh.getD i (0,0,0)).2.2,.string ⟨(x.cs.getD i []).toArray⟩] wx _
  rw [ez,es];refine hP.mono ?_;rintro e w' ⟨rfl,S3,k3,m3⟩;obtain ⟨S4,k4,m4⟩:=back _ _ _ k3 m3;refine ⟨rfl,S4,?_,m'.trans m4⟩;rw [yW (aQ xs) i (by omega)];exact k4
 ·rintro wx ⟨S',h',m'⟩;obtain ⟨S1,S2,k1,k2,ho,rfl⟩:=id h';obtain ⟨_,_,L3,_,_,_,_,hmb⟩:=k1.lies;rw [ZA (by omega),ZA (by omega)] at k2;have hX:(dH (aA xs) xs.length=[]/\xs=[])\/dH (aA xs) xs.length=aC (aA xs):=by
   unfold dH;by_cases h0:xs.length=0
   ·rw [ZM h0];exact .inl ⟨rfl,Zr h0⟩
   ·rw [ZO h0,ZA (by omega)];exact .inr rfl
  refine (EM d (w.heap.size+1+1) (w.heap.size+1) wx S2 xs _ x.ti x.ms am km hx hX hxl hti hm hms (ZU hB m'.size) (ht.on (hbel m')) (by rw [ht0];exact List.prefix_rfl) L3 (fun hp b hb hS=>ho b (hmb b hb hp) hS) k2).mono ?_;rintro e w' ⟨rfl,bg,S3,k3,m3⟩;obtain ⟨k4,m4⟩:=ah.left (P':=aX (wL B w.heap.size t0) B (w.heap.size+1+1) (w.heap.size+1) 190 (zp w) bg (aQ xs) (fO (aA xs) (aQ xs) (ax x.ms) x.ti.data.toList)) hOt k1 (oo.symm ho) k3 m3;obtain ⟨T1,T2,q1,q2,qo,qe⟩:=k4;obtain ⟨U1,U2,u1,⟨R,⟨r,er,hr⟩,eU,_⟩,uo,rfl⟩:=q1;have hr0:r=[]:=by
   rw [ht0] at er;have:=congrArg List.length er;rw [ZY] at this;exact Zr (by omega)
  subst hr0;refine ⟨rfl,cT T2 R,⟨T2,R,q2,hr,fun k a b=>qo k (.inr (by rw [eU];exact .inr b)) a,rfl⟩,?_⟩;have m5:Mv (cT S1 S2) wx (cT S3 S1) w':=m4.mono (fun k e=>e.elim .inr .inl) (fun k e=>.inl e);refine (m'.trans m5).trans ⟨Fr.refl _ _,?_⟩;rintro k (a | a)
  ·exact .inl (by rw [qe];exact .inr a)
  ·exact .inl (by rw [qe];exact .inl (.inr (by rw [eU];exact .inr a)))
 ·rintro wx ⟨S',h',m'⟩;obtain ⟨S2,k2,_,_⟩:=ah.snd hOt h';exact qX wx B w.heap.size [] S2 k2
 ·rintro e w' ⟨rfl,S',h',m'⟩;obtain ⟨S2,k2,m2⟩:=ah.drop h';exact ⟨rfl,S2,k2.close,m'.trans m2⟩
section
open Go.RowKit Go.Shelf
attribute [local go_sem] Oper.semAt_some
theorem yl (l:Nat) (w:World):
  CP 98 #[zp l] w fun e W'=>e=.returned (.func (.func 147) #[] #[zp w.heap.size])/\W'=w.alloc (.cells #[zp l] 143):=by
 have hmf:∀ (fn:Fn) (first cap:Array Value) (w:World),(Instr.makeFunc fn first cap).run prog w=.ok (.func fn first cap) w:=fun _ _ _ _=>rfl
 go_enter func98,ntmps98
 go_wp2;go_ret;exact ⟨rfl,rfl⟩
def Dg (n:Nat) (sh:Nat->Int×Int) (i:Nat) (args:Array Value) (i':Nat):Prop:=i < n/\i'=i+1/\∃ ad k cp,args=(#[.agg #[.int .i64 (sh i).1,.int .i64 (sh i).2,.slice ad k cp],true]:Array Value)
def EG (B:Nat) (sh:Nat->Int×Int) (ops:Nat->List bj) (i:Nat) (args:Array Value):As:=fun w S=>∃ v,args=(#[.agg #[.int .i64 (sh i).1,.int .i64 (sh i).2,v],true]:Array Value)/\aW B 31 9 v (ops i).length (k_ (ops i)) w S
theorem EG.thing (B:Nat) (sh:Nat->Int×Int) (ops:Nat->List bj) (i:Nat) (args:Array Value):aJ B (EG B sh ops i args):=aJ.any fun _=>aJ.pure (aW.thing _ _ _ _ _ _)
theorem Bz (B b l n cap capc:Nat) (aa ac:Option Addr) (cw:Nat->Int) (sh:Nat->Int×Int) (cs:Nat->ByteArray) (ops:Nat->List bj) (Ly:As) (hLt:aJ B Ly) (xi:World->Prop) (hpre:∀ w w',xi w->Below B w w'->xi w') (hn:n<=80) (hcap:n<=cap) (hcap2:cap<=9223372036854775807) (hcapc:n<=capc) (hcapc2:capc<=9223372036854775807)
  (FC:Hid (∀ wx S,Ly wx S->wx.cell? ⟨l,1,none⟩=some (.slice aa n cap)/\wx.cell? ⟨l,2,none⟩=some (.slice ac n capc)))
  (FS:Hid (∀ i wx S,i < n->Ly wx S->∃ g gc,aa=some ⟨g,0,none⟩/\ac=some ⟨gc,0,none⟩/\wx.cell? ⟨g,i*3,none⟩=some (.int .i64 (cw i))/\wx.cell? ⟨g,i*3+1,none⟩=some (.int .i64 (sh i).1)/\wx.cell? ⟨g,i*3+2,none⟩=some (.int .i64 (sh i).2)/\wx.cell? ⟨gc,i,none⟩=some (.string (cs i))))
  (HD:Hid (∀ i W,i < n->xi W->B<=W.heap.size->CP 148 #[.string (cs i)] W fun e w'=>∃ v,e=.returned (.tuple #[v,true])/\∃ S',aW B 31 9 v (ops i).length (k_ (ops i)) w' S'/\(∀ k,S' k->W.heap.size<=k)/\Below W W w')):
  Cb Fence.wide prog 147 #[zp b] B (ah (aS B b [.pointer (some ⟨l,0,none⟩)]) Ly) xi 0 (Dg n sh) (fun i=>i=n) (EG B sh ops):=by
 rintro l0 K Kx hK hKx W hp hBW hY S h0;have hCt:=ah.thing (aS.thing B b [.pointer (some ⟨l,0,none⟩)]) hLt;have hge:=fun k=>(ah.thing hCt (hK 0)).ge (k:=k) h0
 have fc:∀ i wx S,ah (ah (aS B b [.pointer (some ⟨l,0,none⟩)]) Ly) (K i) wx S->wx.cell? ⟨b,0,none⟩=some (.pointer (some ⟨l,0,none⟩))/\∃ S',Ly wx S':=by
  intro i wx S hs;obtain ⟨S1,S2,⟨S3,S4,k3,k4,_⟩,_⟩:=hs;exact ⟨k3.at 0 _ rfl,S4,k4⟩
 obtain ⟨c0,SL,kL⟩:=fc 0 W S h0;obtain ⟨c1,c2⟩:=FC.out W SL kL;have H0:=ai h0;have HFC:=ai fc;clear h0 fc;refine callsIn_of_wp func147 rfl trivial ?_ rfl;show (Code.wpIn _ _ _ _ _ _ _)
 simp only [ntmps147,List.size_toArray,ZX,ZS,Nat.reduceAdd,Nat.reduceSub,Array.replicate_succ,Array.replicate_zero,List.push_toArray,List.append_toArray,Zt,ZG]
 gi_wp2
 gi_loopw [12] (fun v wr=>∃ (i:Nat) (S':Bl),i<=n/\v=.int .i64 (i:Int)/\ah (ah (aS B b [.pointer (some ⟨l,0,none⟩)]) Ly) (K i) wr S'/\Mv S W S' wr) (fun v _=>match v with | .int _ k=>n - k.toNat | _=>0)
 case atStart=>exact ⟨0,S,by omega,rfl,H0.out,Mv.refl _ _⟩
 case round=>
  obtain ⟨i,S',hi,rfl,hst,hmv⟩:=hrel;have hbw:Below B W wr:=hmv.below hge hBW;by_cases hlt:i < n
  ·obtain ⟨y0,SL,kL⟩:=HFC.out i wr S' hst;obtain ⟨y1,y2⟩:=FC.out wr SL kL;obtain ⟨g,gc,e1,e2,r0,r1,r2,r3⟩:=FS.out i wr SL hlt kL;subst e1 e2;have HCD:=ai (fun wx (hb:Below wr wr wx)=>HD.out i wx hlt (hpre _ _ hp (hbw.trans (hb.mono (ZU hBW hbw.size)))) (ZU (ZU hBW hbw.size) hb.size));have HYY:=ai (fun wx Sx ad k cp (hb:Below B W wx) (hs:ah (K i) (EG B sh ops i #[.agg #[.int .i64 (sh i).1,.int .i64 (sh i).2,.slice ad k cp],true]) wx Sx)=>hY i #[.agg #[.int .i64 (sh i).1,.int .i64 (sh i).2,.slice ad k cp],true] (i+1) wx Sx ⟨hlt,rfl,ad,k,cp,rfl⟩ hs hb);have d1:decide ((i:Int) < (n:Int))=true:=by simp;omega
   have hlr:=ZD wr _ y2;have hgr:=ZD wr _ r3;have hbr:=ZD wr _ y0;dsimp only at hlr hgr hbr;generalize cw i=z0 at r0;obtain ⟨z1,hz1⟩:∃ z,(sh i).1=z:=⟨_,rfl⟩;obtain ⟨z2,hz2⟩:∃ z,(sh i).2=z:=⟨_,rfl⟩;obtain ⟨z3,hz3⟩:∃ z,cs i=z:=⟨_,rfl⟩;rw [hz1] at r1 HYY;rw [hz2] at r2 HYY;rw [hz3] at r3 HCD;have HZ:=ai (And.intro hz1 hz2);clear hz1 hz2 hz3
   gi_wp2
   have hba:Below wr wr (wr.alloc (Obj.cells #[Value.int IntKind.i64 z0,Value.int IntKind.i64 z1,Value.int IntKind.i64 z2] 193)):=(ZQ _ wr).alloc (ZV _) _;refine ⟨trivial,rfl,(callsIn_wide.2 (HCD.out _ hba)).mono ?_⟩;rintro e w3 ⟨v,rfl,S3,k3,hS3,hb3⟩;have a1:w3.cell? ⟨wr.heap.size,1,none⟩=some (.int .i64 z1):=(hb3.cell (p:=⟨wr.heap.size,1,none⟩) (by simp)).trans ((aS.alloc (B:=0) (vs:=[.int .i64 z0,.int .i64 z1,.int .i64 z2]) (YI _)).at 1 _ rfl);have a2:w3.cell? ⟨wr.heap.size,2,none⟩=some (.int .i64 z2):=(hb3.cell (p:=⟨wr.heap.size,2,none⟩) (by simp)).trans ((aS.alloc (B:=0) (vs:=[.int .i64 z0,.int .i64 z1,.int .i64 z2]) (YI _)).at 2 _ rfl);have hb3':Below wr wr w3:=hba.trans (hb3.mono hba.size);obtain ⟨a3,a4⟩:=ah.new (ah.thing hCt (hK i)) hst k3 hb3' (fun k e=>ZU hba.size (hS3 k e));obtain ⟨ad,cp,hv⟩:=k3.form;subst hv;have a5:∃ S5,ah (ah (ah (aS B b [.pointer (some ⟨l,0,none⟩)]) Ly) (K i)) (EG B sh ops i #[.agg #[z1,z2,.slice ad (ops i).length cp],true]) w3 S5/\Mv S' wr S5 w3:=by
    refine ⟨_,ah.mapR (ah.swap a3) fun _ _ k=>⟨.slice ad (ops i).length cp,?_,k⟩,a4.mono (fun _ h=>h) (fun k hk=>.inl ?_)⟩
    ·rw [HZ.out.1,HZ.out.2]
    ·exact hk
   obtain ⟨S5,h5,m5⟩:=a5;obtain ⟨S9,k9,_,back9⟩:=ah.snd hCt (ah.assoc h5);have hmv5:=hmv.trans m5;obtain ⟨fn,tmps,assign,body,hy,hR⟩:=HYY.out w3 S9 _ _ _ (hmv5.below hge hBW) k9;clear HYY HCD a3 a4 k3 h5 r0 r1 r2 r3
   gi_wp2
   refine ⟨rfl,hR.mono ?_⟩;rintro e w4 (⟨rfl,SK3,kK3,mK3⟩ | ⟨rfl,SK3,kK3,mK3⟩)
   ·obtain ⟨S6,h6,m6⟩:=back9 _ _ _ kK3 mK3
    gi_wp2
    go_roundw
    case rel=>exact ⟨i+1,S6,by omega,by congr 1,h6,hmv5.trans m6⟩
    case measure=>simp;omega
   ·obtain ⟨S6,h6,m6⟩:=back9 _ _ _ kK3 mK3
    gi_wp2
    refine YO (results_none rfl _ _ _) rfl ?_;exact ⟨⟨_,rfl⟩,.inr ⟨S6,h6,hmv5.trans m6⟩⟩
  ·have e:i=n:=by omega
   subst e;have d1:decide ((i:Int) < (i:Int))=false:=by simp
   gi_wp2
   go_end0;exact ⟨⟨_,rfl⟩,.inl ⟨_,S',rfl,hst,hmv⟩⟩
end
section
open Go.RowKit Go.Shelf
attribute [local go_sem] Oper.semAt_some
def DA (pgs:Nat->Int×Int×List bj):Nat->List (Int×Int×List bj)
 | 0=>[]
 | i+1=>pgs i::DA pgs i
def gF (lo:Nat) (v:Value) (n:Nat) (xs:List Value) (w:World):Prop:=fB v n xs w/\∀ b,v.ownBlock=some b->lo<=b
theorem gF.on {lo:Nat} {v:Value} {n:Nat} {xs:List Value} {w w':World} (h:gF lo v n xs w) (hz:w.heap.size<=w'.heap.size) (hk:∀ k,lo<=k->k < w.heap.size->w'.heap[k]? =w.heap[k]?):gF lo v n xs w':=by
 obtain ⟨⟨ad,cap,rfl,h1,h2,h3⟩,h4⟩:=h;refine ⟨⟨ad,cap,rfl,h1,h2,fun hn=>?_⟩,h4⟩;obtain ⟨b,rfl,hb,hc⟩:=h3 hn;exact ⟨b,rfl,ZK hb hz,fun i x hx=>(ZR (a:=zq b i) (hk b (h4 b rfl) hb)).trans (hc i x hx)⟩
theorem gF.mono {lo lo':Nat} {v:Value} {n:Nat} {xs:List Value} {w:World} (h:gF lo v n xs w) (hl:lo'<=lo):gF lo' v n xs w:=⟨h.1,fun b hb=>ZU hl (h.2 b hb)⟩
theorem aW.liesA {B:Nat} {e:TypeId} {z:Nat} {v:Value} {n:Nat} {xs:List Value} {w:World} {S:Bl} (h:aW B e z v n xs w S):gF B v n xs w:=⟨h.lies,fun b hb=>(aW.thing B e z v n xs).ge h (by rw [h.1];exact hb)⟩
def B9 (lo:Nat) (v:Value) (ps:List (Value×(Int×Int×List bj))) (w:World):Prop:=gF lo v ps.length (iy ps) w/\∀ y∈ps,gF lo y.1 y.2.2.2.length (k_ y.2.2.2) w
theorem B9.on {lo:Nat} {v:Value} {ps:List (Value×(Int×Int×List bj))} {w w':World} (h:B9 lo v ps w) (hz:w.heap.size<=w'.heap.size) (hk:∀ k,lo<=k->k < w.heap.size->w'.heap[k]? =w.heap[k]?):B9 lo v ps w':=⟨h.1.on hz hk,fun y hy=>(h.2 y hy).on hz hk⟩
theorem B9.mono {lo lo':Nat} {v:Value} {ps:List (Value×(Int×Int×List bj))} {w:World} (h:B9 lo v ps w) (hl:lo'<=lo):B9 lo' v ps w:=⟨h.1.mono hl,fun y hy=>(h.2 y hy).mono hl⟩
theorem dh.lie {B:Nat}:∀ {l:List (Value×List bj)} {w:World} {S:Bl},dh B l w S->∀ x∈l,gF B x.1 x.2.length (k_ x.2) w
 | [],_,_,_,x,hx=>by simp at hx
 | y::l,w,S,h,x,hx=>by
  obtain ⟨S1,S2,h1,h2,_⟩:=h;rcases Zl.1 hx with rfl | hx
  ·exact aW.liesA h2
  ·exact dh.lie h1 x hx
theorem zB (pgs:Nat->Int×Int×List bj):∀ i,(DA pgs i).length=i
 | 0=>rfl
 | i+1=>by simp [DA,zB pgs i]
theorem Tryz.infoPg9:(Tryz.prog.info? 100).map (fun i=>(i.zero,i.size,i.bytes))=some (some (.agg #[oz,oz,.slice none 0 0]),3,40):=by kernel_rfl
def rl (B h:Nat) (ti:ByteArray) (vm:Value) (pgs:Nat->Int×Int×List bj) (i:Nat):As:=fun w S=>∃ q:List (Value×(Int×Int×List bj))×Value,q.1.map (·.2)=DA pgs i/\ah (aS B h [.string ti,q.2,vm]) (ah (aW B 100 3 q.2 i (iy q.1)) (dh B (kg q.1))) w S
theorem rl.thing (B h:Nat) (ti:ByteArray) (vm:Value) (pgs:Nat->Int×Int×List bj) (i:Nat):aJ B (rl B h ti vm pgs i):=aJ.any fun _=>aJ.pure (ah.thing (aS.thing _ _ _) (ah.thing (aW.thing _ _ _ _ _ _) (dh.thing _ _)))
theorem yI (w:World) (s:ByteArray) (x:gH) (n:Nat) (sh:Nat->Int×Int) (ops:Nat->List bj) (xi:World->Prop) (hpre:∀ w',Below w w w'->xi w') (hn:n<=80)
  (HL:Hid (∀ wx,Below w w wx->wx.heap.size=w.heap.size+2->CP 96 #[s] wx fun e w'=>∃ l,e=.returned (.tuple #[zp l,true])/\∃ S',cv (w.heap.size+2) l x w' S'/\Below (w.heap.size+2) wx w'))
  (HI:Hid (∀ wx l S,Below w w wx->cv (w.heap.size+2) l x wx S->w.heap.size+2<=wx.heap.size->CP 97 #[zp l,s] wx fun e w'=>e=.returned true/\∃ S',cv (w.heap.size+2) l x w' S'/\Mv S wx S' w'))
  (HQ:Hid (∀ b l aa ac am ks kc km w0 S0,gD (w.heap.size+2) l x aa ac am ks kc km w0 S0->Cb Fence.wide prog 147 #[zp b] (w.heap.size+2) (ah (aS (w.heap.size+2) b [.pointer (some ⟨l,0,none⟩)]) (gD (w.heap.size+2) l x aa ac am ks kc km)) xi 0 (Dg n sh) (fun i=>i=n) (EG (w.heap.size+2) sh ops))):
  CP 49 #[s] w fun e w'=>∃ vp vm:Value,e=.returned (.tuple #[.agg #[x.ti,vp,vm],true])/\∃ ps,ps.map (·.2)=DA (fun i=>((sh i).1,(sh i).2,ops i)) n/\B9 w.heap.size vp ps w'/\gF w.heap.size vm x.ms.length (iz x.ms) w'/\Below w w w':=by
 have HO:=ai yl;obtain ⟨pgs,hpgs⟩:∃ pgs:Nat->Int×Int×List bj,(fun i=>((sh i).1,(sh i).2,ops i))=pgs:=⟨_,rfl⟩;rw [hpgs];have HPG:Hid (∀ i,pgs i=((sh i).1,(sh i).2,ops i)):=fun i=>(congrFun hpgs i).symm
 clear hpgs;refine (callsIn_wide (n:=0)).1 ?_;refine callsIn_of_wp_marks func49 rfl trivial ?_ rfl;simp only [ntmps49,List.size_toArray,ZX,ZS,Nat.reduceAdd,Nat.reduceSub,Array.replicate_succ,Array.replicate_zero,List.push_toArray,List.append_toArray,Zt,ZG]
 gi_wp2
 refine ⟨trivial,rfl,(callsIn_wide.2 (HL.out _ (((ZQ _ w).alloc (ZV _) _).alloc (by simp) _) (by simp))).mono ?_⟩;rintro e W1 ⟨l,rfl,S1,k1,hb1⟩;have hb1':Below w w W1:=(((ZQ _ w).alloc (ZV _) _).alloc (by simp) _).trans (hb1.mono (by omega));have hs1:w.heap.size+2<=W1.heap.size:=by have:=hb1.size;simpa using this
 have bx1:∃ S9,Bx w.heap.size w.heap.size [[.string ⟨#[]⟩,.slice none 0 0,.slice none 0 0],[.bool false]] W1 S9:=by
  obtain ⟨S8,b1⟩:=(Bx.nil w.heap.size w (by omega)).snoc [.string ⟨#[]⟩,.slice none 0 0,.slice none 0 0] 29 (by simp);obtain ⟨S9,b2⟩:=b1.snoc [.bool false] 4 (by simp);exact ⟨S9,(Bx.thing _ _ _).keep b2 (fun k hk=>hb1.block k (by rw [b2.1] at hk;simp at hk;omega)) hb1.size⟩
 obtain ⟨S9,bx1⟩:=bx1;have HBX:=ai bx1;clear bx1
 gi_wp2
 refine ⟨trivial,rfl,(callsIn_wide.2 (HI.out _ l S1 hb1' k1 hs1)).mono ?_⟩;rintro e W2 ⟨rfl,S2,k2,m2⟩;have hb2:Below (w.heap.size+2) W1 W2:=m2.below (fun k e=>(cv.thing _ _ _).ge k1 e) hs1;obtain ⟨aa,ks,ac,kc,am,km,kO⟩:=k2.open;have kO:gD (w.heap.size+2) l x aa ac am ks kc km W2 S2:=kO;have HQ1:=ai (fun b=>HQ.out b l aa ac am ks kc km W2 S2 kO);obtain ⟨_,_,_,y0,_,_,y3,_⟩:=kO.lies;have hO2:∀ k,S2 k->k < W2.heap.size:=fun k hk=>(gD.thing _ _ _ _ _ _ _ _ _).lt kO hk
 have hlz:l < W2.heap.size:=ZD W2 ⟨l,0,none⟩ y0;have hs2:w.heap.size+2<=W2.heap.size:=ZU hs1 hb2.size;clear HQ HL HI hb1 k1 k2 m2
 gi_wp2
 refine wpIn_wide.2 ?_;refine ap 10 _ (C4 W2.heap.size 9 29 #[.string ⟨#[]⟩,.slice none 0 0,.slice none 0 0] [.pointer (some ⟨l,0,none⟩),.pointer (some ⟨l,0,none⟩),.pointer (some ⟨l,0,none⟩),.string x.ti,.pointer (some ⟨l,0,none⟩),.pointer (some ⟨l,0,none⟩),.pointer (some ⟨l,3,none⟩),.slice am x.ms.length km,.agg #[x.ti,.slice none 0 0,.slice am x.ms.length km],undef]) (by kernel_rfl) rfl (by kernel_rfl) lL ?_;simp only [TD];refine ⟨fun w1 hG hd=>?_,fun v0=>?_⟩
 ·clear hd;go_wp2;exact RG
 simp only [TN];refine ⟨fun w1 hG hd=>?_,fun v1=>?_⟩
 ·have d0:v0=.pointer (some ⟨l,0,none⟩):=hd ⟨0,.data⟩ (by simp) rfl;clear hd;subst d0;go_wp2;exact RG
 simp only [TN];refine ⟨fun w1 hG hd=>?_,fun v2=>?_⟩
 ·have d1:v1=.pointer (some ⟨l,0,none⟩):=hd ⟨1,.data⟩ (by simp) rfl;clear hd;subst d1;go_wp2;exact RG
 simp only [TN];refine ⟨fun w1 hG hd=>?_,fun v3=>?_⟩
 ·have d2:v2=.pointer (some ⟨l,0,none⟩):=hd ⟨2,.data⟩ (by simp) rfl;clear hd;subst d2;have cc:=(Zg hG (p:=l) hlz).trans y0;go_wp2;exact RG
 simp only [TN];refine ⟨fun w1 hG hd=>?_,fun v4=>?_⟩
 ·clear hd;go_wp2;exact RG
 simp only [TN];refine ⟨fun w1 hG hd=>?_,fun v5=>?_⟩
 ·have d4:v4=.pointer (some ⟨l,0,none⟩):=hd ⟨4,.data⟩ (by simp) rfl;clear hd;subst d4;go_wp2;exact RG
 simp only [TN];refine ⟨fun w1 hG hd=>?_,fun v6=>?_⟩
 ·have d5:v5=.pointer (some ⟨l,0,none⟩):=hd ⟨5,.data⟩ (by simp) rfl;clear hd;subst d5;go_wp2;exact RG
 simp only [TN];refine ⟨fun w1 hG hd=>?_,fun v7=>?_⟩
 ·have d6:v6=.pointer (some ⟨l,3,none⟩):=hd ⟨6,.data⟩ (by simp) rfl;clear hd;subst d6;have cc:=(Zg hG (p:=zq l 3) hlz).trans y3;go_wp2;exact RG
 simp only [TN];refine ⟨fun w1 hG hd=>?_,fun v8=>?_⟩
 ·have d3:v3=.string x.ti:=hd ⟨3,.data⟩ (by simp) rfl;have d7:v7=.slice am x.ms.length km:=hd ⟨7,.data⟩ (by simp) rfl;clear hd;subst d3 d7;go_wp2;exact RG
 simp only [TN];refine ⟨fun w1 hG hd=>?_,fun v9=>?_⟩
 ·clear hd;go_wp2;exact ⟨⟨_,rfl,hG.size,ZB _ _⟩,(ZQ _ _).alloc (ZV _) _⟩
 simp only [TN];intro w3 hG hd;have d8:v8=.agg #[x.ti,.slice none 0 0,.slice am x.ms.length km]:=hd 8 (by omega);obtain ⟨h,d9,hzh,hbh⟩:∃ g,v9=.pointer (some ⟨g,0,none⟩)/\W2.heap.size<=g/\w3.heap[g]? =some (.cells #[.string ⟨#[]⟩,.slice none 0 0,.slice none 0 0] 29 (0,0)):=hd 9 (by omega);subst d8 d9;clear hd;have hrow:=YK w3 h _ #[x.ti,.slice none 0 0,.slice am x.ms.length km] _ _ hbh;refine Zi rfl 29 (.tmp 6) (.tmp 31) rfl h #[x.ti,.slice none 0 0,.slice am x.ms.length km] rfl rfl _ _ hbh (by kernel_rfl) rfl (by kernel_rfl) ?_;obtain ⟨W4,hW4⟩:∃ W4,w3.setRow h #[x.ti,.slice none 0 0,.slice am x.ms.length km]=W4:=⟨_,rfl⟩;have hb4:Below W2 W2 W4:=by
  rw [<-hW4];exact ⟨hG.os,hG.tape,hG.output,ZU hG.size (Nat.le_of_eq (by simp [World.setRow])),fun k hk=>(setRow_other _ _ _ _ (by omega)).trans (hG.block k hk)⟩
 rw [hW4] at hrow ⊢;have hd4:aS (w.heap.size+2) h [.string x.ti,.slice none 0 0,.slice am x.ms.length km] W4 (cC h):=by
  refine ⟨rfl,by omega,(ZF.1 hrow).1,fun i v hv=>?_,fun o=>?_⟩
  ·have:=Zw W4 h i _ _ _ hrow;rw [this];simpa using hv
  ·simp [World.frozen?,hrow]
 have kO4:=(gD.thing _ _ _ _ _ _ _ _ _).grow kO hb4;clear hW4 hbh hrow kO y0 y3 hG;go_wp2
 gi_wp2
 refine ⟨trivial,rfl,(callsIn_wide.2 (HO.out l _)).mono ?_⟩;rintro e W' ⟨rfl,rfl⟩;have hs4:w.heap.size+2<=W4.heap.size:=ZU hs2 hb4.size;have e0:∀ k,¬ ob (.slice none 0 0) k:=fun k h=>by simp [ob,Value.ownBlock] at h
 have st0:∃ S,ah (ah (aS (w.heap.size+2) W4.heap.size [.pointer (some ⟨l,0,none⟩)]) (gD (w.heap.size+2) l x aa ac am ks kc km)) (rl (w.heap.size+2) h x.ti (.slice am x.ms.length km) pgs 0) (W4.alloc (.cells #[zp l] 143)) S:=by
  have hD:rl (w.heap.size+2) h x.ti (.slice am x.ms.length km) pgs 0 W4 (cT (cC h) (cT (ob (.slice none 0 0)) (fun _=>False))):=⟨([],.slice none 0 0),rfl,cC h,_,hd4,⟨_,_,aW.nil _ _ _ _,rfl,fun k a=>absurd a (e0 k),rfl⟩,fun k _ b=>b.elim (e0 k) id,rfl⟩;have hLD:ah (gD (w.heap.size+2) l x aa ac am ks kc km) (rl (w.heap.size+2) h x.ti (.slice am x.ms.length km) pgs 0) W4 _:=⟨_,_,kO4,hD,fun k a b=>by
   rcases b with b | b | b
   ·have b':k=h:=b;have:=hO2 k a;omega
   ·exact e0 k b
   ·exact b,rfl⟩
  have hc:=aS.alloc (B:=w.heap.size+2) (vs:=[.pointer (some ⟨l,0,none⟩)]) (w:=W4) (t:=143) hs4;obtain ⟨a1,_⟩:=ah.new (ah.thing (gD.thing _ _ _ _ _ _ _ _ _) (rl.thing _ _ _ _ _ _)) hLD hc ((ZQ _ _).alloc (ZV _) _) (fun k e=>Nat.le_of_eq (Eq.symm e));exact ⟨_,ah.assocR a1⟩
 obtain ⟨S0,st0⟩:=st0;have hb5:Below W4 W4 (W4.alloc (.cells #[zp l] 143)):=(ZQ _ _).alloc (ZV _) _;obtain ⟨W5,hW5⟩:∃ W5,W4.alloc (.cells #[zp l] 143)=W5:=⟨_,rfl⟩;rw [hW5] at st0 hb5 ⊢;have hs5:w.heap.size+2<=W5.heap.size:=ZU hs4 hb5.size;have hB5:Below (w.heap.size+2) W1 W5:=(hb2.trans (hb4.mono hs2)).trans (hb5.mono hs4);have hbw5:Below w w W5:=hb1'.trans (hB5.mono (by omega));have HQ2:=ai (HQ1.out W4.heap.size);obtain ⟨b4,hb4e⟩:∃ b4,W4.heap.size=b4:=⟨_,rfl⟩;rw [hb4e] at st0 HQ2 ⊢;clear hW5 hb4 hb5 hd4 kO4 HQ1 HO hb2 hs4 hs2 hs1 hlz hO2 hb4e hzh;obtain ⟨n0,hn0⟩:∃ n0,w.heap.size+2=n0:=⟨_,rfl⟩;rw [hn0] at st0 HQ2 hs5 hB5;have hge:=fun k=>(ah.thing (ah.thing (aS.thing n0 _ _) (gD.thing n0 l x aa ac am ks kc km)) (rl.thing n0 _ _ _ _ _)).ge (k:=k) st0
 have HN0:=ai hn0;clear hn0
 gi_wp2
 refine B8 (B:=n0) rfl (fun _=>trivial) rfl rfl (enters_of func147 (by kernel_rfl) rfl) (EG.thing n0 sh ops) HQ2.out (fun W1 hb=>hpre _ (hbw5.trans (hb.mono (by have:=HN0.out;omega)))) (ah.thing (aS.thing _ _ _) (gD.thing _ _ _ _ _ _ _ _ _)) ?hps
  (fun i=>rl n0 h x.ti (.slice am x.ms.length km) pgs i)
  (fun _ _ _=>False) (fun i=>rl.thing _ _ _ _ _ _) (fun _=>⟨fun h=>h.elim,fun h=>h.elim,fun h=>h.elim⟩) hs5 st0 ?round ?done (fun _ _ _ _ h _=>by obtain ⟨_,_,⟨_,_,_,h,_⟩,_⟩:=h;exact h.elim)
 case hps=>
  rintro a args a' ⟨_,_,_,_,_,rfl⟩;rfl
 case round=>
  rintro l' i args i' W0 ⟨hi,rfl,ad,kk,cp,rfl⟩
  gi_wp2
  refine ⟨(ZQ _ W0).alloc (ZV _) _,?_⟩;rintro W6 S6 h6 hb6 hk6 hz6;have hpb:W6.heap[W0.heap.size]? =some (.cells #[Value.int IntKind.i64 (sh i).fst,Value.int IntKind.i64 (sh i).snd,Value.slice ad kk cp] 100):=(hk6 _ (ZV _)).trans (ZB _ _);have hpl:W0.heap.size < W6.heap.size:=(ZF.1 hpb).1;clear hk6 hz6;obtain ⟨z1,hz1⟩:∃ z,(sh i).1=z:=⟨_,rfl⟩;obtain ⟨z2,hz2⟩:∃ z,(sh i).2=z:=⟨_,rfl⟩;obtain ⟨pb,hpbe⟩:∃ pb,W0.heap.size=pb:=⟨_,rfl⟩;have h7:∃ S',∃ ps:List (Value×(Int×Int×List bj)),∃ vp,ps.map (·.2)=DA pgs i/\ah (aS n0 h [.string x.ti,vp,.slice am x.ms.length km]) (ah (aW n0 100 3 vp i (iy ps)) (dh n0 (kg ((.slice ad kk cp,pgs i)::ps)))) W6 S'/\S'=S6:=by
   obtain ⟨T1,T2,⟨⟨ps,vp⟩,hps,hD⟩,⟨v,hv,kR⟩,ho,rfl⟩:=h6;have ev:v=.slice ad kk cp:=by
    have:=congrArg (fun a:Array Value=>a.toList.head?) hv;simp at this;exact this.symm
   subst ev;have hq:ah (ah (aS n0 h [.string x.ti,vp,.slice am x.ms.length km]) (ah (aW n0 100 3 vp i (iy ps)) (dh n0 (kg ps)))) (aW n0 31 9 (.slice ad kk cp) (ops i).length (k_ (ops i))) W6 (cT T1 T2):=⟨T1,T2,hD,kR,ho,rfl⟩;refine ⟨_,ps,vp,hps,ah.mapR (ah.assoc hq) fun _ _ k=>?_,rfl⟩;have k2:=ah.assoc k;have e:kg ((Value.slice ad kk cp,pgs i)::ps)=(Value.slice ad kk cp,ops i)::kg ps:=by simp [kg,HPG.out i]
   rw [e];exact k2
  obtain ⟨S',ps,vp,hps,h7,hS6⟩:=h7;obtain ⟨y1,ow,ne,f1,hlh,hgr⟩:=j6 (i:=1) (dh.thing _ _) rfl h7;obtain ⟨ad1,cap1,hform⟩:∃ ad cap,vp=.slice ad i cap:=by
   rcases ow.2 with ⟨hu,hz⟩ | ⟨gg,cap,cur,hu,_⟩
   ·exact ⟨none,0,by rw [hu,hz]⟩
   ·exact ⟨_,_,hu⟩
  subst hform;have HGR:=ai hgr;have hB6:n0<=W6.heap.size:=ZU hs5 hb6.size;have r0:W6.cell? pb=z1:=by rw [<-hpbe,Zw W6 _ 0 _ _ _ hpb];simp [hz1]
  have r1:W6.cell? (zq pb 1)=z2:=by rw [<-hpbe,Zw W6 _ 1 _ _ _ hpb];simp [hz2]
  have r2:W6.cell? (zq pb 2)=some (.slice ad kk cp):=by rw [<-hpbe,Zw W6 _ 2 _ _ _ hpb];simp
  have HPC:Hid (iy ((.slice ad kk cp,pgs i)::ps)=iy ps++[.int .i64 z1,.int .i64 z2,.slice ad kk cp]):=by
   show _=_
   rw [HPG.out i, <-hz1, <-hz2];rfl
  have HPS:=ai hps;rw [hpbe,hz1,hz2];clear hz1 hz2 hpb hpbe hgr h6 h7 hps;generalize iy ps=xs0 at ow HGR HPC
  gi_wp2_with (gi_at_builtin;refine nW rfl (.tmp 40) (.tmp 42) 26 rfl 100 (.agg #[oz,oz,.slice none 0 0]) 3 40 Tryz.infoPg9 rfl (by omega) underlying26 n0 _ i xs0 rfl (ow.alloc _) (by simp;omega) ⟨W6,0,none⟩ 1 rfl [.int .i64 z1,.int .i64 z2,.slice ad kk cp] rfl (xp W6 _ _) (by intro u hu;simp at hu;rcases hu with rfl | rfl | rfl <;> rfl) (by omega) (by omega) ?_)
  intro v7 w7 hO7 hg7 hat7;obtain ⟨hg8,ha8⟩:=th hO7 hg7 hat7;have HX:=ai (HGR.out _ _ _ _ hg8 ha8);obtain ⟨ad7,cap7,hv7⟩:=ha8.form;subst hv7;have kb:=hg8.block h hlh (fun e=>ne e.symm);have q1:=(ZR (a:=zq h 1) kb).trans y1;have qf1:=(ZH (a:=zq h 1) kb).trans f1;clear kb y1 f1 ow hO7 hg7 hat7 HGR ha8 hg8
  gi_wp2
  obtain ⟨S'',h',m'⟩:=HX.out;rw [hS6] at m';refine ⟨S'',⟨((.slice ad kk cp,pgs i)::ps,.slice ad7 (i+1) cap7),?_,?_⟩,m'⟩
  ·show pgs i::ps.map (·.2)=pgs i::DA pgs i
   rw [HPS.out]
  ·show ah _ (ah (aW n0 100 3 (.slice ad7 (i+1) cap7) (i+1) (iy ((.slice ad kk cp,pgs i)::ps))) _) _ _
   rw [HPC.out];exact h'
 case done=>
  rintro D i W6 S6 rfl hs hm;have hb6:Below n0 W5 W6:=hm.below hge hs5;have bx6:=(Bx.thing _ _ _).keep HBX.out (fun k hk=>(hB5.trans hb6).block k (by have h9:=HBX.out.1;rw [h9] at hk;simp at hk;have:=HN0.out;omega)) (hB5.trans hb6).size;obtain ⟨T1,k1,_,back1⟩:=ah.fst (Ob.thing _ _ _) hs;obtain ⟨T2,⟨⟨ps,vp⟩,hps,kD⟩,hT2,back2⟩:=ah.snd (ah.thing (aS.thing _ _ _) (gD.thing _ _ _ _ _ _ _ _ _)) k1;obtain ⟨T3,kcc,_,_⟩:=ah.fst (ah.thing (aW.thing _ _ _ _ _ _) (dh.thing _ _)) kD;obtain ⟨T4,kr,_,_⟩:=ah.mid (aS.thing _ _ _) (dh.thing _ _) kD;obtain ⟨ad,cap,hv⟩:=kr.form;dsimp only at hv hps;subst hv;have y0:W6.cell? h=x.ti:=kcc.at 0 _ rfl;have y1:W6.cell? (zq h 1)=some (.slice ad i cap):=kcc.at 1 _ rfl;have y2:W6.cell? (zq h 2)=some (.slice am x.ms.length km):=kcc.at 2 _ rfl;have b0:W6.cell? w=some (.string ⟨#[]⟩):=bx6.at 0 0 _ _ rfl rfl;have b1:W6.cell? (zq w 1)=some (.slice none 0 0):=bx6.at 0 1 _ _ rfl rfl;have b2:W6.cell? (zq w 2)=some (.slice none 0 0):=bx6.at 0 2 _ _ rfl rfl;have b3:W6.cell? (zp (w.heap.size+1))=false:=bx6.at 1 0 _ _ rfl rfl;have f0:W6.frozen? w=false:=bx6.fz 0 0 (by simp);have f1:W6.frozen? (zq w 1)=false:=bx6.fz 0 1 (by simp);have f2:W6.frozen? (zq w 2)=false:=bx6.fz 0 2 (by simp);have f3:W6.frozen? (zp (w.heap.size+1))=false:=bx6.fz 1 0 (by simp);obtain ⟨W7,hW7⟩:∃ W7,(((W6.setCell w x.ti).setCell (zq w 1) (.slice ad i cap)).setCell (zq w 2) (.slice am x.ms.length km)).setCell (zp (w.heap.size+1)) true=W7:=⟨_,rfl⟩;have m7:∃ S,Bx w.heap.size w.heap.size [[.string x.ti,.slice ad i cap,.slice am x.ms.length km],[.bool true]] W7 S/\Mv S W6 S W7/\(∀ k,S k->w.heap.size<=k/\k < n0):=by
   obtain ⟨p1,q1⟩:=bx6.set 0 0 _ (.string x.ti) rfl (by simp);obtain ⟨p2,q2⟩:=p1.set 0 1 _ (.slice ad i cap) rfl (by simp);obtain ⟨p3,q3⟩:=p2.set 0 2 _ (.slice am x.ms.length km) rfl (by simp);obtain ⟨p4,q4⟩:=p3.set 1 0 _ (.bool true) rfl (by simp);rw [<-hW7];refine ⟨_,p4,((q1.trans q2).trans q3).trans q4,fun k hk=>?_⟩;have h9:=HBX.out.1;rw [h9] at hk;simp at hk;have:=HN0.out;omega
  obtain ⟨S7,bx7,mv7,hS7⟩:=m7;have hkeep:∀ k,n0<=k->k < W6.heap.size->W7.heap[k]? =W6.heap[k]? :=fun k hk hz=>mv7.keep hz (fun a=>by have:=(hS7 k a).2;omega)
  have hz7:W6.heap.size<=W7.heap.size:=mv7.size;obtain ⟨TO,kOb,_,_⟩:=ah.snd (ah.thing (ah.thing (aS.thing _ _ _) (gD.thing _ _ _ _ _ _ _ _ _)) (rl.thing _ _ _ _ _ _)) hs;have hD0:n0<=D:=kOb.2.1;have hOb7:W7.heap[D]? =some (.deferred (some [])):=(hkeep D hD0 (ZF.1 kOb.2.2).1).trans kOb.2.2;have bxe:∀ o,(W7.putObj D o).cell? w=some (.string x.ti)/\(W7.putObj D o).cell? (zq w 1)=some (.slice ad i cap)/\(W7.putObj D o).cell? (zq w 2)=some (.slice am x.ms.length km)/\(W7.putObj D o).cell? (zp (w.heap.size+1))=some (.bool true):=by
   intro o;have hne:∀ k,k < n0->(W7.putObj D o).heap[k]? =W7.heap[k]? :=fun k hk=>World.putObj_heap_other (by omega)
   have e0:=hne w.heap.size (by have:=HN0.out;omega);have e1:=hne (w.heap.size+1) (by have:=HN0.out;omega);exact ⟨(ZR (a:=w) e0).trans (bx7.at 0 0 _ _ rfl rfl),(ZR (a:=zq w 1) e0).trans (bx7.at 0 1 _ _ rfl rfl),(ZR (a:=zq w 2) e0).trans (bx7.at 0 2 _ _ rfl rfl),(ZR (a:=zp (w.heap.size+1)) e1).trans (bx7.at 1 0 _ _ rfl rfl)⟩
  obtain ⟨e1,e2,e3,e4⟩:=bxe (.deferred none);have hfin:Below w w (W7.putObj D (.deferred none)):=by
   have h6:Below w w W6:=hbw5.trans (hb6.mono (by have:=HN0.out;omega));have h7:Below w W6 W7:=mv7.below (fun k a=>(hS7 k a).1) (by have:=hb6.size;have:=HN0.out;omega);exact (h6.trans h7).trans ((Mv.putObj W7 D _).below (fun k e=>by have e':k=D:=e;have:=HN0.out;omega) (by have:=hb6.size;have:=HN0.out;omega))
  have hrows:B9 n0 (.slice ad i cap) ps (W7.putObj D (.deferred none))/\gF n0 (.slice am x.ms.length km) x.ms.length (iz x.ms) (W7.putObj D (.deferred none)):=by
   obtain ⟨V1,v1s,w1s⟩:=back2 _ _ _ kD (Mv.refl _ _);obtain ⟨V2,v2s,w2s⟩:=back1 _ _ _ v1s w1s;have hTT:=ah.thing (ah.thing (ah.thing (aS.thing n0 b4 [.pointer (some ⟨l,0,none⟩)]) (gD.thing n0 l x aa ac am ks kc km)) (ah.thing (aS.thing n0 h [.string x.ti,.slice ad i cap,.slice am x.ms.length km]) (ah.thing (aW.thing n0 100 3 (.slice ad i cap) i (iy ps)) (dh.thing n0 (kg ps))))) (Ob.thing n0 D (.deferred (some [])));have hs7:=hTT.keep v2s (fun k hk=>hkeep k (hTT.ge v2s hk) (hTT.lt v2s hk)) hz7;obtain ⟨T9,kOb7,_,back9⟩:=ah.snd (ah.thing (ah.thing (aS.thing _ _ _) (gD.thing _ _ _ _ _ _ _ _ _)) (ah.thing (aS.thing _ _ _) (ah.thing (aW.thing _ _ _ _ _ _) (dh.thing _ _)))) hs7;obtain ⟨p9,m9⟩:=kOb7.put (.deferred none);obtain ⟨U9,u9,_⟩:=back9 _ _ _ p9 m9;obtain ⟨_,_,⟨_,_,⟨_,_,_,uL,_⟩,⟨_,_,_,⟨_,_,uR,uO,_⟩,_⟩,_⟩,_⟩:=u9;have uM:gF n0 (.slice am x.ms.length km) x.ms.length (iz x.ms) (W7.putObj D (.deferred none)):=by
    obtain ⟨_,_,_,⟨_,_,_,⟨_,_,_,kM,_⟩,_⟩,_⟩:=uL;exact aW.liesA (B:=n0) (e:=98) (z:=2) kM
   have hpl:ps.length=i:=by
    have:=congrArg List.length hps;rw [zB,Yx] at this;exact this
   refine ⟨⟨?_,fun y hy=>dh.lie uO (y.1,y.2.2.2) (YC.2 ⟨y,hy,rfl⟩)⟩,uM⟩;rw [hpl];exact aW.liesA (B:=n0) (e:=100) (z:=3) uR
  gi_wp2
  refine ⟨by simp,.inl ⟨_,_,rfl,run_takeDeferred hOb7,?_⟩⟩;refine ⟨.tuple #[.agg #[x.ti,.slice ad i cap,.slice am x.ms.length km],true],?_,_,_,rfl,ps,hps,hrows.1.mono (by have:=HN0.out;omega),hrows.2.mono (by have:=HN0.out;omega),hfin⟩;simp [results,f49,go_sem,e1,e2,e3,e4]
end
theorem zD (l:List iB) (d:iB):∀ k,k<=l.length->DA (fun i=>(l.getD i d).2) k=((l.take k).map (·.2)).reverse
 | 0,_=>rfl
 | k+1,h=>by
  rw [DA,zD l d k (by omega),Zv (by omega),XB,List.reverse_append,ZJ,ZN (by omega)];rfl
theorem AR (ms:List (ByteArray×Nat)):El (ax ms)=ms:=by
 unfold El ax;rw [List.map_map]
 conv=>rhs;rw [<-List.map_id ms]
 refine XK fun m _=>?_
 show ((⟨m.1.data.toList.toArray⟩:ByteArray),m.2)=m
 simp
theorem DG (t:ByteArray):(⟨t.data.toList.toArray⟩:ByteArray)=t:=by simp
def zJ (ms:List (ByteArray×Nat)):Prop:=nr 0 (ax ms)
theorem BM (w:World) (B:Nat) (s ti:ByteArray) (xs:List iB) (ms:List (ByteArray×Nat)) (hx:∀ x∈xs,kx x) (hxl:xs.length<=80) (hti:ti.size<=100) (hm:ms.length<=20) (hms:∀ m∈ms,(0 < m.1.size/\m.1.size<=100)/\m.2 < xs.length) (hso:zJ ms)
  (hs:s.data.toList=fO (aA xs) (aQ xs) (ax ms) ti.data.toList) (hsz:s.size<=2000000000) (hB:B<=w.heap.size) (ht:bU B w) (hml:ft B w) (he:ng B w):
  CP 49 #[s] w fun e w'=>∃ vp vm:Value,e=.returned (.tuple #[.agg #[ti,vp,vm],true])/\∃ ps,ps.map (·.2)=xs.map (·.2)/\B9 w.heap.size vp ps w'/\gF w.heap.size vm ms.length (iz ms) w'/\Below w w w':=by
 have hzl:(aA xs).length=xs.length:=by simp [aA]
 have hsl:(aQ xs).length=xs.length:=by simp [aQ]
 have hzs:∀ z∈aQ xs,bG z.1 1 14400000/\bG z.2 1 14400000:=by
  intro z hz;simp only [aQ,YC,Yn] at hz;obtain ⟨x,hxm,rfl⟩:=hz;exact ⟨(hx x hxm).2.2.2.2.1,(hx x hxm).2.2.2.2.2⟩
 have hmsl:(ax ms).length=ms.length:=by simp [ax]
 have hmm:∀ m∈ax ms,(0 < m.1.length/\m.1.length<=100)/\m.2 < (aQ xs).length:=by
  intro m hmm;simp only [ax,YC] at hmm;obtain ⟨y,hy,rfl⟩:=hmm;have:=hms y hy;rw [hsl];refine ⟨?_,this.2⟩;show 0 < y.1.data.toList.length/\y.1.data.toList.length<=100
  rw [aP];exact this.1
 have hxx:yn (aA xs) (aQ xs) (ax ms) ti.data.toList=⟨ti,o8 (cK (aA xs)+1) (aQ xs),aA xs,ms⟩:=by
  unfold yn;rw [AR,DG]
 have hbs:=fW (cK (aA xs)) (aQ xs) (ax ms) ti.data.toList (by rw [cK,hzl];omega) (by omega) hzs (by rw [aP];omega) (by omega) (fun m hm'=>by have:=hmm m hm';omega);have hal:(bz (aA xs) (aQ xs) (ax ms) ti.data.toList).length<=100000:=by
  rw [bz,ZY,mL,hzl];omega
 have hbx:∀ wx,Below w w wx->B<=wx.heap.size/\bU B wx/\ft B wx/\ng B wx:=fun wx hb=>⟨ZU hB hb.size,ht.on (hb.mono hB),hml.on (hb.mono hB),ng.on he (hb.mono hB)⟩
 obtain ⟨q,hq⟩:∃ q:Nat->iB,q=fun i=>xs.reverse.getD i ([],0,0,[]):=⟨_,rfl⟩
 have hqi:∀ i,i < xs.length->q i∈xs/\xs.reverse[i]? =some (q i):=by
  intro i hi;have e:xs.reverse[i]? =some (q i):=by rw [hq];simp only [ZJ];rw [ZN (by simp;omega)];rfl
  exact ⟨Yn.1 (YJ e),e⟩
 have hzi:∀ i,i < xs.length->(aQ xs)[i]? =some ((q i).2.1,(q i).2.2.1):=by
  intro i hi;rw [aQ,YV,(hqi i hi).2];rfl
 have hci:∀ i,i < xs.length->(aA xs)[i]? =some (q i).1:=by
  intro i hi;rw [aA,YV,(hqi i hi).2];rfl
 have hshi:∀ i,i < xs.length->∃ z,(o8 (cK (aA xs)+1) (aQ xs))[i]? =some z/\z.2=((q i).2.1,(q i).2.2.1):=by
  intro i hi;have hl:i < (o8 (cK (aA xs)+1) (aQ xs)).length:=by rw [kE];omega
  refine ⟨_,ZN hl,?_⟩;have h1:((o8 (cK (aA xs)+1) (aQ xs)).map (·.2))[i]? =some ((o8 (cK (aA xs)+1) (aQ xs))[i]).2:=by rw [YV,ZN hl];rfl
  rw [ua,hzi i hi] at h1;exact (YM h1).symm
 refine (yI w s ⟨ti,o8 (cK (aA xs)+1) (aQ xs),aA xs,ms⟩ xs.length (fun i=>((q i).2.1,(q i).2.2.1)) (fun i=>(q i).2.2.2) (fun wx=>Below w w wx) (fun _ h=>h) hxl ?_ ?_ ?_).mono ?_
 ·intro wx hb hsz2;obtain ⟨a1,a2,a3,a4⟩:=hbx wx hb;have hL:=tP wx B s (aA xs) (aQ xs) (ax ms) ti.data.toList hs hsz (by omega) (by omega) hzs (by omega) hmm hso (by rw [aP];omega) hal a1 a2 a3 a4;rw [hxx,hsz2] at hL;exact hL
 ·intro wx l S hb hL h2;obtain ⟨a1,a2,a3,a4⟩:=hbx wx hb;refine xK wx (w.heap.size+2) l _ S s xs hx hxl (ua _ _) rfl hti hm (fun m hm'=>by have:=hms m hm';omega) hs h2 (qU a2 (by omega)) hL
 ·intro b l aa ac am ks kc km w0 S0 hO;obtain ⟨⟨_,_,e1,d1,d2,_⟩,⟨_,_,e2,d3,d4,_⟩,_⟩:=hO.lies
  cases e1
  cases e2
  have hn1:(o8 (cK (aA xs)+1) (aQ xs)).length=xs.length:=by rw [kE,hsl]
  rw [hn1] at d1;rw [hzl] at d3;refine Bz (w.heap.size+2) b l xs.length ks kc aa ac (fun i=>(((o8 (cK (aA xs)+1) (aQ xs)).getD i (0,0,0)).1:Int)) (fun i=>((q i).2.1,(q i).2.2.1)) (fun i=>⟨((q i).1).toArray⟩) (fun i=>(q i).2.2.2) _ (gD.thing _ _ _ _ _ _ _ _ _) _ (fun _ _ h1 h2=>h1.trans (h2.mono (by omega))) hxl d1 d2 d3 d4 ?_ ?_ ?_
  ·intro wx S hL;obtain ⟨_,_,_,_,q1,q2,_⟩:=hL.lies;rw [hn1] at q1;rw [hzl] at q2;exact ⟨q1,q2⟩
  ·intro i wx S hi hL;obtain ⟨⟨_,_,e1,_,_,g1⟩,⟨_,_,e2,_,_,g2⟩,_⟩:=hL.lies
   cases e1
   cases e2
   obtain ⟨g,rfl,_,hg⟩:=g1 (by show 0 < (o8 (cK (aA xs)+1) (aQ xs)).length;omega);obtain ⟨gc,rfl,_,hgc⟩:=g2 (by show 0 < (aA xs).length;omega);obtain ⟨z,hz1,hz2⟩:=hshi i hi;obtain ⟨c1,c2,c3⟩:=t_ _ i z hz1;have ez:(o8 (cK (aA xs)+1) (aQ xs)).getD i (0,0,0)=z:=by rw [ZJ,hz1];rfl
   refine ⟨g,gc,rfl,rfl,?_,?_,?_,hgc _ _ (zK _ _ _ (hci i hi))⟩
   ·show wx.cell? _=some (.int .i64 (((o8 (cK (aA xs)+1) (aQ xs)).getD i (0,0,0)).1:Int))
    rw [ez];exact hg _ _ c1
   ·have:=hg _ _ c2;rw [hz2] at this;exact this
   ·have:=hg _ _ c3;rw [hz2] at this;exact this
  ·intro i W hi hb hBW;obtain ⟨a1,a2,a3,a4⟩:=hbx W hb;obtain ⟨p1,p2,p3,p4,_⟩:=hx (q i) (hqi i hi).1;exact uP W (w.heap.size+2) (q i).1 (q i).2.2.2 p1 p2 p3 (by omega) hBW (qU a2 (by omega)) (a3.mono (by omega))
 ·rintro e w' ⟨vp,vm,rfl,ps,hps,h1,h2,hb⟩;refine ⟨vp,vm,rfl,ps,?_,h1,h2,hb⟩;rw [hps];have e:DA (fun i=>(q i).2) xs.length=((xs.reverse.take xs.length).map (·.2)).reverse:=by
   rw [hq];exact zD xs.reverse _ xs.length (by simp)
  rw [ZA (by simp),List.map_reverse,List.reverse_reverse] at e;exact e
theorem qK (w:World) (s ti:ByteArray) (Z:World->Value->Value->Prop)
  (HR:Hid (∀ wx,af w wx->w.heap.size < wx.heap.size->CP 49 #[s] wx fun e w'=>∃ a1 n1 c1 a2 n2 c2,e=.returned (.tuple #[.agg #[ti,.slice a1 n1 c1,.slice a2 n2 c2],true])/\Z w' (.slice a1 n1 c1) (.slice a2 n2 c2)/\Below wx wx w'))
  (HZ:Hid (∀ w1 w2 v1 v2,Z w1 v1 v2->w1.heap.size<=w2.heap.size->(∀ k,w.heap.size < k->k < w1.heap.size->w2.heap[k]? =w1.heap[k]?)->Z w2 v1 v2)):
  CP 19 #[s] w fun e w'=>∃ vp vm,e=.returned (.tuple #[.agg #[ti,vp,vm],oz])/\Z w' vp vm/\Below w w w':=by
 go_enter func19,ntmps19
 go_wp2_with fail
 have hb0:Below w w (w.alloc (Obj.cells #[Value.string {data:=#[]},Value.slice none 0 0,Value.slice none 0 0] 29)):=(ZQ _ w).alloc (ZV _) _;have hr0:(w.alloc (Obj.cells #[Value.string {data:=#[]},Value.slice none 0 0,Value.slice none 0 0] 29)).heap[w.heap.size]? =some (.cells #[Value.string {data:=#[]},Value.slice none 0 0,Value.slice none 0 0] 29 (0,0)):=ZB _ _;refine (HR.out _ hb0 (by simp)).mono ?_;rintro e w1 ⟨a1,n1,c1,a2,n2,c2,rfl,hZ,hb1⟩;have hr1:=(hb1.block w.heap.size (by simp)).trans hr0;have hbw1:Below w w w1:=hb0.trans (hb1.mono (by simp));have hz1:w.heap.size < w1.heap.size:=(ZF.1 hr1).1;have hb2:Below w1 w1 (w1.alloc (Obj.cells #[Value.string ti,Value.slice a1 n1 c1,Value.slice a2 n2 c2] 29)):=(ZQ _ w1).alloc (ZV _) _;have hr2:=(hb2.block w.heap.size hz1).trans hr1;have HR2:=ai hr2;have HZ1:=ai hZ;clear hr0 HR hr1 hr2 hb0 hb1 hZ;go_wp2_with (first
  | (refine Zi rfl 29 (.tmp 2) (.tmp 14) rfl w.heap.size #[ti,.slice a1 n1 c1,.slice a2 n2 c2] rfl rfl _ _ HR2.out (by kernel_rfl) rfl (by kernel_rfl) ?_))
 have hrow:=YK _ w.heap.size _ #[ti,.slice a1 n1 c1,.slice a2 n2 c2] _ _ HR2.out;have hoth:=fun k (hk:k≠w.heap.size)=>setRow_other (w1.alloc (Obj.cells #[Value.string ti,Value.slice a1 n1 c1,Value.slice a2 n2 c2] 29)) w.heap.size k #[ti,.slice a1 n1 c1,.slice a2 n2 c2] hk
 obtain ⟨w3,hw3⟩:∃ w3,(w1.alloc (Obj.cells #[Value.string ti,Value.slice a1 n1 c1,Value.slice a2 n2 c2] 29)).setRow w.heap.size #[ti,.slice a1 n1 c1,.slice a2 n2 c2]=w3:=⟨_,rfl⟩;have hz3:w1.heap.size<=w3.heap.size:=by rw [<-hw3];simp [World.setRow]
 rw [hw3] at hrow hoth ⊢;have hw3x:=hw3;clear hw3;have e0:w3.cell? w=ti:=Zw w3 _ 0 _ _ _ hrow;have e1:w3.cell? (zq w 1)=some (.slice a1 n1 c1):=Zw w3 _ 1 _ _ _ hrow;have e2:w3.cell? (zq w 2)=some (.slice a2 n2 c2):=Zw w3 _ 2 _ _ _ hrow;have hk3:∀ k,k≠w.heap.size->k < w1.heap.size->w3.heap[k]? =w1.heap[k]? :=fun k hk hz=>(hoth k hk).trans (hb2.block k hz)
 refine YO (v:=.tuple #[.agg #[ti,.slice a1 n1 c1,.slice a2 n2 c2],oz]) ?_ rfl ⟨_,_,rfl,HZ.out w1 w3 _ _ HZ1.out hz3 (fun k hk hz=>hk3 k (by omega) hz),?_⟩
 ·simp [results,f19,go_sem,e0,e1,e2]
 ·have hos:w3.os=w1.os/\w3.tape=w1.tape/\w3.output=w1.output:=by rw [<-hw3x];exact ⟨rfl,rfl,rfl⟩
  exact ⟨hos.1.trans hbw1.os,hos.2.1.trans hbw1.tape,hos.2.2.trans hbw1.output,ZU hbw1.size hz3,fun k hk=>(hk3 k (by omega) (by omega)).trans (hbw1.block k hk)⟩
theorem so (w:World) (B:Nat) (s ti:ByteArray) (xs:List iB) (ms:List (ByteArray×Nat)) (hx:∀ x∈xs,kx x) (hxl:xs.length<=80) (hti:ti.size<=100) (hm:ms.length<=20) (hms:∀ m∈ms,(0 < m.1.size/\m.1.size<=100)/\m.2 < xs.length) (hso:zJ ms)
  (hs:s.data.toList=fO (aA xs) (aQ xs) (ax ms) ti.data.toList) (hsz:s.size<=2000000000) (hB:B<=w.heap.size) (ht:bU B w) (hml:ft B w) (he:ng B w):
  CP 19 #[s] w fun e w'=>∃ vp vm:Value,e=.returned (.tuple #[.agg #[ti,vp,vm],oz])/\(∃ ps,ps.map (·.2)=xs.map (·.2)/\B9 (w.heap.size+1) vp ps w'/\gF (w.heap.size+1) vm ms.length (iz ms) w')/\Below w w w':=by
 refine qK w s ti (fun w' vp vm=>∃ ps:List (Value×(Int×Int×List bj)),ps.map (·.2)=xs.map (·.2)/\B9 (w.heap.size+1) vp ps w'/\gF (w.heap.size+1) vm ms.length (iz ms) w') ?_ ?_
 ·intro wx hg hz;refine (BM wx B s ti xs ms hx hxl hti hm hms hso hs hsz (ZU hB hg.size) (ht.on (Zb hg hB)) (hml.on (Zb hg hB)) (ng.on he (Zb hg hB))).mono ?_;rintro e w' ⟨vp,vm,rfl,ps,hps,h1,h2,hb⟩;obtain ⟨⟨⟨ad1,c1,rfl,_⟩,_⟩,_⟩:=id h1;obtain ⟨⟨ad2,c2,rfl,_⟩,_⟩:=id h2;exact ⟨_,_,_,_,_,_,rfl,⟨ps,hps,h1.mono (by omega),h2.mono (by omega)⟩,hb⟩
 ·rintro w1 w2 v1 v2 ⟨ps,hps,h1,h2⟩ hz hk;exact ⟨ps,hps,h1.on hz (fun k hk1 hk2=>hk k (by omega) hk2),h2.on hz (fun k hk1 hk2=>hk k (by omega) hk2)⟩
theorem tM:∀ (ps:List (Value×(Int×Int×List bj))) (i:Nat) y,ps.reverse[i]? =some y->(iy ps)[i*3]? =some (.int .i64 y.2.1)/\(iy ps)[i*3+1]? =some (.int .i64 y.2.2.1)/\(iy ps)[i*3+2]? =some y.1
 | [],i,y,h=>by simp at h
 | x::l,i,y,h=>by
  have hl:=eT l;rw [List.reverse_cons] at h;simp only [iy];by_cases hi:i < l.length
  ·rw [YF (by simpa using hi)] at h;obtain ⟨a1,a2,a3⟩:=tM l i y h;rw [YF (by omega),YF (by omega),YF (by omega)];exact ⟨a1,a2,a3⟩
  ·have hi2:i=l.length:=by
    have:=(Zx.1 h).1;simp at this;omega
   subst hi2;rw [Ze (by simp)] at h;simp at h;subst h;rw [Ze (by omega),Ze (by omega),Ze (by omega)];have e0:l.length*3 - (iy l).length=0:=by omega
   have e1:l.length*3+1 - (iy l).length=1:=by omega
   have e2:l.length*3+2 - (iy l).length=2:=by omega
   rw [e0,e1,e2];exact ⟨rfl,rfl,rfl⟩
def bj.kcs9 (o:bj):List Value:=[.int .i64 o.k,.int .i64 o.a,.int .i64 o.b,.int .i64 o.c,.int .i64 o.d,.int .i64 o.e,.int .i64 o.co,.int .i64 o.ro,.string o.s]
theorem tI:∀ (l:List bj) (k:Nat) o,l[k]? =some o->∀ j v,o.kcs9[j]? =some v->(k_ l)[k*9+j]? =some v
 | [],k,o,h=>by simp at h
 | x::l,0,o,h=>by
  intro j v hv;simp at h;subst h;have hj:j < 9:=by
   have:=(Zx.1 hv).1;simpa [bj.kcs9] using this
  have e:k_ (x::l)=x.kcs9++k_ l:=rfl;rw [e,Nat.zero_mul,YH,YF (by simpa [bj.kcs9] using hj)];exact hv
 | x::l,k+1,o,h=>by
  intro j v hv;have e:k_ (x::l)=x.kcs9++k_ l:=rfl;have h9:x.kcs9.length=9:=rfl;rw [e,Ze (by omega)];have e2:(k+1)*9+j - x.kcs9.length=k*9+j:=by omega
  rw [e2];exact tI l k o (by simpa using h) j v hv
theorem yG {w:World} {b o:Nat} {x y z:Value} (h0:w.cell? (zq b o)=some x) (h1:w.cell? (zq b (o+1))=some y) (h2:w.cell? (zq b (o+2))=some z):w.rangeAt b o [x,y,z]:=by
 intro j u hj
 match j,hj with
 | 0,hj=>simp at hj;subst hj;exact h0
 | 1,hj=>simp at hj;subst hj;exact h1
 | 2,hj=>simp at hj;subst hj;exact h2
def E3 (v:Value) (ps:List (Value×(Int×Int×List bj))) (w:World):Prop:=fB v ps.length (iy ps) w/\∀ x∈ps,fB x.1 x.2.2.2.length (k_ x.2.2.2) w
theorem AB (w:World) (t:ByteArray) (v1 v2 m1 m2:Value) (p1 p2:List (Value×(Int×Int×List bj))) (ms:List (ByteArray×Nat)) (h1:E3 v1 p1 w) (h2:E3 v2 p2 w) (he:p1.map (·.2)=p2.map (·.2)) (hl:p1.length<=80) (hop:∀ x∈p1,x.2.2.2.length<=1000000000) (hm:ms.length<=20) (g1:fB m1 ms.length (iz ms) w) (g2:fB m2 ms.length (iz ms) w):
  QB 23 #[.agg #[t,v1,m1],.agg #[t,v2,m2]] w true:=by
 have hll:p2.length=p1.length:=by have:=congrArg List.length he;simpa using this.symm
 obtain ⟨⟨aa,ca,rfl,b1,d1,f1⟩,l1⟩:=h1;obtain ⟨⟨ab,cb,rfl,b2,d2,f2⟩,l2⟩:=h2;rw [hll] at b2 f2 ⊢;obtain ⟨ad1,c1,rfl,mb1,md1,mf1⟩:=g1;obtain ⟨ad2,c2,rfl,mb2,md2,mf2⟩:=g2;refine ye w p1.length ca cb ms.length c1 c2 aa ab ad1 ad2 t (by omega) b1 b2 d1 d2 (by omega) mb1 mb2 md1 md2 ?_ ?_
 ·intro hn;obtain ⟨ga,rfl,hga,ka⟩:=mf1 hn;obtain ⟨gb,rfl,hgb,kb⟩:=mf2 hn;refine ⟨ga,gb,rfl,rfl,hga,hgb,fun i hi=>?_⟩;obtain ⟨x,hx⟩:∃ x,ms[i]? =some x:=⟨_,ZN hi⟩;obtain ⟨a1,a2⟩:=s_ ms i x hx;exact ⟨x.1,(x.2:Int),pL (ka _ _ a1) (ka _ _ a2),pL (kb _ _ a1) (kb _ _ a2)⟩
 ·intro hn;obtain ⟨ga,rfl,hga,ka⟩:=f1 hn;obtain ⟨gb,rfl,hgb,kb⟩:=f2 hn;refine ⟨ga,gb,rfl,rfl,hga,hgb,fun i hi=>?_⟩;obtain ⟨y,hy⟩:∃ y,p1.reverse[i]? =some y:=⟨_,ZN (by simpa using hi)⟩;obtain ⟨z,hz⟩:∃ z,p2.reverse[i]? =some z:=⟨_,ZN (by simp;omega)⟩;have hyz:y.2=z.2:=by
   have e1:(p1.map (·.2)).reverse[i]? =some y.2:=by rw [<-List.map_reverse,YV,hy];rfl
   have e2:(p2.map (·.2)).reverse[i]? =some z.2:=by rw [<-List.map_reverse,YV,hz];rfl
   rw [he,e2] at e1;exact (YM e1).symm
  have my:y∈p1:=Yn.1 (YJ hy);have mz:z∈p2:=Yn.1 (YJ hz);obtain ⟨a1,a2,a3⟩:=tM p1 i y hy;obtain ⟨e1,e2,e3⟩:=tM p2 i z hz;obtain ⟨oa,qa,hva,ha1,ha2,ha3⟩:=l1 y my;obtain ⟨ob,qb,hvb,hb1,hb2,hb3⟩:=l2 z mz;rw [<-hyz] at e1 e2 hvb hb1 hb3;refine ⟨y.2.1,y.2.2.1,y.2.2.2.length,qa,qb,oa,ob,yG (ka _ _ a1) (ka _ _ a2) (by rw [<-hva];exact ka _ _ a3),yG (kb _ _ e1) (kb _ _ e2) (by rw [<-hvb];exact kb _ _ e3),hop y my,ha1,hb1,ha2,hb2,?_⟩;intro hn;obtain ⟨g1,rfl,hg1,k1⟩:=ha3 hn;obtain ⟨g2,rfl,hg2,k2⟩:=hb3 hn;refine ⟨g1,g2,rfl,rfl,hg1,hg2,fun k hk=>?_⟩;obtain ⟨o,ho⟩:∃ o,y.2.2.2[k]? =some o:=⟨_,ZN hk⟩;exact ⟨o.k,o.a,o.b,o.c,o.d,o.e,o.co,o.ro,o.s,fun j v hv=>k1 _ _ (tI _ k o ho j v hv),fun j v hv=>k2 _ _ (tI _ k o ho j v hv)⟩
theorem xX {xs:List iB} (ms:List (ByteArray×Nat)) (t:ByteArray) (hx:∀ x∈xs,kx x) (hxl:xs.length<=80) (hti:t.size<=100) (hm:ms.length<=20) (hms:∀ m∈ms,m.1.size<=100/\m.2<=80):(fO (aA xs) (aQ xs) (ax ms) t.data.toList).length<=200000000:=by
 have hzl:(aA xs).length=xs.length:=by simp [aA]
 have hsl:(aQ xs).length=xs.length:=by simp [aQ]
 have hup:=cN hx hxl;have hzs:∀ z∈aQ xs,bG z.1 1 14400000/\bG z.2 1 14400000:=by
  intro z hz;simp only [aQ,YC,Yn] at hz;obtain ⟨x,hxm,rfl⟩:=hz;exact ⟨(hx x hxm).2.2.2.2.1,(hx x hxm).2.2.2.2.2⟩
 have hfont:cK (aA xs)=2*xs.length+1:=by rw [cK,hzl]
 have hms2:∀ m∈ax ms,m.1.length<=100/\m.2<=80:=by
  intro m hmm;simp only [ax,YC] at hmm;obtain ⟨y,hy,rfl⟩:=hmm;have:=hms y hy;exact ⟨by show y.1.data.toList.length<=100;rw [aP];omega,this.2⟩
 obtain ⟨hbl,hbl1,hbs,hcat,hinfo⟩:=fW (cK (aA xs)) (aQ xs) (ax ms) t.data.toList (by omega) (by omega) hzs (by rw [aP];omega) (by simp [ax];omega) hms2;have hob:(dv (aA xs) (aQ xs) (ax ms) t.data.toList).length<=2040*310:=by
  have:=fK (cI (cK (aA xs)) (aQ xs) (ax ms) t.data.toList) (cK (aA xs)) (by omega) hbs;unfold dv;omega
 have hbgl:(eH (aA xs) (aQ xs) (ax ms) t.data.toList).length<=500:=by
  unfold eH;rw [ZY,fP,dy,hzl];omega
 have hbgx:∀ x∈eH (aA xs) (aQ xs) (ax ms) t.data.toList,x<=4000000000:=by
  intro x hxm;unfold eH at hxm;rcases Zu.1 hxm with hxm | hxm
  ·have h1:=jk _ _ _ x hxm;have h2:(aC (aA xs)).length=9+(bW 0 (aA xs)).length:=by rw [aC,bi,ZY];rfl
   omega
  ·have h1:=iT _ _ _ x hxm;unfold dv at hob;omega
 have gen:∀ l:List Nat,(∀ x∈l,x<=4000000000)->(bR l).length<=20*l.length:=by
  intro l;induction l with
  | nil=>intro _;simp [bR]
  | cons a r ih=>
   intro h;have h1:=ih (fun x hx=>h x (by simp [hx]));have h2:=h_ a (by have:=h a (by simp);omega);simp only [bR,ux,ZY,ZX,ZS];omega
 have hrw:=gen _ hbgx;obtain ⟨bg,hbg⟩:∃ b,eH (aA xs) (aQ xs) (ax ms) t.data.toList=b:=⟨_,rfl⟩;obtain ⟨cat,hc⟩:∃ b,l7 (cK (aA xs)) (aQ xs) (ax ms) t.data.toList=b:=⟨_,rfl⟩;obtain ⟨inf,hi⟩:∃ b,fo (cK (aA xs)) (aQ xs) (ax ms) t.data.toList=b:=⟨_,rfl⟩;obtain ⟨O,hO⟩:∃ b,dv (aA xs) (aQ xs) (ax ms) t.data.toList=b:=⟨_,rfl⟩;obtain ⟨U,hU⟩:∃ b,aC (aA xs)=b:=⟨_,rfl⟩;rw [fO,xS,hbg,hc,hi,hO,hU];rw [hbg] at hrw hbgl;rw [hc] at hcat;rw [hi] at hinfo;rw [hO] at hob;rw [hU] at hup;have l1:=ar ((bg.length+1:Nat):Int) (by omega) (by omega);have l2:=bm [47,82,111,111,116] (cat:Int) 5 (by simp) (by omega) (by omega);have l3:=bm [47,73,110,102,111] (inf:Int) 5 (by simp) (by omega) (by omega);have l4:=ar ((U.length+O.length:Nat):Int) (by omega) (by omega);simp only [iE,fu,iL,ZY,ZX,ZS];omega
theorem s4:∀ (ms:List (ByteArray×Nat)) (p:Nat),(∀ m∈ms,p<=m.2)->ms.Pairwise (fun a b=>a.2<=b.2)->nr p (ax ms)
 | [],_,_,_=>trivial
 | m::r,p,h,hp=>⟨h m (by simp),s4 r m.2 (fun x hx=>(List.pairwise_cons.1 hp).1 x hx) (List.pairwise_cons.1 hp).2⟩
theorem qD (w:World) (lim:Int):(fU w lim).heap.size=w.heap.size+5:=by simp [fU]
theorem vH (w:World) (lim:Int):Below w w (fU w lim):=by
 unfold fU;refine ((((((ZQ _ w).alloc ?_ _).alloc ?_ _).alloc ?_ _).alloc ?_ _).alloc ?_ _) <;> simp <;> omega
theorem lQ.new (B:Nat) (w:World):lQ B [] [] (.slice none 0 0) (.slice none 0 0) w (fun _=>False):=by
 refine ⟨fun _=>False,fun _=>False,?_,⟨fun _=>False,fun _=>False,rfl,?_,fun _ e=>e.elim,?_⟩,fun _ e=>e.elim,?_⟩
 all_goals first
  | (refine ⟨?_,Yl _ _ _ _⟩;funext k;simp [ob,Value.ownBlock])
  | (funext k;simp [cT])
theorem JD.new (w:World):∃ S,JD (Wn.at w.heap.size w.heap.size (-1)) (w.heap.size+5) St.new St.new 0 0 0 ((fU w (-1)).alloc (.cells #[zp (w.heap.size+4),.string ⟨#[]⟩,.slice none 0 0,.slice none 0 0,false,oz,oz,oz] 64)) S/\∀ k,S k->w.heap.size<=k:=by
 obtain ⟨S1,h1,e1⟩:=WD.new w.heap.size w (-1) (ZV _) (by omega) (by omega);have z1:=qD w (-1);obtain ⟨u,hu⟩:∃ u,fU w (-1)=u:=⟨_,rfl⟩;rw [hu] at h1 z1 ⊢;have b2:Below u u (u.alloc (.cells #[zp (w.heap.size+4),.string ⟨#[]⟩,.slice none 0 0,.slice none 0 0,false,oz,oz,oz] 64)):=(ZQ _ u).alloc (ZV _) _;have c2:aS w.heap.size u.heap.size [.pointer (some ⟨w.heap.size+4,0,none⟩),.string ⟨#[]⟩,.slice none 0 0,.slice none 0 0,.bool false,.int .i64 0,.int .i64 0,.int .i64 0] (u.alloc (.cells #[zp (w.heap.size+4),.string ⟨#[]⟩,.slice none 0 0,.slice none 0 0,false,oz,oz,oz] 64)) (cC u.heap.size):=aS.alloc (by omega);have j2:JS w.heap.size u.heap.size (w.heap.size+4) St.new 0 0 0 (u.alloc (.cells #[zp (w.heap.size+4),.string ⟨#[]⟩,.slice none 0 0,.slice none 0 0,false,oz,oz,oz] 64)) (cT (cC u.heap.size) (fun _=>False)):=⟨[],.slice none 0 0,.slice none 0 0,rfl,_,_,c2,lQ.new _ _,fun _ _ e=>e,rfl⟩;obtain ⟨h3,_⟩:=ah.new (WD.thing (Wn.at w.heap.size w.heap.size (-1)) St.new) h1 j2 b2 (fun k e=>by
  rcases e with e | e
  ·have:k=u.heap.size:=e;omega
  ·exact e.elim)
 rw [z1] at h3;refine ⟨_,h3,?_⟩;rintro k ((e | e) | e)
 ·have:k=w.heap.size+5:=e;omega
 ·exact e.elim
 ·exact e1 k e
theorem BG (w:World) (a0:Option Addr) (len cap b off:Nat) (sc:Nat->rj) (hm:len<=9223372036854775807) (ha:0 < len->a0=some ⟨b,off,none⟩) (hf:∀ i,i < len->(sc i).fits) (ht:bU w.heap.size w) (hml:ft w.heap.size w) (he:ng w.heap.size w) (hbB:b < w.heap.size\/len=0)
  (FS:∀ i,i < len->∀ (j:Nat) u,([.int .i64 (sc i).k,.int .i64 (sc i).a,.int .i64 (sc i).b,.int .i64 (sc i).c,.int .i64 (sc i).d,.int .i64 (sc i).e,.int .i64 (sc i).co,.int .i64 (sc i).ro,.string (sc i).s]:List Value)[j]? =some u->w.cell? (zq b (off+i*9+j))=some u):
  QB 6 #[.slice a0 len cap] w true:=by
 refine yJ w (w.heap.size+5) (w.heap.size+4) a0 len cap ?_;refine (xc w (-1) 0 0).mono ?_;rintro e w1 ⟨rfl,hw1⟩;refine ⟨rfl,?_⟩;obtain ⟨S,hJ,hS⟩:=JD.new w;have hb1:Below w w w1:=by rw [hw1];exact (vH w (-1)).alloc (by rw [qD];omega) _
 rw [<-hw1] at hJ;have FS1:∀ i,i < len->∀ (j:Nat) u,([.int .i64 (sc i).k,.int .i64 (sc i).a,.int .i64 (sc i).b,.int .i64 (sc i).c,.int .i64 (sc i).d,.int .i64 (sc i).e,.int .i64 (sc i).co,.int .i64 (sc i).ro,.string (sc i).s]:List Value)[j]? =some u->w1.cell? (zq b (off+i*9+j))=some u:=fun i hi j u hu=>(hb1.cell (p:=zq b (off+i*9+j)) (by show b < w.heap.size;omega)).trans (FS i hi j u hu)
 refine (Aq (Wn.at w.heap.size w.heap.size (-1)) (w.heap.size+5) a0 len cap b off sc w1 S hm ha hf (by show (-1:Int) < 0;omega) hb1.size (ht.on hb1) hbB FS1 hJ).mono ?_;rintro e w2 ⟨rfl,s,d,c,S2,hok,hfine,hcl,et,ep,em,hJ2,m2⟩;have hb2:Below w w w2:=hb1.trans (m2.tabBelow (JD.thing (Wn.at w.heap.size w.heap.size (-1)) (w.heap.size+5) St.new St.new 0 0 0) hJ hb1.size);obtain ⟨ps,vp,vm,SC,hp,hall,hC⟩:=hJ2.parts;refine ⟨rfl,hC.at 0 _ rfl,?_⟩;obtain ⟨SW,hW,_,_⟩:=ah.snd (ah.thing (aS.thing _ _ _) (lQ.thing _ _ _ _ _)) hall;obtain ⟨xs,hx,⟨_,hxs,hcd⟩ | ⟨h,_⟩ | ⟨h,_⟩⟩:=hW
 ·have hxl:xs.length=s.pages.length:=by rw [<-hxs];simp
  have hpg:=hok.pages;have hmk:∀ m∈s.marks,m.1.size<=100/\m.2<=80:=fun m hm=>by have:=hfine.marks m hm;omega
  have hlen:=xX s.marks s.title hx (by omega) hfine.title hok.marks hmk;refine (oE _ s xs w2 SW (ZU hlen (by omega)) hcd).mono ?_;rintro e w3 ⟨rfl,rfl⟩;refine ⟨_,rfl,?_⟩;refine (so w3 w.heap.size ⟨(fO (aA xs) (aQ xs) s.mks s.title.data.toList).toArray⟩ s.title xs s.marks hx (by omega) hfine.title hok.marks (fun m hm=>by have:=hfine.marks m hm;exact ⟨⟨this.1,this.2.1⟩,by omega⟩) (s4 s.marks 0 (fun _ _=>YI _) hfine.up) (by simp;rfl) (by
   have e:(⟨(fO (aA xs) (aQ xs) s.mks s.title.data.toList).toArray⟩:ByteArray).size=(fO (aA xs) (aQ xs) (ax s.marks) s.title.data.toList).length:=by simp [ByteArray.size];rfl
   rw [e];omega) hb2.size (ht.on hb2) (hml.on hb2) (ng.on he hb2)).mono ?_
  rintro e w4 ⟨v1,v2,rfl,⟨qs,hqs,hPg,hLm⟩,hb4⟩;obtain ⟨⟨⟨a1,k1,rfl,_⟩,_⟩,_⟩:=id hPg;obtain ⟨⟨a2,k2,rfl,_⟩,_⟩:=id hLm;refine ⟨s.title,a1,qs.length,k1,a2,s.marks.length,k2,d.title,vp,vm,rfl,fun w5 hg5=>?_⟩;have hb5:af w3 w5:=af.trans hb4 hg5;have hC5:=(aS.thing _ _ _).grow hC hb5;refine ⟨yG (hC5.at 1 _ rfl) (hC5.at 2 _ rfl) (hC5.at 3 _ rfl),?_⟩;obtain ⟨SJ,hJJ,_,_⟩:=ah.fst (WD.thing _ _) hall;obtain ⟨Sb,hr,_,_⟩:=ah.snd (aS.thing _ _ _) hJJ;obtain ⟨Sp,hrp,_,_⟩:=ah.fst (ah.thing (dh.thing _ _) (aW.thing _ _ _ _ _ _)) hr;obtain ⟨So,hro,_,_⟩:=ah.mid (aW.thing _ _ _ _ _ _) (aW.thing _ _ _ _ _ _) hr;obtain ⟨Sm,hrm,_,_⟩:=ah.third (aW.thing _ _ _ _ _ _) (dh.thing _ _) hr;have hPK:E3 vp ps w5:=⟨(hrp.lies).on hb5,fun x hx=>by
   have:=(dh.lie hro (x.1,x.2.2.2) (YC.2 ⟨x,hx,rfl⟩)).1;exact this.on hb5⟩
  have hMK:fB vm d.marks.length (iz d.marks) w5:=(hrm.lies).on hb5;rw [<-em] at hMK;rw [<-et];have hqq:qs.map (·.2)=ps.map (·.2):=by rw [hqs,hxs,hp,ep]
  have hql:qs.length=xs.length:=by have:=congrArg List.length hqs;simpa using this
  refine (AB w5 s.title _ _ _ _ qs ps s.marks ⟨hPg.1.1.on hg5,fun x hx=>(hPg.2 x hx).1.on hg5⟩ hPK hqq (by omega) ?_ hok.marks (hLm.1.on hg5) hMK).mono ?_
  ·intro x hxq;have h1:x.2∈xs.map (·.2):=by rw [<-hqs];exact YC.2 ⟨x,hxq,rfl⟩
   obtain ⟨y,hy,e⟩:=YC.1 h1;have h2:=(hx y hy).2.1;have h3:=nE y.2.2.2;rw [e] at h2 h3;omega
  ·rintro e w6 ⟨rfl,hb6⟩;exact ⟨rfl,(hb2.trans (Zb hb5 hb2.size)).trans (hb6.mono (ZU hb2.size hb5.size))⟩
 ·rw [hcl] at h;cases h
 ·rw [hcl] at h;cases h
section
open Go.ChangeShapes Go.WideShapes Go.ChangeAt Go.RowKit
theorem Ka.cellsAct:Tryz.prog.cellsOf 76=9:=by kernel_rfl
theorem Ka.cellsInt:Tryz.prog.cellsOf 3=1:=by kernel_rfl
theorem Ka.cellsStr:Tryz.prog.cellsOf 9=1:=by kernel_rfl
def rj.cs (x:rj):List Value:=[.int .i64 x.k,.int .i64 x.a,.int .i64 x.b,.int .i64 x.c,.int .i64 x.d,.int .i64 x.e,.int .i64 x.co,.int .i64 x.ro,.string x.s]
section
variable {H:Type} {enc:TypeId×Value->H} {W:World}
theorem gi {n:Nat} {v:Value} {y:DataW H×List MemPlace} (h:DataW.trod enc prog W 0 (fun _=>true) true n 3 [v]=some y):∃ k:Int,v=.int .i64 k/\Di k:=by
 obtain ⟨k,hk,_,hw⟩:=DataW.trod_int underlying3 h;refine ⟨k,by simpa using hk,?_⟩;have hm:IntKind.i64.min=-9223372036854775808:=by decide
 have hM:IntKind.i64.max=9223372036854775807:=by decide
 simp [Lit.wf,hm,hM] at hw;unfold Di;omega
theorem B6 {n:Nat} {v:Value} {y:DataW H×List MemPlace} (h:DataW.trod enc prog W 0 (fun _=>true) true n 9 [v]=some y):∃ s:ByteArray,v=.string s/\s.size<=9223372036854775807:=by
 obtain ⟨s,hs,_,hz⟩:=DataW.trod_string underlying9 h;exact ⟨s,by simpa using hs,by unfold maxLen at hz;omega⟩
theorem C' {n:Nat} {cs:List Value} {x:DataW H×List MemPlace} (h:DataW.trod enc prog W 0 (fun _=>true) true n 76 cs=some x):∃ st:rj,cs=st.cs/\st.fits:=by
 obtain ⟨xs,k,_,_,hl,hx,hf⟩:=DataW.trod_struct underlying76 h;rw [Ka.cellsAct] at hl;have hx9:xs.length=9:=hx
 match cs,hl,xs,hx9 with
 | [v0,v1,v2,v3,v4,v5,v6,v7,v8],_,[y0,y1,y2,y3,y4,y5,y6,y7,y8],_=>
  have f0:DataW.trod enc prog W 0 (fun _=>true) true k 3 (List.take (Tryz.prog.cellsOf 3) (List.drop 0 _))=some y0:=hf 0 _ rfl;rw [Ka.cellsInt] at f0;have f1:DataW.trod enc prog W 0 (fun _=>true) true k 3 (List.take (Tryz.prog.cellsOf 3) (List.drop 1 _))=some y1:=hf 1 _ rfl;rw [Ka.cellsInt] at f1;have f2:DataW.trod enc prog W 0 (fun _=>true) true k 3 (List.take (Tryz.prog.cellsOf 3) (List.drop 2 _))=some y2:=hf 2 _ rfl;rw [Ka.cellsInt] at f2;have f3:DataW.trod enc prog W 0 (fun _=>true) true k 3 (List.take (Tryz.prog.cellsOf 3) (List.drop 3 _))=some y3:=hf 3 _ rfl;rw [Ka.cellsInt] at f3;have f4:DataW.trod enc prog W 0 (fun _=>true) true k 3 (List.take (Tryz.prog.cellsOf 3) (List.drop 4 _))=some y4:=hf 4 _ rfl;rw [Ka.cellsInt] at f4;have f5:DataW.trod enc prog W 0 (fun _=>true) true k 3 (List.take (Tryz.prog.cellsOf 3) (List.drop 5 _))=some y5:=hf 5 _ rfl;rw [Ka.cellsInt] at f5;have f6:DataW.trod enc prog W 0 (fun _=>true) true k 3 (List.take (Tryz.prog.cellsOf 3) (List.drop 6 _))=some y6:=hf 6 _ rfl;rw [Ka.cellsInt] at f6;have f7:DataW.trod enc prog W 0 (fun _=>true) true k 3 (List.take (Tryz.prog.cellsOf 3) (List.drop 7 _))=some y7:=hf 7 _ rfl;rw [Ka.cellsInt] at f7;have f8:DataW.trod enc prog W 0 (fun _=>true) true k 9 (List.take (Tryz.prog.cellsOf 9) (List.drop 8 _))=some y8:=hf 8 _ rfl;rw [Ka.cellsStr] at f8;obtain ⟨k0,rfl,r0⟩:=gi f0;obtain ⟨k1,rfl,r1⟩:=gi f1;obtain ⟨k2,rfl,r2⟩:=gi f2;obtain ⟨k3,rfl,r3⟩:=gi f3;obtain ⟨k4,rfl,r4⟩:=gi f4;obtain ⟨k5,rfl,r5⟩:=gi f5;obtain ⟨k6,rfl,r6⟩:=gi f6;obtain ⟨k7,rfl,r7⟩:=gi f7;obtain ⟨s8,rfl,z8⟩:=B6 f8;exact ⟨⟨k0,k1,k2,k3,k4,k5,k6,k7,s8⟩,rfl,r0,r1,r2,r3,r4,r5,r6,r7,z8⟩
instance:Inhabited rj:=⟨⟨0,0,0,0,0,0,0,0,⟨#[]⟩⟩⟩
theorem Bh {a0:Option Addr} {len cap fuel:Nat} {x:DataW H×List MemPlace} (hf:DataW.trod enc prog W 0 (fun _=>true) true fuel 41 [.slice a0 len cap]=some x):
  ∃ (b off:Nat) (sc:Nat->rj),len<=maxLen/\(0 < len->a0=some ⟨b,off,none⟩)/\(∀ i,i < len->(sc i).fits)/\
   ∀ i,i < len->b < W.heap.size/\∀ (j:Nat) u,(sc i).cs[j]? =some u->W.cell? (zq b (off+i*9+j))=some u:=by
 rcases Go.Deep.open_slice underlying41 hf with ⟨hcs,_⟩ | ⟨a,len',cap',m,n,D,Pl,hcs,_,hl,hm,hmm,_,hx⟩
 ·simp at hcs;obtain ⟨rfl,rfl,rfl⟩:=hcs;exact ⟨0,0,fun _=>default,YI _,fun h=>absurd h (by omega),fun i h=>absurd h (by omega),fun i h=>absurd h (by omega)⟩
 ·simp at hcs;obtain ⟨rfl,rfl,rfl⟩:=hcs;simp only [if_true] at hmm;obtain ⟨b,off,spot⟩:=a;have each:∀ i,i < len->∃ st:rj,st.fits/\∀ (j:Nat) u,st.cs[j]? =some u->W.cell? ((⟨b,off,spot⟩:Addr).add (i*9+j))=some u:=by
   intro i hi;obtain ⟨cs',h1,h2⟩:=hx i (by omega);rw [Ka.cellsAct] at h1;obtain ⟨_,hlen,hcell⟩:=World.cells?_some h1;obtain ⟨st,rfl,o1⟩:=C' h2;have hc:∀ (j:Nat) u,st.cs[j]? =some u->W.cell? ((⟨b,off,spot⟩:Addr).add (i*9+j))=some u:=by
    intro j u hj;have hjl:j < 9:=by
     have:=(Zx.1 hj).1;omega
    have:=hcell j hjl;rw [Go.Deep.add_add] at this;rw [this,hj]
   exact ⟨st,o1,hc⟩
  obtain ⟨sc,hsc⟩:=Go.Deep.choose_lt each;have hsp:0 < len->spot=none:=fun h0=>by
   have hk:(sc 0).cs[0]? =some (.int .i64 (sc 0).k):=by cases sc 0;rfl
   simpa [Addr.add] using World.cell?_spot ((hsc 0 h0).2 0 _ hk)
  refine ⟨b,off,sc,by omega,fun h0=>?_,fun i hi=>(hsc i hi).1,fun i hi=>?_⟩
  ·rw [hsp h0]
  ·obtain ⟨_,hc⟩:=hsc i hi;have hs:=hsp (by omega);subst hs;have hadd:∀ k,(⟨b,off,none⟩:Addr).add k=⟨b,off+k,none⟩:=fun k=>by unfold Addr.add;split <;> simp_all
   have h0:(sc i).cs[0]? =some (.int .i64 (sc i).k):=by cases sc i;rfl
   refine ⟨?_,fun j u hj=>?_⟩
   ·have:=hc 0 _ h0;rw [hadd] at this;exact ZD W ⟨b,_,none⟩ this
   ·have:=hc j u hj;rw [hadd, <-YW] at this;exact this
end
end
end Go.Proofs.YtbklfkpjoinofaaGreatDoor
