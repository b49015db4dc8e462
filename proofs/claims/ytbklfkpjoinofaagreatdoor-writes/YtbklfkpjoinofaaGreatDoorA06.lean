import Derived.Test.YtbklfkpjoinofaaGreatDoorA04
import Derived.Test.YtbklfkpjoinofaaGreatDoorA05
set_option linter.all false
set_option maxRecDepth 100000
set_option maxHeartbeats 8000000
namespace Go.Proofs.YtbklfkpjoinofaaGreatDoor
open Go.RowKit Go.Proofs.Tryz
theorem Aa {v v':Value} {w:World} {T:Nat} (hT:T < w.heap.size) (hb:v'.ownBlock=v.ownBlock\/∃ g,v'.ownBlock=some g/\w.heap.size<=g) (h:v.ownBlock≠some T):v'.ownBlock≠some T:=by
 rcases hb with e | ⟨g,e,hg⟩
 ·rw [e];exact h
 ·rw [e];intro hh;cases hh;omega
theorem SL.after {w w':World} {T base:Nat} {lim:Int} {vt v':Value} {X:List UInt8} (h:SL w T base lim vt X) (hg:w.grownBy w' vt.ownBlock) (hat:v'.ownBlock=vt.ownBlock\/∃ g,v'.ownBlock=some g/\w.heap.size<=g) (f:Bool):
  v'.ownBlock≠some T/\(∀ o,w'.cell? (zq T o)=w.cell? (zq T o))/\(∀ o,w'.frozen? (zq T o)=w.frozen? (zq T o))/\Fr (fun k=>k=T\/vt.ownBlock=some k) w ((w'.setCell (zq T 1) v').setCell (zq T 2) f):=by
 have hblk:w'.heap[T]? =w.heap[T]? :=hg.block T h.hT (fun e=>h.ne e.symm);refine ⟨Aa h.hT hat h.ne,fun o=>ZS (a:=zq T o) hblk,fun o=>ZJ (a:=zq T o) hblk,⟨hg.os,hg.tape,hg.output,?_,?_⟩⟩
 ·have:=hg.size;simpa [World.setCell] using this
 ·intro k hk hb;have h1:k≠T:=fun e=>hb (.inl e)
  rw [YP _ _ _ _ h1,YP _ _ _ _ h1];exact hg.block k hk (fun e=>hb (.inr e.symm))
theorem SL.took {w w':World} {T base:Nat} {lim:Int} {vt v':Value} {X X':List UInt8} (h:SL w T base lim vt X) (hg:w.grownBy w' vt.ownBlock) (ho:w'.ownsRow base 5 1 v' X'.length (bo X')) (hat:v'.ownBlock=vt.ownBlock\/∃ g,v'.ownBlock=some g/\w.heap.size<=g) (hf:uU lim X'.length):
  SL ((w'.setCell (zq T 1) v').setCell (zq T 2) false) T base lim v' X'/\Fr (fun k=>k=T\/vt.ownBlock=some k) w ((w'.setCell (zq T 1) v').setCell (zq T 2) false):=by
 obtain ⟨hne,hcell,hfrz,hfr⟩:=h.after hg hat false;refine ⟨⟨?_,?_,?_,?_,cr (cr ho hne _ _) hne _ _,hne,?_,?_,hf,h.lo,h.hi⟩,hfr⟩
 ·rw [ZT _ _ _ _ (by simp),ZT _ _ _ _ (by simp),hcell];exact h.c0
 ·rw [ZT _ _ _ _ (by simp)];exact ZA (u:=vt) _ _ _ (by rw [hcell];exact h.c1)
 ·exact ZA (u:=.bool false) _ _ _ (by rw [ZT _ _ _ _ (by simp),hcell];exact h.c2)
 ·intro o;rw [ZG,ZG,hfrz];exact h.fz o
 ·have:=h.hT;have:=hg.size;simp [World.setCell];omega
 ·have:=h.hb;have:=hg.size;simp [World.setCell];omega
theorem pB (s:ByteArray):s.extract 0 s.size=s:=by
 apply Zj;simp [YA]
theorem tK (w:World) (T base:Nat) (lim:Int) (vt:Value) (X:List UInt8) (s c:ByteArray) (r:Nat) (h:SL w T base lim vt X) (hl:X.length+s.size<=2000000000) (hrs:r<=s.size) (Hc:Hid (s.extract 0 r=c)) (hcs:c.size=r)
  (HRoom:Hid (QD 352 #[zp T,s.size] w r)) (hr:r=s.size):
  CP 351 #[zp T,s] w fun e w'=>e=.returned .nilIface/\∃ v' w7,w'=(w7.setCell (zq T 1) v').setCell (zq T 2) false/\w.grownBy w7 vt.ownBlock/\w7.ownsRow base 5 1 v' (X++c.data.toList).length (bo (X++c.data.toList))/\(v'.ownBlock=vt.ownBlock\/∃ g,v'.ownBlock=some g/\w.heap.size<=g):=by
 have c1:=h.c1;have c2:=h.c2;have f1:=h.fz 1;have f2:=h.fz 2;have hss:s.size<=2000000000:=by omega
 have hni:¬ (r:Int) < (s.size:Int):=by omega
 have hdi:decide ((r:Int) < (s.size:Int))=false:=Zf hni;clear hr;obtain ⟨adu,capu,hform⟩:∃ ad cap,vt=.slice ad X.length cap:=by
  rcases h.own.2 with ⟨hu,hz⟩ | ⟨gg,cap,cur,hu,_⟩
  ·exact ⟨none,0,by rw [hu,hz]⟩
  ·exact ⟨_,_,hu⟩
 subst hform;go_enter func351,ntmps351
 go_wp2_with fail
 refine HRoom.out.mono ?_;rintro e w1 ⟨rfl,q,rfl⟩;have HO:=aa (show (w.drewN q).drew.ownsRow base 5 1 (.slice adu X.length capu) X.length (bo X) from h.own);have hbd:base<=(w.drewN q).drew.heap.size:=h.hb;have HG:Hid (w.grownBy (w.drewN q).drew (Value.slice adu X.length capu).ownBlock):=⟨rfl,rfl,rfl,ZX _,fun _ _ _=>rfl⟩;go_wp2;go_region_law ((refine j' rfl (.tmp 14) (.tmp 17) 66 9 rfl underlying66 underlying9 base _ X (by simp [Act.eval,Act.put]) HO.out hbd c (by simp [Act.eval,Act.put,Hc.out]) (by omega) ?_;intro v7 w7 hO7 hg7 hat7;have hform7:∃ ad L cap,v7=.slice ad L cap:=(by rcases hO7.2 with ⟨hu,_⟩ | ⟨gg,cap,cur,hu,_⟩;exact ⟨_,_,_,hu⟩;exact ⟨_,_,_,hu⟩);obtain ⟨ad7,L7,cap7,hv7⟩:=hform7;rw [hv7] at hO7 hat7 ⊢;clear hv7;have kb:=(du HG.out hg7).block T h.hT (fun e=>h.ne e.symm);have k1:=(ZS (a:=zq T 1) kb).trans c1;have k2:=(ZS (a:=zq T 2) kb).trans c2;have kf1:=(ZJ (a:=zq T 1) kb).trans f1;have kf2:=(ZJ (a:=zq T 2) kb).trans f2))
 all_goals
  have HF:=aa (du HG.out hg7);have HO7:=aa hO7;have Hat:=aa hat7;clear hO7 hg7 hat7;go_wp2;go_ret;refine ⟨rfl,_,w7,by rw [show decide (r < s.size)=false from Zf (by omega)],HF.out,HO7.out,?_⟩;rcases Hat.out with e | e
  ·exact Zg e
  ·exact Zo ⟨_,e,by simp⟩
theorem qF (w:World) (T base:Nat) (lim:Int) (vt:Value) (X:List UInt8) (s:ByteArray) (h:SL w T base lim vt X) (hl:X.length+s.size<=2000000000) (hf:uU lim (X.length+s.size)):
  CP 351 #[zp T,s] w fun e w'=>e=.returned .nilIface/\∃ vt',SL w' T base lim vt' (X++s.data.toList)/\Fr (fun k=>k=T\/vt.ownBlock=some k) w w'/\(vt'.ownBlock=vt.ownBlock\/∃ g,vt'.ownBlock=some g/\w.heap.size<=g):=by
 have hroom:QD 352 #[zp T,s.size] w s.size:=by
  rcases hf with h0 | h0
  ·exact mx w T base lim vt X h s.size (by omega) h0
  ·by_cases hn:lim < 0
   ·exact mx w T base lim vt X h s.size (by omega) hn
   ·exact wY w T base lim vt X h s.size s.size (by omega) (by omega) (by omega) (by omega)
 refine (tK w T base lim vt X s s s.size h hl (ZX _) (pB s) rfl hroom rfl).mono ?_;rintro e w' ⟨rfl,v',w7,rfl,hg,ho,hat⟩;have hlen:(X++s.data.toList).length=X.length+s.size:=by rw [ZZ];simp
 obtain ⟨h1,h2⟩:=h.took hg ho hat (by rw [hlen];exact hf);exact ⟨rfl,v',h1,h2,hat⟩
def jp (B T:Nat) (lim:Int) (w:World) (S:Bl) (X:List UInt8):Prop:=∃ vt,SL w T B lim vt X/\S=cT (cC T) (ob vt)/\B<=T
theorem SL.same {w w':World} {T base:Nat} {lim:Int} {vt:Value} {X:List UInt8} (h:SL w T base lim vt X) (hk:∀ k,(k=T\/vt.ownBlock=some k)->w'.heap[k]? =w.heap[k]?) (hz:w.heap.size<=w'.heap.size):SL w' T base lim vt X:=by
 have hblk:=hk T (.inl rfl);have hcell:∀ o,w'.cell? (zq T o)=w.cell? (zq T o):=fun o=>ZS (a:=zq T o) hblk
 have hfrz:∀ o,w'.frozen? (zq T o)=w.frozen? (zq T o):=fun o=>ZJ (a:=zq T o) hblk
 exact ⟨by rw [hcell];exact h.c0,by rw [hcell];exact h.c1,by rw [hcell];exact h.c2,fun o=>by rw [hfrz];exact h.fz o,cM h.own (fun g hg=>hk g (.inr hg)),h.ne,ZR h.hT hz,ZN h.hb hz,h.fit,h.lo,h.hi⟩
theorem jp.thing (B T:Nat) (lim:Int) (X:List UInt8):aJ B (fun w S=>jp B T lim w S X) where
 keep:=by
  rintro w w' S ⟨vt,h,rfl,hB⟩ hk hz;exact ⟨vt,h.same hk hz,rfl,hB⟩
 lt:=by
  rintro w S k ⟨vt,h,rfl,hB⟩ hk;rcases hk with e | e
  ·rw [e];exact h.hT
  ·exact (h.own.lt k e).2
 ge:=by
  rintro w S k ⟨vt,h,rfl,hB⟩ hk;rcases hk with e | e
  ·rw [e];exact hB
  ·exact (h.own.lt k e).1
theorem y7 (T:Nat) (w:World):(method 465 89 (zp T) "Write").run prog w=.ok (351,.pointer (some ⟨T,0,none⟩)) w:=by kernel_rfl
theorem zZ (T:Nat) (w:World):(nilAhead 465 89 (zp T) "Write").run prog w=.ok (some false) w:=by kernel_rfl
theorem wb (args:Array Value) (w:World):(callFunc 351 args).run prog w=.ok (.enter 351 args) w:=by kernel_rfl
theorem xU (B T:Nat) (lim:Int) (hl:lim < 0) (D:World->Bl->List UInt8->Prop) (hD:∀ X,aJ B (fun w S=>D w S X)) (et:TypeId) (ev:Value):
  fT B (jp B T lim) D (fun _=>True) 2000000000 89 (zp T) (zp T) 351 et ev where
 thing:=jp.thing B T lim
 dead:=hD
 hn:=zZ T
 hm:=y7 T
 he:=wb
 okp:=fun _ _ _=>trivial
 kok:=fun _=>trivial
 write:=by
  rintro w S X s ⟨vt,h,rfl,hB⟩ hX;refine (qF w T B lim vt X s h hX (.inl hl)).mono ?_;rintro e w' ⟨rfl,vt',h',hF,hb⟩;refine .inl ⟨trivial,rfl,_,⟨vt',h',rfl,hB⟩,⟨hF.mono ?_,?_⟩⟩
  ·rintro k (e | e)
   ·exact .inl e
   ·exact .inr e
  ·rintro k (e | e)
   ·exact .inl (.inl e)
   ·rcases hb with e2 | ⟨g,e2,hg⟩
    ·exact .inl (.inr (by unfold ob at e ⊢;rw [<-e2];exact e))
    ·unfold ob at e;rw [e2] at e;cases e;exact .inr hg
def CK (K:World->Bl->List UInt8->Prop) (B C n0:Nat) (ty:TypeId) (q:Value) (w:World) (S:Bl) (X:List UInt8):Prop:=
 ∃ R,K w R X/\S=cT (cC C) R/\B<=C/\¬ R C/\C < w.heap.size/\n0<=X.length/\w.cell? C=some (.iface ty q)/\w.cell? (zq C 1)=((X.length - n0:Nat):Int)/\∀ o,w.frozen? (zq C o)=false
theorem CK.thing {K:World->Bl->List UInt8->Prop} {B:Nat} (hT:∀ X,aJ B (fun w S=>K w S X)) (C n0:Nat) (ty:TypeId) (q:Value) (X:List UInt8):aJ B (fun w S=>CK K B C n0 ty q w S X) where
 keep:=by
  rintro w w' S ⟨R,hK,rfl,hB,hn,hC,h0,c0,c1,fz⟩ hk hz;have hblk:=hk C (.inl rfl);refine ⟨R,(hT X).keep hK (fun k hr=>hk k (.inr hr)) hz,rfl,hB,hn,ZR hC hz,h0,?_,?_,?_⟩
  ·rw [ZS (a:=C) hblk];exact c0
  ·rw [ZS (a:=zq C 1) hblk];exact c1
  ·intro o;rw [ZJ (a:=zq C o) hblk];exact fz o
 lt:=by
  rintro w S k ⟨R,hK,rfl,hB,hn,hC,_⟩ hk;rcases hk with e | e
  ·rw [e];exact hC
  ·exact (hT X).lt hK e
 ge:=by
  rintro w S k ⟨R,hK,rfl,hB,hn,hC,_⟩ hk;rcases hk with e | e
  ·rw [e];exact hB
  ·exact (hT X).ge hK e
theorem uz (C:Nat) (w:World):(method 465 162 (zp C) "Write").run prog w=.ok (128,.pointer (some ⟨C,0,none⟩)) w:=by kernel_rfl
theorem xQ (C:Nat) (w:World):(nilAhead 465 162 (zp C) "Write").run prog w=.ok (some false) w:=by kernel_rfl
theorem yE (args:Array Value) (w:World):(callFunc 128 args).run prog w=.ok (.enter 128 args) w:=by kernel_rfl
theorem mG (ty:TypeId) (q q':Value) (f:FuncId) (hn:∀ wx,(nilAhead 465 ty q "Write").run prog wx=.ok (some false) wx) (hm:∀ wx,(method 465 ty q "Write").run prog wx=.ok (f,q') wx) (he:∀ args wx,(callFunc f args).run prog wx=.ok (.enter f args) wx)
  (w:World) (C n:Nat) (s:ByteArray) (Z:Ending->World->Prop) (c0:w.cell? C=some (.iface ty q)) (c1:w.cell? (zq C 1)=n) (f1:w.frozen? (zq C 1)=false) (hb:n<=4000000000) (hs:s.size<=4000000000)
  (HW:Hid (CP f #[q',s] (w.setCell (zq C 1) ((n:Int)+(s.size:Int):Int)) fun e w'=>∃ v,e=.returned v/\Z (.returned v) w')):
  CP 128 #[zp C,s] w Z:=by
 go_enter func128,ntmps128
 go_wp2_with fail
 refine HW.out.mono ?_;rintro e w1 ⟨v,rfl,hZ⟩;go_wp2
 first
  | exact hZ
  | (go_ret;exact hZ)
theorem bM.val {D:World->Bl->List UInt8->Prop} {ok:List UInt8->Prop} {et:TypeId} {ev:Value} {S:Bl} {w w':World} {X out:List UInt8} {G:World->Bl->Prop} {e:Ending} (h:bM D ok et ev S w X out G e w'):∃ v,e=.returned v:=by
 rcases h with ⟨_,e,_⟩ | ⟨_,e,_⟩
 ·exact ⟨_,e⟩
 ·exact ⟨_,e⟩
section
variable {K D:World->Bl->List UInt8->Prop} {ok:List UInt8->Prop} {B M:Nat} {ty:TypeId} {q q':Value} {f:FuncId} {et:TypeId} {ev:Value}
theorem fT.count (d:fT B K D ok M ty q q' f et ev) (hMx:M<=2000000000) (C n0:Nat):fT B (CK K B C n0 ty q) D ok M 162 (zp C) (zp C) 128 et ev where
 thing:=CK.thing d.thing C n0 ty q
 dead:=d.dead
 hn:=xQ C
 hm:=uz C
 he:=yE
 okp:=d.okp
 kok:=by
  rintro w S X ⟨R,hK,_⟩;exact d.kok hK
 write:=by
  rintro w S X s ⟨R,hK,rfl,hB,hn,hC,h0,c0,c1,fz⟩ hX;have hK1:K (w.setCell (zq C 1) (((X.length - n0:Nat):Int)+(s.size:Int):Int)) R X:=(d.thing X).keep hK (fun k hr=>YP _ _ _ _ (by intro e;have e':k=C:=e;exact hn (e' ▸ hr))) (by simp [World.setCell]);have hfr:Fr (fun k=>k=C) w (w.setCell (zq C 1) (((X.length - n0:Nat):Int)+(s.size:Int):Int)):=⟨rfl,rfl,rfl,by simp [World.setCell],fun k _ hb=>YP _ _ _ _ hb⟩;have hsz:(w.setCell (zq C 1) (((X.length - n0:Nat):Int)+(s.size:Int):Int)).heap.size=w.heap.size:=by simp [World.setCell]
  have hM1:Mv (cT (cC C) R) w (cT (cC C) R) (w.setCell (zq C 1) (((X.length - n0:Nat):Int)+(s.size:Int):Int)):=⟨hfr.mono (fun k e=>.inl e),fun _ h=>.inl h⟩;refine mG ty q q' f d.hn d.hm d.he w C (X.length - n0) s _ c0 c1 (fz 1) (by omega) (by omega) ((d.write _ R X s hK1 hX).mono ?_);intro e w' hS;obtain ⟨v,rfl⟩:=hS.val;refine ⟨v,rfl,?_⟩;rcases hS with ⟨hok,e,R',hK',hm⟩ | ⟨hok,e,R',Y,hD,h1,h2,hm⟩
  ·have hCR:¬ R' C:=fun hr=>(hm.new C hr).elim hn (fun e=>by omega)
   have hblk:=hm.keep (k:=C) (by omega) hn;refine .inl ⟨hok,e,cT (cC C) R',⟨R',hK',rfl,hB,hCR,by have:=hm.size;omega,by rw [ZZ];omega,?_,?_,?_⟩,hM1.trans (hm.mono (fun k e=>.inr e) (fun k e=>e.elim (fun e=>.inr (.inl e)) .inl))⟩
   ·rw [ZS (a:=C) hblk,ZT _ _ _ _ (by simp)];exact c0
   ·rw [ZS (a:=zq C 1) hblk,ZA _ _ _ c1,ZZ,aP s];congr 2;omega
   ·intro o;rw [ZJ (a:=zq C o) hblk,ZG];exact fz o
  ·exact .inr ⟨hok,e,R',Y,hD,h1,h2,hM1.trans (hm.mono (fun k e=>.inr e) (fun k e=>.inl e))⟩
end
theorem nQ (w:World) (ty:TypeId) (q:Value):CP 108 #[.iface ty q] w fun e w'=>e=.returned (zp w.heap.size)/\w'=w.alloc (.cells #[.iface ty q,oz] 208):=by
 go_enter func108,ntmps108
 go_wp2;go_ret;exact ⟨rfl,rfl⟩
theorem nk (w:World):CP 108 #[.nilIface] w fun e w'=>e=.returned (zp w.heap.size)/\w'=w.alloc (.cells #[.nilIface,oz] 208):=by
 go_enter func108,ntmps108
 go_wp2;go_ret;exact ⟨rfl,rfl⟩
theorem eE (w:World) (C:Nat) (n:Int) (h:w.cell? (zq C 1)=n):QE 127 #[zp C] w n:=by
 go_enter func127,ntmps127
 go_wp2;go_ret;exact ⟨rfl,rfl⟩
theorem ln (w:World) (C:Nat) (n:Int) (h:w.cell? (zq C 1)=n) (q:Nat):CP 127 #[zp C] (w.drewN q) fun e w'=>e=.returned n/\∃ z,w'=(w.drewN q).drewN z:=
 (eE (w.drewN q) C n h).mono fun _ _ ⟨a,b⟩=>⟨a,0,b⟩
theorem x9 (w:World) (T:Nat) (b:Bool) (h:w.cell? (zq T 2)=b):QE 94 #[zp T] w b:=by
 go_enter func94,ntmps94
 go_wp2;go_ret;exact ⟨rfl,rfl⟩
theorem jp.fresh (B:Nat) (lim:Int) (w:World) (hB:B<=w.heap.size) (h0:-9223372036854775808<=lim) (h1:lim<=9223372036854775807):jp B w.heap.size lim (w.alloc (.cells #[lim,.slice none 0 0,false] 153)) (cC w.heap.size) []:=by
 refine ⟨.slice none 0 0,⟨by simp,by simp,by simp,fun o=>by simp,Yq _ _ _ _,by simp [Value.ownBlock],by simp,by simp;omega,?_,h0,h1⟩,?_,hB⟩
 ·unfold uU;simp;omega
 ·funext k;apply propext;simp [cT,ob,Value.ownBlock]
theorem nD (w:World) (B T:Nat) (lim:Int) (S:Bl) (X:List UInt8) (h:jp B T lim w S X) (hl:X.length<=2000000000):QE 50 #[zp T] w (.string ⟨X.toArray⟩):=by
 obtain ⟨vt,hs,rfl,hB⟩:=h;have c1:=hs.c1;by_cases h0:X.length=0
 ·obtain rfl:X=[]:=Zh h0;obtain ⟨ad,cap,hv⟩:∃ ad cap,vt=.slice ad 0 cap:=by
   rcases hs.own.2 with ⟨e,_⟩ | ⟨g,cap,cur,e,_⟩
   ·exact ⟨_,_,e⟩
   ·exact ⟨_,_,e⟩
  subst hv;have hconv:(convert 66 9 (.slice ad 0 cap)).run prog w=.ok (.string ⟨([]:List UInt8).toArray⟩) w:=by
   cases ad with
   | none=>kernel_rfl
   | some a=>exact Yf _ 66 9 5 a cap [] underlying66 underlying5 underlying9 (fun j hj=>absurd hj (by simp))
  go_enter func50,ntmps50
  go_wp2;go_ret;exact ⟨rfl,rfl⟩
 ·obtain ⟨g,cap,hv,hle,hb,hcell⟩:=jJ hs.own (by omega);subst hv;have hconv:(convert 66 9 (.slice g X.length cap)).run prog w=.ok (.string ⟨X.toArray⟩) w:=by
   refine Yf _ 66 9 5 ⟨g,0,none⟩ cap X underlying66 underlying5 underlying9 ?_;intro j hj;have hadd:(⟨g,0,none⟩:Addr).add j=⟨g,j,none⟩:=by unfold Addr.add;split <;> simp_all
   rw [hadd,hcell j hj];simp [ZB,ZK hj]
  go_enter func50,ntmps50
  go_wp2;go_ret;exact ⟨rfl,rfl⟩
section
variable {K D:World->Bl->List UInt8->Prop} {ok:List UInt8->Prop} {B M:Nat} {ty:TypeId} {q q':Value} {f:FuncId} {et:TypeId} {ev:Value}
theorem CK.fresh (hT:∀ X,aJ B (fun w S=>K w S X)) {w:World} {R:Bl} {X:List UInt8} (hK:K w R X) (hB:B<=w.heap.size):CK K B w.heap.size X.length ty q (w.alloc (.cells #[.iface ty q,oz] 208)) (cT (cC w.heap.size) R) X/\Mv R w (cT (cC w.heap.size) R) (w.alloc (.cells #[.iface ty q,oz] 208)):=by
 refine ⟨⟨R,(hT X).alloc hK _,rfl,hB,fun e=>by have:=(hT X).lt hK e;omega,by simp,ZX _,by simp,by simp,fun o=>by simp⟩,⟨(Mv.grow ((ZV _ w).alloc (ZX _) _) R).fr,?_⟩⟩;rintro k (e | e)
 ·exact .inr (by rw [e];exact ZX _)
 ·exact .inl e
theorem CK.count {w:World} {S:Bl} {C n0:Nat} {X:List UInt8} (h:CK K B C n0 ty q w S X):w.cell? (zq C 1)=((X.length - n0:Nat):Int):=by
 obtain ⟨R,_,_,_,_,_,_,_,c1,_⟩:=h;exact c1
end
def eg (l:List Nat):List Value:=l.map fun n=>Value.int .i64 (n:Nat)
def rN:List (Int×Int)->List Value
 | []=>[]
 | p::r=>.int .i64 p.1::.int .i64 p.2::rN r
theorem yD (l:List (Int×Int)) (p:Int×Int):rN (l++[p])=rN l++[.int .i64 p.1,.int .i64 p.2]:=by
 induction l with
 | nil=>rfl
 | cons a r ih=>simp only [Zy,rN,ih]
theorem Tryz.infoI:(Tryz.prog.info? 3).map (fun i=>(i.zero,i.size,i.bytes))=some (some (.int .i64 0),1,8):=by kernel_rfl
theorem Tryz.infoSz:(Tryz.prog.info? 224).map (fun i=>(i.zero,i.size,i.bytes))=some (some (.agg #[oz,oz]),2,16):=by kernel_rfl
def FB (B Fb C:Nat) (begins:List Nat) (sizes:List (Int×Int)):As:=fun w S=>∃ vb vz,ah (aS B Fb [.pointer (some ⟨C,0,none⟩),vb,vz]) (ah (aW B 3 1 vb begins.length (eg begins)) (aW B 224 2 vz sizes.length (rN sizes))) w S
theorem FB.thing (B Fb C:Nat) (begins:List Nat) (sizes:List (Int×Int)):aJ B (FB B Fb C begins sizes) where
 keep:=by
  rintro w w' S ⟨vb,vz,h⟩ hk hz;exact ⟨vb,vz,(ah.thing (aS.thing _ _ _) (ah.thing (aW.thing _ _ _ _ _ _) (aW.thing _ _ _ _ _ _))).keep h hk hz⟩
 lt:=by
  rintro w S k ⟨vb,vz,h⟩ hk;exact (ah.thing (aS.thing B _ _) (ah.thing (aW.thing _ _ _ _ _ _) (aW.thing _ _ _ _ _ _))).lt h hk
 ge:=by
  rintro w S k ⟨vb,vz,h⟩ hk;exact (ah.thing (aS.thing B _ _) (ah.thing (aW.thing _ _ _ _ _ _) (aW.thing _ _ _ _ _ _))).ge h hk
theorem FB.read {B Fb C:Nat} {begins:List Nat} {sizes:List (Int×Int)} {w:World} {S:Bl} (h:FB B Fb C begins sizes w S):∃ a1 k1 a2 k2,w.cell? Fb=zp C/\w.cell? (zq Fb 1)=some (.slice a1 begins.length k1)/\w.cell? (zq Fb 2)=some (.slice a2 sizes.length k2)/\(∀ o,w.frozen? (zq Fb o)=false):=by
 obtain ⟨vb,vz,S1,S2,h1,⟨S3,S4,h3,h4,_⟩,_⟩:=h;obtain ⟨a1,k1,rfl⟩:=h3.form;obtain ⟨a2,k2,rfl⟩:=h4.form;exact ⟨a1,k1,a2,k2,h1.at 0 _ rfl,h1.at 1 _ rfl,h1.at 2 _ rfl,h1.fz⟩
theorem FB.begin {B Fb C:Nat} {begins:List Nat} {sizes:List (Int×Int)} {w:World} {S:Bl} (h:FB B Fb C begins sizes w S) (n:Nat):∃ vb,w.cell? (zq Fb 1)=some vb/\w.ownsRow B 3 1 vb begins.length (eg begins)/\vb.ownBlock≠some Fb/\
  ∀ (w1:World),Below w w w1->∀ v' w',w1.grownBy w' vb.ownBlock->w'.ownsRow B 3 1 v' (begins.length+1) (eg begins++[.int .i64 n])->(v'.ownBlock=vb.ownBlock\/v'.ownBlock=some w1.heap.size)->
   ∃ S',FB B Fb C (begins++[n]) sizes (w'.setCell (zq Fb 1) v') S'/\Mv S w S' (w'.setCell (zq Fb 1) v'):=by
 obtain ⟨vb,vz,h⟩:=h;obtain ⟨S1,S2,hc,⟨S3,S4,hb,hz,o2,rfl⟩,o1,rfl⟩:=id h;have e1:S1=cC Fb:=hc.1;have e3:S3=ob vb:=hb.1;refine ⟨vb,hc.at 1 _ rfl,hb.2,fun e=>o1 Fb (by rw [e1];rfl) (.inl (by rw [e3];exact e)),?_⟩;intro w1 hg1 v' w' hg ho hat;have hT:=ah.thing (aS.thing B Fb [.pointer (some ⟨C,0,none⟩),vb,vz]) (ah.thing (aW.thing B 3 1 vb begins.length (eg begins)) (aW.thing B 224 2 vz sizes.length (rN sizes)));have h1:=hT.grow h hg1;obtain ⟨Sb,hb1,_,k1⟩:=ah.mid (aS.thing B Fb _) (aW.thing B 224 2 vz sizes.length (rN sizes)) h1;obtain ⟨hr,hm⟩:=aW.moved (n':=begins.length+1) hg ho hat;have eb:Sb=ob vb:=hb1.1;subst eb;obtain ⟨S',hs',hm'⟩:=k1 (aW B 3 1 v' (begins.length+1) (eg begins++[.int .i64 n])) w' _ hr hm;obtain ⟨Sc,hc1,_,k2⟩:=hs'.fst (ah.thing (aW.thing B _ _ _ _ _) (aW.thing B _ _ _ _ _));obtain ⟨hc2,hm2⟩:=hc1.set 1 v' (by simp);obtain ⟨S'',hs'',hm''⟩:=k2 _ _ _ hc2 hm2;refine ⟨S'',⟨v',vz,?_⟩,((Mv.grow hg1 _).trans hm').trans hm''⟩;have e:eg (begins++[n])=eg begins++[.int .i64 n]:=by simp [eg]
 rw [e,ZZ];exact hs''
def aX (K:World->Bl->List UInt8->Prop) (B Fb C:Nat) (ty:TypeId) (q:Value) (begins:List Nat) (sizes:List (Int×Int)) (X:List UInt8):As:=ah (FB B Fb C begins sizes) (fun w S=>CK K B C 0 ty q w S X)
theorem aX.thing {K:World->Bl->List UInt8->Prop} {B:Nat} (hT:∀ X,aJ B (fun w S=>K w S X)) (Fb C:Nat) (ty:TypeId) (q:Value) (begins:List Nat) (sizes:List (Int×Int)) (X:List UInt8):aJ B (aX K B Fb C ty q begins sizes X):=
 ah.thing (FB.thing _ _ _ _ _) (CK.thing hT _ _ _ _ _)
def aL (n:Nat):List UInt8:=Lib.itoa (n:Int)++[32,48,32,111,98,106,10]
def ag (l:List Value) (k:Nat) (v:Value) (_:World):Prop:=v=l.getD k undef
theorem aq {l:List Value} {n:Nat} (k:Nat) (v:Value) (w w':World) (_:k < n) (h:ag l k v w) (_:af w w'):ag l k v w':=h
theorem ae (l:List UInt8):(⟨l.toArray⟩:ByteArray).size=l.length:=by simp [ByteArray.size]
section
variable {K D:World->Bl->List UInt8->Prop} {ok:List UInt8->Prop} {B M:Nat} {ty:TypeId} {q q':Value} {f:FuncId} {et:TypeId} {ev:Value}
theorem dD (w:World) (Fb n cap:Nat) (ad:Option Addr) (c1:w.cell? (zq Fb 1)=some (.slice ad n cap)) (hn:n<=1000000000):QE 138 #[zp Fb] w ((n+1:Nat):Int):=by
 go_enter func138,ntmps138
 go_wp2;go_ret;exact ⟨rfl,rfl⟩
theorem below_drewN {B:Nat} {w w':World} {n:Nat} (h:Below B (w.drewN n) w'):Below B w w':=⟨h.os,h.tape,h.output,h.size,h.block⟩
theorem kS (w:World) (Fb C n:Nat) (begins:List Nat) (vb:Value) (Z:Ending->World->Prop) (hB:B<=w.heap.size)
  (c0:w.cell? Fb=zp C) (c1:w.cell? (zq Fb 1)=some vb) (fz:∀ o,w.frozen? (zq Fb o)=false) (hFb:Fb < w.heap.size) (hc:w.cell? (zq C 1)=n) (hn:n<=4000000000) (hl:begins.length<=1000000) (ow:w.ownsRow B 3 1 vb begins.length (eg begins)) (ne:vb.ownBlock≠some Fb)
  (HW:Hid (∀ (w1:World),Below w w w1->∀ v' w',w1.grownBy w' vb.ownBlock->w'.ownsRow B 3 1 v' (begins.length+1) (eg begins++[.int .i64 n])->(v'.ownBlock=vb.ownBlock\/v'.ownBlock=some w1.heap.size)->
   bU B (w'.setCell (zq Fb 1) v')/\∀ w8,Below (w'.setCell (zq Fb 1) v').heap.size (w'.setCell (zq Fb 1) v') w8->CP 128 #[zp C,.string ⟨(aL (begins.length+1)).toArray⟩] w8 fun e w'=>∃ v,e=.returned v/\Z (.returned v) w')):
  CP 182 #[zp Fb] w Z:=by
 obtain ⟨ad,cap,hform⟩:∃ ad cap,vb=.slice ad begins.length cap:=by
  rcases ow.2 with ⟨hu,hz⟩ | ⟨gg,cap,cur,hu,_⟩
  ·exact ⟨none,0,by rw [hu,hz]⟩
  ·exact ⟨_,_,hu⟩
 subst hform;have f1:=fz 1;have HQ:=aa (ln w C n hc);have HN:=aa (dD w Fb begins.length cap ad c1 (by omega));obtain ⟨L,hL⟩:∃ L,begins.length=L:=⟨_,rfl⟩;rw [hL] at c1 HN hl ow HW ne;clear hL;go_enter func182,ntmps182
 go_wp2_with fail
 refine HN.out.mono ?_;rintro e w0 ⟨rfl,rfl⟩;go_wp2;go_region_law (first
  | (rw [ZO (by simp [Region.wanted])];go_wp2_with fail;go_at_call 127;refine (eE _ C n (by simpa using hc)).mono ?_;rintro e w9 ⟨rfl,rfl⟩;dsimp only)
  | (refine r6 rfl (.tmp 10) (.tmp 16) 112 rfl 3 (0:Int) 1 8 Tryz.infoI rfl (by omega) underlying112 B _ L (eg begins) (by simp [Act.eval,Act.put]) (ow.drew.alloc _) (by simp;omega) ⟨w0,0,none⟩ 1 (by simp [Act.eval,Act.put]) [.int .i64 n] rfl (qk _ _ _) (by intro u hu;simp at hu;subst hu;rfl) (by omega) (by omega) ?_;intro v7 w7 hO7 hg7 hat7;have hform7:∃ ad L cap,v7=.slice ad L cap:=(by rcases hO7.2 with ⟨hu,_⟩ | ⟨gg,cap,cur,hu,_⟩;exact ⟨_,_,_,hu⟩;exact ⟨_,_,_,hu⟩);obtain ⟨ad7,L7,cap7,hv7⟩:=hform7;rw [hv7] at hO7 hat7 ⊢;clear hv7;have kb:=(hg7.block Fb (by simp;omega) (fun e=>ne e.symm)).trans (ZC w0 _ Fb hFb);have k1:=(ZS (a:=zq Fb 1) kb).trans c1;have kf1:=(ZJ (a:=zq Fb 1) kb).trans f1;have k0:=(ZS (a:=Fb) kb).trans c0))
 all_goals
  have HX:=aa (HW.out (w0.alloc (.cells #[n] 3)).drew (((ZV _ w0).alloc (ZX _) _).drew) _ w7 hg7 hO7 hat7);have k08:(w7.setCell (zq Fb 1) (.slice ad7 L7 cap7)).cell? Fb=zp C:=by rw [ZT _ _ _ _ (by simp)];exact k0
  have hF8:Fb < (w7.setCell (zq Fb 1) (.slice ad7 L7 cap7)).heap.size:=by have:=hg7.size;simp at this;simp [World.setCell];omega
  have hB8:B<=(w7.setCell (zq Fb 1) (.slice ad7 L7 cap7)).heap.size:=by have:=hg7.size;simp at this;simp [World.setCell];omega
  clear HW HQ HN hO7 hg7 hat7 ow c1 f1 fz hc kf1 k1 kb c0 k0;go_wp2;generalize w7.setCell (zq Fb 1) (.slice ad7 L7 cap7)=w8 at HX k08 hF8 hB8 ⊢;obtain ⟨ht8,HWr⟩:=HX.out;have HWr:=aa HWr;clear HX;have HI:=aa (fun (w1:World) (hG:af w8 w1)=>bp B w1 ((L+1:Nat):Int) (by omega) (by omega) (ht8.on (YY hG hB8)));have hz2:=av ((L+1:Nat):Int) (by omega) (by omega);have HS:Hid (aL (L+1)=Lib.itoa ((L+1:Nat):Int)++[32,48,32,111,98,106,10]):=rfl;obtain ⟨si,hsi⟩:∃ si,Lib.itoa ((L+1:Nat):Int)=si:=⟨_,rfl⟩;rw [hsi] at HI hz2 HS;clear hsi;have hz:=ae si;have HA:=aa (an si [32,48,32,111,98,106,10]);refine ap 7 28 (ag [zp Fb,zp Fb,zp Fb,zp C,((L+1:Nat):Int),.string ⟨si.toArray⟩,.string ⟨(aL (L+1)).toArray⟩]) (by kernel_rfl) rfl (by kernel_rfl) aq ?_;simp only [TD];refine ⟨fun w1 hG hd=>?_,fun v0=>?_⟩
  ·go_wp2;exact RG
  refine ⟨fun w1 hG hd=>?_,fun v1=>?_⟩
  ·simp [ag,Region.binds] at hd;subst hd;go_wp2;exact RG
  refine ⟨fun w1 hG hd=>?_,fun v2=>?_⟩
  ·simp [ag,Region.binds] at hd;subst hd;go_wp2;exact RG
  refine ⟨fun w1 hG hd=>?_,fun v3=>?_⟩
  ·have c:=(Zw hG (p:=Fb) hF8).trans k08;simp [ag,Region.binds] at hd;subst hd;go_wp2;exact RG
  refine ⟨fun w1 hG hd=>?_,fun v4=>?_⟩
  ·go_wp2;exact RG
  refine ⟨fun w1 hG hd=>?_,fun v5=>?_⟩
  ·have HX:=aa (HI.out w1 hG);simp [ag,Region.binds] at hd;subst hd;go_wp2_with fail
   refine HX.out.mono ?_;rintro e w2 ⟨rfl,hB2⟩;go_wp2;exact ⟨rfl,hB2⟩
  refine ⟨fun w1 hG hd=>?_,fun v6=>?_⟩
  ·simp [ag,Region.binds] at hd;subst hd;go_wp2;exact ⟨by unfold ag;rw [HS.out];exact congrArg Value.string HA.out,af.refl _⟩
  intro w1 hG hd;have d3:=hd 3 (by omega);have d6:=hd 6 (by omega);simp [ag] at d3 d6;subst d3 d6;have HX:=aa (HWr.out w1 hG);clear hd HI HA HWr hz hz2 k08 hG;go_wp2_with fail
  refine HX.out.mono ?_;rintro e w2 ⟨v,rfl,hZ⟩;go_wp2
  first
   | exact hZ
   | (go_ret;exact hZ)
theorem iw (d:fT B K D ok M ty q q' f et ev) (hM:M<=2000000000) (w:World) (S:Bl) (Fb C:Nat) (begins:List Nat) (sizes:List (Int×Int)) (X:List UInt8) (h:aX K B Fb C ty q begins sizes X w S) (hB:B<=w.heap.size) (ht:bU B w) (hl:begins.length<=1000000) (hX:X.length+100<=M):
  CP 182 #[zp Fb] w (bM D ok et ev S w X (aL (begins.length+1)) (fun w' S'=>aX K B Fb C ty q (begins++[X.length]) sizes (X++aL (begins.length+1)) w' S')):=by
 have hTF:=aX.thing d.thing Fb C ty q begins sizes X;have hbel:∀ {S' w'},Mv S w S' w'->Below B w w':=fun m=>m.below (fun k e=>hTF.ge h e) hB
 obtain ⟨S1,hF,_,kF⟩:=h.fst (CK.thing d.thing C 0 ty q X);obtain ⟨S2,hC,_,_⟩:=h.snd (FB.thing B Fb C begins sizes);have hcnt:=hC.count;obtain ⟨a1,k1,a2,k2,c0,c1,c2,fz⟩:=hF.read;obtain ⟨vb,cb,ow,ne,kb⟩:=hF.begin X.length;have hFb:Fb < w.heap.size:=Yr w _ c0;rw [Nat.sub_zero] at hcnt;refine kS w Fb C X.length begins vb _ hB c0 cb fz hFb hcnt (by omega) hl ow ne ?_;intro w1 hg1 v' w' hg ho hat;obtain ⟨S1',hF',hm'⟩:=kb w1 hg1 v' w' hg ho hat;obtain ⟨S',hs',hm⟩:=kF _ _ _ hF' hm';have hB8:B<=(w'.setCell (zq Fb 1) v').heap.size:=ZN hB hm.size;refine ⟨ht.on (hbel hm),?_⟩;intro w8 hg8;have hs8:=(ah.thing (FB.thing B Fb C (begins++[X.length]) sizes) (CK.thing d.thing C 0 ty q X)).grow hs' hg8;obtain ⟨S8,hC8,hs88,k8⟩:=hs8.snd (FB.thing B Fb C (begins++[X.length]) sizes);have hw:=(d.count hM C 0).write w8 S8 X ⟨(aL (begins.length+1)).toArray⟩ hC8 (by
  have:=av ((begins.length+1:Nat):Int) (by omega) (by omega);rw [ae,aL,ZZ];simp only [ZY,ZW];omega)
 refine hw.mono ?_;intro e w9 hS;obtain ⟨v,rfl⟩:=hS.val;exact ⟨v,rfl,bM.pre (hm.trans (Mv.grow hg8 S')) (bM.lift hs88 (fun S9 c m9=>k8 _ w9 S9 c m9) hS)⟩
end
theorem py (w:World) (y:Nat) (K A X C D E Co Ro:Int) (t:ByteArray) (b:Bool) (HD:Hid (∀ wx,Below w w wx->QD 110 #[zp y] wx false)) (HI:Hid (∀ wx,QB 111 #[.agg #[K,A,X,C,D,E,Co,Ro,t]] wx b)):
  QB 59 #[zp y,.agg #[K,A,X,C,D,E,Co,Ro,t]] w (2:Int):=by
 go_enter func59,ntmps59
 go_wp2_with fail
 refine (HD.out _ ((ZV _ w).alloc (ZX _) _)).mono ?_;rintro e w1 ⟨rfl,q,rfl⟩;go_wp2_with fail
 refine (HI.out _).mono ?_;rintro e w0 ⟨rfl,hB1⟩;have b0:Below w w w0:=((ZV _ w).alloc (ZX _) _).trans ((below_drewN hB1).mono (by simp));have HB:=aa b0;clear b0 hB1;go_wp2;go_ret;exact ⟨rfl,HB.out⟩
theorem sH (w:World) (y:Nat) (K A X C D E Co Ro:Int) (t:ByteArray) (HD:Hid (∀ wx,Below w w wx->QD 110 #[zp y] wx true)) (HI:Hid (∀ wx,QB 111 #[.agg #[K,A,X,C,D,E,Co,Ro,t]] wx false)):
  QB 59 #[zp y,.agg #[K,A,X,C,D,E,Co,Ro,t]] w (1:Int):=by
 go_enter func59,ntmps59
 go_wp2_with fail
 refine (HD.out _ ((ZV _ w).alloc (ZX _) _)).mono ?_;rintro e w1 ⟨rfl,q,rfl⟩;go_wp2_with fail
 refine (HI.out _).mono ?_;rintro e w0 ⟨rfl,hB1⟩;have b0:Below w w w0:=((ZV _ w).alloc (ZX _) _).trans ((below_drewN hB1).mono (by simp));have HB:=aa b0;clear b0 hB1;go_wp2;go_ret;exact ⟨rfl,HB.out⟩
theorem pN (w:World) (y:Nat) (K A X C D E Co Ro:Int) (t:ByteArray) (x:ByteArray) (z:Nat) (hz:z<=1048576) (hx:x.size<=1000000000) (hl:1048576 < z+x.size) (hy:y < w.heap.size) (c14:w.cell? (zq y 14)=(z:Int)) (f14:w.frozen? (zq y 14)=false) (HD:Hid (∀ wx,Below w w wx->QD 110 #[zp y] wx true)) (HI:Hid (∀ wx,QB 111 #[.agg #[K,A,X,C,D,E,Co,Ro,t]] wx true)) (HX:Hid (∀ wx,Below w w wx->QB 112 #[.agg #[K,A,X,C,D,E,Co,Ro,t]] wx x)):
  QB 59 #[zp y,.agg #[K,A,X,C,D,E,Co,Ro,t]] w (3:Int):=by
 go_enter func59,ntmps59
 go_wp2_with fail
 refine (HD.out _ ((ZV _ w).alloc (ZX _) _)).mono ?_;rintro e w1 ⟨rfl,q,rfl⟩;go_wp2_with fail
 refine (HI.out _).mono ?_;rintro e w0 ⟨rfl,hB1⟩;have b0:Below w w w0:=((ZV _ w).alloc (ZX _) _).trans ((below_drewN hB1).mono (by simp));have HOB:Hid (∀ (w1:World),af w0 w1->w1.heap[w.heap.size]? =some (.cells #[K,A,X,C,D,E,Co,Ro,t] 31 (0,0))):=fun w1 hG=>((hG.block w.heap.size (by have:=hB1.size;simp at this;omega)).trans (hB1.block w.heap.size (by simp))).trans (ZE w _)
 have HB9:Hid (∀ (w1:World),af w0 w1->Below w w w1):=fun w1 hG=>b0.trans (hG.mono b0.size)
 clear b0 hB1;go_wp2_with fail
 refine ap 8 _ (ag [zp y,zp y,zq y 14,(z:Int),.agg #[K,A,X,C,D,E,Co,Ro,t],x,(x.size:Int),((z:Int)+(x.size:Int):Int)]) (by kernel_rfl) rfl (by kernel_rfl) aq ?_;simp only [TD]
 iterate 3
  refine ⟨fun w1 hG hd=>?_,fun v=>?_⟩
  ·try (have d:=hd _ ⟨ZM _⟩ rfl;simp only [ag,GD] at d;subst d)
   clear hd;go_wp2;exact RG
  simp only [TN]
 refine ⟨fun w1 hG hd=>?_,fun v3=>?_⟩
 ·have d2:=hd ⟨2,.data⟩ (by simp) rfl;simp only [ag,GD] at d2;clear hd;subst d2;have c:=(HB9.out w1 hG).cell (p:=zq y 14) hy;rw [c14] at c;go_wp2;exact RG
 simp only [TN];refine ⟨fun w1 hG hd=>?_,fun v4=>?_⟩
 ·clear hd;refine Zu rfl 31 (.tmp 3) rfl w.heap.size rfl 31 _ (0,0) _ (HOB.out _ hG) underlying31 rfl (by kernel_rfl) ?_;refine Zq ?_;exact ⟨rfl,rfl,rfl,af.refl _⟩
 simp only [TN]
 iterate 3
  refine ⟨fun w1 hG hd=>?_,fun v=>?_⟩
  ·try (have d:=hd _ ⟨ZM _⟩ rfl;simp only [ag,GD] at d;subst d)
   try (have d:=hd _ ⟨.tail _ (.head _)⟩ rfl;simp only [ag,GD] at d;subst d)
   clear hd;go_wp2_with fail
   first
    | exact RG
    | ((with_reducible refine (HX.out w1 (HB9.out w1 hG)).mono ?_);rintro e w2 ⟨rfl,hB2⟩;go_wp2;exact ⟨rfl,hB2⟩)
  simp only [TN]
 intro w2 hG hd;have d7:=hd 7 (by omega);simp only [ag,GD] at d7;subst d7;have hB2:=HB9.out w2 hG;have hob:=HOB.out w2 hG;clear hd HOB HB9 hG HD HI HX;have d1:decide (1048576 < (z:Int)+(x.size:Int))=true:=by simp;omega
 have d1':1048576 < (z:Int)+(x.size:Int):=by omega
 have HB:=aa hB2;clear hB2 hob c14 f14;go_wp2;go_ret;exact ⟨rfl,HB.out⟩
theorem vC (w:World) (y:Nat) (K A X C D E Co Ro:Int) (t:ByteArray) (x:ByteArray) (z:Nat) (hz:z<=1048576) (hx:x.size<=1000000000) (hl:z+x.size<=1048576) (hy:y < w.heap.size) (c14:w.cell? (zq y 14)=(z:Int)) (f14:w.frozen? (zq y 14)=false) (HD:Hid (∀ wx,Below w w wx->QD 110 #[zp y] wx true)) (HI:Hid (∀ wx,QB 111 #[.agg #[K,A,X,C,D,E,Co,Ro,t]] wx true)) (HX:Hid (∀ wx,Below w w wx->QB 112 #[.agg #[K,A,X,C,D,E,Co,Ro,t]] wx x)) (Z:Ending->World->Prop) (HR:Hid (∀ wx,Below w w wx->CP 113 #[zp y,.agg #[K,A,X,C,D,E,Co,Ro,t]] (wx.setCell (zq y 14) ((z+x.size:Nat):Int)) fun e w'=>e=.returned (.tuple #[])/\Z (.returned (0:Int)) w')):
  CP 59 #[zp y,.agg #[K,A,X,C,D,E,Co,Ro,t]] w Z:=by
 go_enter func59,ntmps59
 go_wp2_with fail
 refine (HD.out _ ((ZV _ w).alloc (ZX _) _)).mono ?_;rintro e w1 ⟨rfl,q,rfl⟩;go_wp2_with fail
 refine (HI.out _).mono ?_;rintro e w0 ⟨rfl,hB1⟩;have b0:Below w w w0:=((ZV _ w).alloc (ZX _) _).trans ((below_drewN hB1).mono (by simp));have HOB:Hid (∀ (w1:World),af w0 w1->w1.heap[w.heap.size]? =some (.cells #[K,A,X,C,D,E,Co,Ro,t] 31 (0,0))):=fun w1 hG=>((hG.block w.heap.size (by have:=hB1.size;simp at this;omega)).trans (hB1.block w.heap.size (by simp))).trans (ZE w _)
 have HB9:Hid (∀ (w1:World),af w0 w1->Below w w w1):=fun w1 hG=>b0.trans (hG.mono b0.size)
 clear b0 hB1;go_wp2_with fail
 refine ap 8 _ (ag [zp y,zp y,zq y 14,(z:Int),.agg #[K,A,X,C,D,E,Co,Ro,t],x,(x.size:Int),((z:Int)+(x.size:Int):Int)]) (by kernel_rfl) rfl (by kernel_rfl) aq ?_;simp only [TD]
 iterate 3
  refine ⟨fun w1 hG hd=>?_,fun v=>?_⟩
  ·try (have d:=hd _ ⟨ZM _⟩ rfl;simp only [ag,GD] at d;subst d)
   clear hd;go_wp2;exact RG
  simp only [TN]
 refine ⟨fun w1 hG hd=>?_,fun v3=>?_⟩
 ·have d2:=hd ⟨2,.data⟩ (by simp) rfl;simp only [ag,GD] at d2;clear hd;subst d2;have c:=(HB9.out w1 hG).cell (p:=zq y 14) hy;rw [c14] at c;go_wp2;exact RG
 simp only [TN];refine ⟨fun w1 hG hd=>?_,fun v4=>?_⟩
 ·clear hd;refine Zu rfl 31 (.tmp 3) rfl w.heap.size rfl 31 _ (0,0) _ (HOB.out _ hG) underlying31 rfl (by kernel_rfl) ?_;refine Zq ?_;exact ⟨rfl,rfl,rfl,af.refl _⟩
 simp only [TN]
 iterate 3
  refine ⟨fun w1 hG hd=>?_,fun v=>?_⟩
  ·try (have d:=hd _ ⟨ZM _⟩ rfl;simp only [ag,GD] at d;subst d)
   try (have d:=hd _ ⟨.tail _ (.head _)⟩ rfl;simp only [ag,GD] at d;subst d)
   clear hd;go_wp2_with fail
   first
    | exact RG
    | ((with_reducible refine (HX.out w1 (HB9.out w1 hG)).mono ?_);rintro e w2 ⟨rfl,hB2⟩;go_wp2;exact ⟨rfl,hB2⟩)
  simp only [TN]
 intro w2 hG hd;have d7:=hd 7 (by omega);simp only [ag,GD] at d7;subst d7;have hB2:=HB9.out w2 hG;have hob:=HOB.out w2 hG;clear hd HOB HB9 hG HD HI HX;have e1:(z:Int)+(x.size:Int)=((z+x.size:Nat):Int):=by omega
 rw [e1];obtain ⟨m,hm⟩:∃ m,m=z+x.size:=⟨_,rfl⟩;rw [<-hm] at hl HR ⊢;have d1:decide (1048576 < (m:Int))=false:=by simp;omega
 have k14:=(hB2.cell (p:=zq y 14) hy).trans c14;have kf:=(ZJ (a:=zq y 14) (hB2.block y hy)).trans f14;have HRX:=aa (HR.out w2 hB2);have HOW:Hid ((w2.setCell (zq y 14) (m:Int)).heap[w.heap.size]? =_):=(Yw w2 ⟨y,14,none⟩ w.heap.size _ (by simp;omega)).trans hob;clear hob hB2 hm e1 HR c14 f14;go_wp2_with (refine Zu rfl 31 (.tmp 3) rfl w.heap.size rfl 31 _ (0,0) _ HOW.out underlying31 rfl (by kernel_rfl) ?_)
 refine HRX.out.mono ?_;rintro e w3 ⟨rfl,hZ⟩;go_wp2_with fail
 first
  | exact hZ
  | (go_ret;exact hZ)
def eh:List UInt8:=[10,101,110,100,111,98,106,10]
def cm:List UInt8:=[37,80,68,70,45,49,46,55,10]
def aK (n:Nat) (body:List UInt8):List UInt8:=aL n++(body++eh)
section
variable {K D:World->Bl->List UInt8->Prop} {ok:List UInt8->Prop} {B M:Nat} {ty:TypeId} {q q':Value} {f:FuncId} {et:TypeId} {ev:Value}
theorem bM.seq {S S1:Bl} {w w1 w2:World} {X o1 o2:List UInt8} {G:As} {e:Ending} (m1:Mv S w S1 w1) (h:bM D ok et ev S1 w1 (X++o1) o2 G e w2):bM D ok et ev S w X (o1++o2) G e w2:=by
 rcases h with ⟨a,b,S9,c,m⟩ | ⟨a,b,S9,Y,c,d1,d2,m⟩
 ·exact .inl ⟨by rw [<-ZQ];exact a,b,S9,c,m1.trans m⟩
 ·exact .inr ⟨by rw [<-ZQ];exact a,b,S9,Y,c,(Xq _ _).trans d1,by rw [<-ZQ];exact d2,m1.trans m⟩
theorem bM.fail1 (okp:∀ X Y,ok (X++Y)->ok X) {S S':Bl} {w w':World} {X o1 o2 Y:List UInt8} {G:As} (hn:¬ ok (X++o1)) (hD:D w' S' Y) (h1:X <+:Y) (h2:Y <+:X++o1) (hm:Mv S w S' w'):bM D ok et ev S w X (o1++o2) G (.returned (.iface et ev)) w':=
 bM.fail okp (Mv.refl S w) (List.prefix_refl X) (by rw [<-ZQ];exact Xq _ _) hn hD h1 h2 hm
theorem aX.write (d:fT B K D ok M ty q q' f et ev) (hM:M<=2000000000) {w:World} {S:Bl} {Fb C:Nat} {begins:List Nat} {sizes:List (Int×Int)} {X:List UInt8} (h:aX K B Fb C ty q begins sizes X w S) (s:ByteArray) (hs:X.length+s.size<=M):
  CP 128 #[zp C,s] w (bM D ok et ev S w X s.data.toList (aX K B Fb C ty q begins sizes (X++s.data.toList))):=by
 obtain ⟨S8,hC8,hs88,k8⟩:=h.snd (FB.thing B Fb C begins sizes);refine ((d.count hM C 0).write w S8 X s hC8 hs).mono ?_;intro e w9 hS;exact bM.lift hs88 (fun S9 c m9=>k8 _ w9 S9 c m9) hS
theorem aX.facts {w:World} {S:Bl} {Fb C:Nat} {begins:List Nat} {sizes:List (Int×Int)} {X:List UInt8} (h:aX K B Fb C ty q begins sizes X w S):∃ a1 k1 a2 k2,w.cell? Fb=zp C/\w.cell? (zq Fb 1)=some (.slice a1 begins.length k1)/\w.cell? (zq Fb 2)=some (.slice a2 sizes.length k2)/\(∀ o,w.frozen? (zq Fb o)=false)/\w.cell? (zq C 1)=(X.length:Int)/\Fb < w.heap.size/\C < w.heap.size:=by
 obtain ⟨S1,S2,hF,hC,_⟩:=h;obtain ⟨a1,k1,a2,k2,c0,c1,c2,fz⟩:=hF.read;have hc:=hC.count;rw [Nat.sub_zero] at hc;exact ⟨a1,k1,a2,k2,c0,c1,c2,fz,hc,Yr w _ c0,Yr w _ hc⟩
theorem aX.bel (d:fT B K D ok M ty q q' f et ev) {w w':World} {S S':Bl} {Fb C:Nat} {begins:List Nat} {sizes:List (Int×Int)} {X:List UInt8} (h:aX K B Fb C ty q begins sizes X w S) (hB:B<=w.heap.size) (m:Mv S w S' w'):Below B w w':=m.below (fun _ e=>(aX.thing d.thing Fb C ty q begins sizes X).ge h e) hB
theorem mD (d:fT B K D ok M ty q q' f et ev) (hM:M<=2000000000) (w:World) (S:Bl) (Fb C:Nat) (begins:List Nat) (sizes:List (Int×Int)) (X:List UInt8) (body:ByteArray) (h:aX K B Fb C ty q begins sizes X w S) (hB:B<=w.heap.size) (ht:bU B w) (hl:begins.length<=1000000) (hX:X.length+body.size+200<=M):
  CP 139 #[zp Fb,body] w (bM D ok et ev S w X (aK (begins.length+1) body.data.toList) (aX K B Fb C ty q (begins++[X.length]) sizes (X++aK (begins.length+1) body.data.toList))):=by
 have hobl:(aL (begins.length+1)).length<=28:=by
  have:=av ((begins.length+1:Nat):Int) (by omega) (by omega);unfold aL;rw [ZZ];simp only [ZY,ZW];omega
 unfold aK;obtain ⟨ob1,hob⟩:∃ o,o=aL (begins.length+1):=⟨_,rfl⟩;have HBO:=aa (iw d hM w S Fb C begins sizes X h hB ht hl (by omega));rw [<-hob] at HBO hobl ⊢;obtain ⟨bg,hbg⟩:∃ bg,bg=begins++[X.length]:=⟨_,rfl⟩;rw [<-hbg] at HBO ⊢;clear hob hbg;have hbs:body.size<=2000000000:=by omega
 have HE:Hid ((body++⟨#[10,101,110,100,111,98,106,10]⟩:ByteArray).data.toList=body.data.toList++eh):=by show _=_;rw [ByteArray.data_append];simp [eh]
 have hes:(body++⟨#[10,101,110,100,111,98,106,10]⟩:ByteArray).size=body.size+8:=by rw [ByteArray.size_append];rfl
 go_enter func139,ntmps139
 go_wp2_with fail
 refine HBO.out.mono ?_;rintro e w1 (⟨hok,rfl,S1,h1,m1⟩ | ⟨hok,rfl,S1,Y,hD,p1,p2,m1⟩)
 ·have HW:=aa (aX.write d hM h1 (body++⟨#[10,101,110,100,111,98,106,10]⟩) (by rw [ZZ,hes];omega));obtain ⟨a1,k1,a2,k2,c0,c1,c2,fz,hc,hFb,hCb⟩:=h1.facts;clear h1 c1 c2 fz hc;go_wp2_with fail
  refine HW.out.mono ?_;intro e w2 hS;obtain ⟨v,rfl⟩:=hS.val;rw [HE.out] at hS;have HS:=aa (bM.seq m1 hS);clear hS HW;go_wp2
  first
   | (rw [<-ZQ X];exact HS.out)
   | (go_ret;rw [<-ZQ X];exact HS.out)
 ·go_wp2;go_ret;exact bM.fail1 d.okp hok hD p1 p2 m1
def eW (X:List UInt8):List UInt8:=if X=[] then cm else []
theorem jj (d:fT B K D ok M ty q q' f et ev) (hM:M<=2000000000) (w:World) (S:Bl) (Fb C:Nat) (begins:List Nat) (sizes:List (Int×Int)) (X:List UInt8) (h:aX K B Fb C ty q begins sizes X w S) (hX:X.length+200<=M):
  CP 85 #[zp Fb] w (bM D ok et ev S w X (eW X) (aX K B Fb C ty q begins sizes (X++eW X))):=by
 obtain ⟨a1,k1,a2,k2,c0,c1,c2,fz,hc,hFb,hCb⟩:=h.facts;have HQ:=aa (eE w C (X.length:Int) hc);by_cases h0:X=[]
 ·have HW:=aa (aX.write d hM h ⟨cm.toArray⟩ (by simp [ByteArray.size,cm];omega));unfold eW;rw [ZO h0];have hlen:(X.length:Int)=0:=by rw [h0];rfl
  rw [hlen] at HQ;unfold cm at HW;go_enter func85,ntmps85
  go_wp2_with fail
  refine HQ.out.mono ?_;rintro e w1 ⟨rfl,rfl⟩;go_wp2_with fail
  refine HW.out.mono ?_;intro e w2 hS;obtain ⟨v,rfl⟩:=hS.val;have HS:=aa hS;clear hS HW;go_wp2
  first
   | exact HS.out
   | (go_ret;exact HS.out)
 ·unfold eW;rw [ZU h0];have hpos:(0:Int) < (X.length:Int):=by have:=Xw.2 h0;omega
  have hok:ok X:=by
   obtain ⟨S1,S2,hF,⟨R,hK,_⟩,_⟩:=h;exact d.kok hK
  go_enter func85,ntmps85
  go_wp2_with fail
  refine HQ.out.mono ?_;rintro e w1 ⟨rfl,rfl⟩;go_wp2;go_ret;exact bM.nil hok (by rw [Zm];exact h) (Mv.refl _ _)
end
def fC:List UInt8:=[10,101,110,100,115,116,114,101,97,109,10,101,110,100,111,98,106,10]
def cX (n:Nat):List UInt8:=[60,60,32,47,70,105,108,116,101,114,32,47,70,108,97,116,101,68,101,99,111,100,101,32,47,76,101,110,103,116,104,32]++aD (n:Int)++[32,62,62,10,115,116,114,101,97,109,10]
theorem gJ (n:Int) (h0:-9223372036854775808<=n) (h1:n<=9223372036854775807):(aD n).length<=25:=by
 have:=av n h0 h1;unfold aD;rw [ZZ];simp only [ZY,ZW];omega
theorem FB.sized {B Fb C:Nat} {begins:List Nat} {sizes:List (Int×Int)} {w:World} {S:Bl} (h:FB B Fb C begins sizes w S) (p:Int×Int):∃ vz,w.cell? (zq Fb 2)=some vz/\w.ownsRow B 224 2 vz sizes.length (rN sizes)/\vz.ownBlock≠some Fb/\
  ∀ (w1:World),Below w w w1->∀ v' w',w1.grownBy w' vz.ownBlock->w'.ownsRow B 224 2 v' (sizes.length+1) (rN sizes++[.int .i64 p.1,.int .i64 p.2])->(v'.ownBlock=vz.ownBlock\/v'.ownBlock=some w1.heap.size)->
   ∃ S',FB B Fb C begins (sizes++[p]) (w'.setCell (zq Fb 2) v') S'/\Mv S w S' (w'.setCell (zq Fb 2) v'):=by
 obtain ⟨vb,vz,h⟩:=h;obtain ⟨S1,S2,hc,⟨S3,S4,hb,hz,o2,rfl⟩,o1,rfl⟩:=id h;have e1:S1=cC Fb:=hc.1;have e4:S4=ob vz:=hz.1;refine ⟨vz,hc.at 2 _ rfl,hz.2,fun e=>o1 Fb (by rw [e1];rfl) (.inr (by rw [e4];exact e)),?_⟩;intro w1 hg1 v' w' hg ho hat;have hT:=ah.thing (aS.thing B Fb [.pointer (some ⟨C,0,none⟩),vb,vz]) (ah.thing (aW.thing B 3 1 vb begins.length (eg begins)) (aW.thing B 224 2 vz sizes.length (rN sizes)));have h1:=hT.grow h hg1;obtain ⟨Sb,hb1,_,k1⟩:=ah.third (aS.thing B Fb _) (aW.thing B 3 1 vb begins.length (eg begins)) h1;obtain ⟨hr,hm⟩:=aW.moved (n':=sizes.length+1) hg ho hat;have eb:Sb=ob vz:=hb1.1;subst eb;obtain ⟨S',hs',hm'⟩:=k1 (aW B 224 2 v' (sizes.length+1) (rN sizes++[.int .i64 p.1,.int .i64 p.2])) w' _ hr hm;obtain ⟨Sc,hc1,_,k2⟩:=hs'.fst (ah.thing (aW.thing B _ _ _ _ _) (aW.thing B _ _ _ _ _));obtain ⟨hc2,hm2⟩:=hc1.set 2 v' (by simp);obtain ⟨S'',hs'',hm''⟩:=k2 _ _ _ hc2 hm2;refine ⟨S'',⟨vb,v',?_⟩,((Mv.grow hg1 _).trans hm').trans hm''⟩;rw [yD,ZZ];exact hs''
theorem AI (w:World) (x y:Value) (t:TypeId):∀ j u,[x,y][j]? =some u->(w.alloc (.cells #[x,y] t)).cell? ((⟨w,0,none⟩:Addr).add j)=some u:=by
 intro j u hj
 match j,hj with
 | 0,hj=>simp at hj;subst hj;simp [Addr.add]
 | 1,hj=>simp at hj;subst hj;simp [Addr.add]
 | (j+2),hj=>simp at hj
section
variable {K D:World->Bl->List UInt8->Prop} {ok:List UInt8->Prop} {B M:Nat} {ty:TypeId} {q q':Value} {f:FuncId} {et:TypeId} {ev:Value}
theorem mS (d:fT B K D ok M ty q q' f et ev) (hM:M<=2000000000) (w:World) (S:Bl) (Fb C:Nat) (begins:List Nat) (sizes:List (Int×Int)) (X:List UInt8) (n:Nat) (h:aX K B Fb C ty q begins sizes X w S) (hB:B<=w.heap.size) (ht:bU B w) (hl:begins.length<=1000000) (hX:X.length+1000<=M) (hn:n<=2000000000):
  CP 166 #[zp Fb,n] w (bM D ok et ev S w X (fC++aK (begins.length+1) (Lib.itoa (n:Int))) (aX K B Fb C ty q (begins++[X.length+18]) sizes (X++(fC++aK (begins.length+1) (Lib.itoa (n:Int)))))):=by
 obtain ⟨a1,k1,a2,k2,c0,c1,c2,fz,hc,hFb,hCb⟩:=h.facts;have HW:=aa (aX.write d hM h ⟨fC.toArray⟩ (by simp [ByteArray.size,fC];omega));have hbel:=fun {S' w'} (m:Mv S w S' w')=>aX.bel d h hB m
 have hlen:fC.length=18:=rfl;have hi:=av (n:Int) (by omega) (by omega);have HI:=aa (fun (w1:World) (ht1:bU B w1)=>bp B w1 (n:Int) (by omega) (by omega) ht1);obtain ⟨si,hsi⟩:∃ si,Lib.itoa (n:Int)=si:=⟨_,rfl⟩;rw [hsi] at HI hi ⊢;clear hsi;have HW2:Hid (CP 128 #[zp C,.string ⟨#[10,101,110,100,115,116,114,101,97,109,10,101,110,100,111,98,106,10]⟩] w (bM D ok et ev S w X fC (aX K B Fb C ty q begins sizes (X++fC)))):=by
  have:=HW.out;rw [show (⟨fC.toArray⟩:ByteArray).data.toList=fC by simp] at this;exact this
 clear HW;go_enter func166,ntmps166
 go_wp2_with fail
 refine HW2.out.mono ?_;rintro e w1 (⟨hok,rfl,S1,h1,m1⟩ | ⟨hok,rfl,S1,Y,hD,p1,p2,m1⟩)
 ·have hB1:B<=w1.heap.size:=ZN hB m1.size;have ht1:bU B w1:=ht.on (hbel m1);have HX:=aa (HI.out w1 ht1);clear HW2 HI c0 c1 c2 fz hc;go_wp2_with fail
  refine HX.out.mono ?_;rintro e w2 ⟨rfl,hg2⟩;have h2:=(aX.thing d.thing Fb C ty q begins sizes (X++fC)).grow h1 hg2;have HO:=aa (mD d hM w2 S1 Fb C begins sizes (X++fC) ⟨si.toArray⟩ h2 (ZN hB1 hg2.size) (ht1.on (hg2.mono hB1)) hl (by rw [ZZ,hlen,ae];omega));clear HX h1 h2;go_wp2_with fail
  refine HO.out.mono ?_;intro e w3 hS;obtain ⟨v,rfl⟩:=hS.val;have HS:=aa (bM.seq (m1.trans (Mv.grow hg2 S1)) hS);clear hS HO;go_wp2
  first
   | (rw [<-ZQ X, <-hlen, <-ZZ];exact HS.out)
   | (go_ret;rw [<-ZQ X, <-hlen, <-ZZ];exact HS.out)
 ·go_wp2;go_ret;exact bM.fail1 d.okp hok hD p1 p2 m1
theorem kU (d:fT B K D ok M ty q q' f et ev) (hM:M<=2000000000) (w:World) (S:Bl) (Fb C:Nat) (begins:List Nat) (sizes:List (Int×Int)) (X:List UInt8) (W H:Int) (h:aX K B Fb C ty q begins sizes X w S) (hB:B<=w.heap.size) (ht:bU B w) (hl:begins.length<=100000) (hz:sizes.length<=100000) (hX:X.length+1000<=M):
  CP 167 #[zp Fb,W,H] w (bM D ok et ev S w X (eW X++(aL (begins.length+1)++cX (begins.length+2))) (aX K B Fb C ty q (begins++[X.length+(eW X).length]) (sizes++[(W,H)]) (X++(eW X++(aL (begins.length+1)++cX (begins.length+2)))))):=by
 have hbel:=fun {S' w'} (m:Mv S w S' w')=>aX.bel d h hB m
 have hbl:(eW X).length<=9:=by unfold eW;split <;> simp [cm]
 have hobl:(aL (begins.length+1)).length<=28:=by
  have:=av ((begins.length+1:Nat):Int) (by omega) (by omega);unfold aL;rw [ZZ];simp only [ZY,ZW];omega
 have HB:=aa (jj d hM w S Fb C begins sizes X h (by omega));obtain ⟨b0,hb0⟩:∃ b,eW X=b:=⟨_,rfl⟩;rw [hb0] at HB hbl ⊢;clear hb0;go_enter func167,ntmps167
 go_wp2_with fail
 refine HB.out.mono ?_;rintro e w1 (⟨hok,rfl,S1,h1,m1⟩ | ⟨hok,rfl,S1,Y,hD,p1,p2,m1⟩)
 rotate_left
 ·go_wp2;go_ret;exact bM.fail1 d.okp hok hD p1 p2 m1
 have hB1:B<=w1.heap.size:=ZN hB m1.size;have ht1:bU B w1:=ht.on (hbel m1);have HO:=aa (iw d hM w1 S1 Fb C begins sizes (X++b0) h1 hB1 ht1 (by omega) (by rw [ZZ];omega));have hbel1:=fun {S' w'} (m:Mv S1 w1 S' w')=>aX.bel d h1 hB1 m
 clear HB;go_wp2_with fail
 refine HO.out.mono ?_;rintro e w2 (⟨hok2,rfl,S2,h2,m2⟩ | ⟨hok2,rfl,S2,Y,hD,p1,p2,m2⟩)
 rotate_left
 ·go_wp2;go_ret;exact bM.seq m1 (bM.fail1 d.okp hok2 hD p1 p2 m2)
 have hB2:B<=w2.heap.size:=ZN hB1 m2.size;have ht2:bU B w2:=ht1.on (hbel1 m2);clear HO;obtain ⟨a1,k1,a2,k2,c0,c1,c2,fz,hc,hFb,hCb⟩:=h2.facts;rw [ZZ,Yn] at c1;have hnl:=gJ ((begins.length+2:Nat):Int) (by omega) (by omega);have hfl:(cX (begins.length+2)).length<=80:=by
  unfold cX;rw [ZZ,ZZ];simp only [ZY,ZW];omega
 have HWr:=aa (fun (w1:World) (hG:af w2 w1)=>aX.write d hM ((aX.thing d.thing Fb C ty q _ _ _).grow h2 hG) ⟨(cX (begins.length+2)).toArray⟩ (by rw [ZZ,ZZ,ae];omega));have HN:=aa (fun (w1:World) (hG:af w2 w1)=>dD w1 Fb (begins.length+1) k1 a1 ((Zw hG (p:=zq Fb 1) hFb).trans c1) (by omega));have HI:=aa (fun (w1:World) (hG:af w2 w1)=>i' B w1 ((begins.length+2:Nat):Int) (by omega) (by omega) (ht2.on (YY hG hB2)));have HF:Hid (cX (begins.length+2)=[60,60,32,47,70,105,108,116,101,114,32,47,70,108,97,116,101,68,101,99,111,100,101,32,47,76,101,110,103,116,104,32]++aD ((begins.length+2:Nat):Int)++[32,62,62,10,115,116,114,101,97,109,10]):=rfl;have HH2:=aa h2;clear h2 c1 c2 fz hc;obtain ⟨fl,hfe⟩:∃ fl,cX (begins.length+2)=fl:=⟨_,rfl⟩;rw [hfe] at HWr HF hfl;have HFe:=aa hfe;obtain ⟨sn,hsn⟩:∃ sn,aD ((begins.length+2:Nat):Int)=sn:=⟨_,rfl⟩;rw [hsn] at HI HF hnl;clear hfe hsn;have hz1:=ae sn;have hz2:=ae ([60,60,32,47,70,105,108,116,101,114,32,47,70,108,97,116,101,68,101,99,111,100,101,32,47,76,101,110,103,116,104,32]++sn);rw [ZZ] at hz2;simp only [ZY,ZW] at hz2;obtain ⟨s7,hs7⟩:∃ s7,[60,60,32,47,70,105,108,116,101,114,32,47,70,108,97,116,101,68,101,99,111,100,101,32,47,76,101,110,103,116,104,32]++sn=s7:=⟨_,rfl⟩;rw [hs7] at HF hz2;have HA1:Hid ((⟨#[60,60,32,47,70,105,108,116,101,114,32,47,70,108,97,116,101,68,101,99,111,100,101,32,47,76,101,110,103,116,104,32]⟩:ByteArray)++⟨sn.toArray⟩=⟨s7.toArray⟩):=by
  show _=_
  rw [<-hs7];exact an [60,60,32,47,70,105,108,116,101,114,32,47,70,108,97,116,101,68,101,99,111,100,101,32,47,76,101,110,103,116,104,32] sn
 have HA2:=aa (an s7 [32,62,62,10,115,116,114,101,97,109,10]);clear hs7;go_wp2;refine ap 9 45 (ag [zp Fb,zp Fb,zp Fb,zp C,zp Fb,((begins.length+1+1:Nat):Int),.string ⟨sn.toArray⟩,.string ⟨s7.toArray⟩,.string ⟨fl.toArray⟩]) (by kernel_rfl) rfl (by kernel_rfl) aq ?_;simp only [TD];refine ⟨fun w3 hG hd=>?_,fun v0=>?_⟩
 ·go_wp2;exact RG
 refine ⟨fun w3 hG hd=>?_,fun v1=>?_⟩
 ·simp [ag,Region.binds] at hd;subst hd;go_wp2;exact RG
 refine ⟨fun w3 hG hd=>?_,fun v2=>?_⟩
 ·simp [ag,Region.binds] at hd;subst hd;go_wp2;exact RG
 refine ⟨fun w3 hG hd=>?_,fun v3=>?_⟩
 ·have c:=(Zw hG (p:=Fb) hFb).trans c0;simp [ag,Region.binds] at hd;subst hd;go_wp2;exact RG
 refine ⟨fun w3 hG hd=>?_,fun v4=>?_⟩
 ·go_wp2;exact RG
 refine ⟨fun w3 hG hd=>?_,fun v5=>?_⟩
 ·have HX:=aa (HN.out w3 hG);simp [ag,Region.binds] at hd;subst hd;go_wp2_with fail
  refine HX.out.mono ?_;rintro e w4 ⟨rfl,rfl⟩;go_wp2;exact RG
 refine ⟨fun w3 hG hd=>?_,fun v6=>?_⟩
 ·have HX:=aa (HI.out w3 hG);simp [ag,Region.binds] at hd;subst hd;go_wp2_with fail
  refine HX.out.mono ?_;rintro e w4 ⟨rfl,hB4⟩;go_wp2;exact ⟨rfl,hB4⟩
 refine ⟨fun w3 hG hd=>?_,fun v7=>?_⟩
 ·simp [ag,Region.binds] at hd;subst hd;go_wp2;exact ⟨by unfold ag;exact congrArg Value.string HA1.out,af.refl _⟩
 refine ⟨fun w3 hG hd=>?_,fun v8=>?_⟩
 ·simp [ag,Region.binds] at hd;subst hd;go_wp2;exact ⟨by unfold ag;rw [HF.out];exact congrArg Value.string HA2.out,af.refl _⟩
 intro w3 hG hd;have d3:=hd 3 (by omega);have d8:=hd 8 (by omega);simp [ag] at d3 d8;subst d3 d8;have HX:=aa (HWr.out w3 hG);clear hd HI HN HWr HA1 HA2 HF hz1 hz2 hnl c0;go_wp2_with fail
 refine HX.out.mono ?_;rintro e w4 (⟨hok3,rfl,S3,h3,m3⟩ | ⟨hok3,rfl,S3,Y,hD,p1,p2,m3⟩)
 rotate_left
 ·go_wp2;go_ret;rw [HFe.out];exact bM.seq m1 (bM.seq m2 (bM.pre (Mv.grow hG S2) (.inr ⟨hok3,rfl,S3,Y,hD,p1,p2,m3⟩)))
 obtain ⟨S1',hF3,hsub3,kF3⟩:=h3.fst (CK.thing d.thing C 0 ty q _);obtain ⟨vz,cz,ow,ne,kz⟩:=hF3.sized (W,H);have hFb3:Fb < w4.heap.size:=Yr w4 _ cz;have fz3:=hF3.read.choose_spec.choose_spec.choose_spec.choose_spec.2.2.2;have f2:=fz3 2;obtain ⟨az,kzc,hform⟩:∃ ad cap,vz=.slice ad sizes.length cap:=by
  rcases ow.2 with ⟨hu,hz⟩ | ⟨gg,cap,cur,hu,_⟩
  ·exact ⟨none,0,by rw [hu,hz]⟩
  ·exact ⟨_,_,hu⟩
 subst hform;have hB4:B<=w4.heap.size:=ZN hB2 (ZN hG.size m3.size);have HK:=aa (fun w1 hg1 v' w' hg ho hat=>(kz w1 hg1 v' w' hg ho hat));have HKF:=aa kF3;clear kz kF3 hF3 h3;obtain ⟨Lz,hLz⟩:∃ Lz,sizes.length=Lz:=⟨_,rfl⟩;rw [hLz] at cz ow ne HK hz;clear hLz HX;go_wp2_with (at_builtin;refine bQ rfl (.tmp 37) (.tmp 41) 164 rfl 224 (.agg #[oz,oz]) 2 16 Tryz.infoSz rfl (by omega) underlying164 B _ Lz (rN sizes) rfl (ow.alloc _) (by simp;omega) ⟨w4,0,none⟩ 1 rfl [.int .i64 W,.int .i64 H] rfl (AI _ _ _ _) (by intro u hu;simp at hu;rcases hu with rfl | rfl <;> rfl) (by omega) (by omega) ?_)
 intro v7 w7 hO7 hg7 hat7;have HX:=aa (HK.out _ ((ZV _ w4).alloc (ZX _) _) v7 w7 hg7 hO7 (by simpa using hat7));have hform7:∃ ad L cap,v7=.slice ad L cap:=by
  rcases hO7.2 with ⟨hu,_⟩ | ⟨gg,cap,cur,hu,_⟩
  ·exact ⟨_,_,_,hu⟩
  ·exact ⟨_,_,_,hu⟩
 obtain ⟨ad7,L7,cap7,hv7⟩:=hform7;rw [hv7] at HX ⊢;clear hv7 HK;have kb:=(hg7.block Fb (by simp;omega) (fun e=>ne e.symm)).trans (ZC w4 _ Fb hFb3);have k2:=(ZS (a:=zq Fb 2) kb).trans cz;have kf2:=(ZJ (a:=zq Fb 2) kb).trans f2;clear kb cz f2 ow hO7 hg7 hat7;go_wp2;go_ret;obtain ⟨S5,hF5,m5⟩:=HX.out;obtain ⟨S6,h6,m6⟩:=HKF.out _ _ _ hF5 m5;rw [HFe.out];refine bM.seq m1 (bM.seq m2 (bM.pre (Mv.grow hG S2) (.inl ⟨hok3,rfl,S6,?_,m3.trans m6⟩)));rw [<-ZQ X, <-ZQ (X++b0), <-ZZ];exact h6
end
end Go.Proofs.YtbklfkpjoinofaaGreatDoor
