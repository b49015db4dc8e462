import Derived.Test.YtbklfkpjoinofaaGreatDoorA06
import Derived.Deep.CutRange
set_option linter.all false
set_option maxRecDepth 100000
set_option maxHeartbeats 8000000
namespace Go.Proofs.YtbklfkpjoinofaaGreatDoor
open Go.RowKit Go.Proofs.Tryz
theorem PK.same {w w':World} {P base:Nat} {nx vf vw vs:Value} {F:List UInt8} {H n A B:Nat} {W:List UInt8} {Sn:List Int} {at_ gone:Nat} (h:PK w P base nx vf vw vs F H n A B W Sn at_ gone) (hk:∀ k,(k=P\/vf.ownBlock=some k\/vw.ownBlock=some k\/vs.ownBlock=some k)->w'.heap[k]? =w.heap[k]?) (hz:w.heap.size<=w'.heap.size):
  PK w' P base nx vf vw vs F H n A B W Sn at_ gone:=by
 have hblk:=hk P (.inl rfl);have hcell:∀ o,w'.cell? (zq P o)=w.cell? (zq P o):=fun o=>ZQ (a:=zq P o) hblk
 have hfrz:∀ o,w'.frozen? (zq P o)=w.frozen? (zq P o):=fun o=>ZH (a:=zq P o) hblk
 have hb:=h.bw;have hp:=h.pw;refine ⟨⟨?_,?_,?_,?_,?_,?_,cM hb.own (fun g hg=>hk g (.inr (.inl hg))),hb.ne,ZU hb.hb hz,hb.hH⟩,
  ⟨?_,?_,?_,?_,?_,cM hp.ow (fun g hg=>hk g (.inr (.inr (.inl hg)))),cM hp.os (fun g hg=>hk g (.inr (.inr (.inr hg)))),hp.nw,hp.ns,ZK hp.hP hz⟩,?_,?_,?_,?_,h.hn,h.dfw,h.dfs,h.dws⟩
 ·rw [hcell];exact hb.c1
 ·rw [hcell];exact hb.c2
 ·rw [hcell];exact hb.c3
 ·rw [hfrz];exact hb.f1
 ·rw [hfrz];exact hb.f2
 ·rw [hfrz];exact hb.f3
 ·rw [hcell];exact hp.c6
 ·rw [hcell];exact hp.c7
 ·rw [hcell];exact hp.c8
 ·rw [hcell];exact hp.c9
 ·rw [hfrz];exact hp.f7
 ·rw [hcell];exact h.c0
 ·rw [hcell];exact h.c4
 ·rw [hcell];exact h.c5
 ·intro o;rw [hfrz];exact h.fz o
theorem se.same {w w':World} {P base:Nat} {nx vf vw vs:Value} {s:dE} (h:se w P base nx vf vw vs s) (hk:∀ k,(k=P\/vf.ownBlock=some k\/vw.ownBlock=some k\/vs.ownBlock=some k)->w'.heap[k]? =w.heap[k]?) (hz:w.heap.size<=w'.heap.size):se w' P base nx vf vw vs s:=by
 obtain ⟨F,H,n,a,b,c⟩:=h;exact ⟨F,H,n,a.same hk hz,b,c⟩
def Bk (P:Nat) (vf vw vs:Value) (R:Bl):Bl:=fun k=>k=P\/ob vf k\/ob vw k\/ob vs k\/R k
def PD (K:World->Bl->List UInt8->Prop) (B P:Nat) (nx:Value) (w:World) (S:Bl) (s:dE) (X:List UInt8):Prop:=
 ∃ vf vw vs R,se w P B nx vf vw vs s/\K w R X/\S=Bk P vf vw vs R/\B<=P/\¬ R P/\oo (ob vf) R/\oo (ob vw) R/\oo (ob vs) R
theorem PD.thing {K:World->Bl->List UInt8->Prop} {B:Nat} (hT:∀ X,aJ B (fun w S=>K w S X)) (P:Nat) (nx:Value) (s:dE) (X:List UInt8):aJ B (fun w S=>PD K B P nx w S s X) where
 keep:=by
  rintro w w' S ⟨vf,vw,vs,R,hH,hK,rfl,r⟩ hk hz;refine ⟨vf,vw,vs,R,hH.same (fun k hk'=>hk k ?_) hz,(hT X).keep hK (fun k hr=>hk k (.inr (.inr (.inr (.inr hr))))) hz,rfl,r⟩;rcases hk' with e | e | e | e
  ·exact .inl e
  ·exact .inr (.inl e)
  ·exact .inr (.inr (.inl e))
  ·exact .inr (.inr (.inr (.inl e)))
 lt:=by
  rintro w S k ⟨vf,vw,vs,R,⟨F,H,n,hP,_⟩,hK,rfl,r⟩ hk;rcases hk with e | e | e | e | e
  ·rw [e];exact hP.pw.hP
  ·exact (hP.bw.own.lt k e).2
  ·exact (hP.pw.ow.lt k e).2
  ·exact (hP.pw.os.lt k e).2
  ·exact (hT X).lt hK e
 ge:=by
  rintro w S k ⟨vf,vw,vs,R,⟨F,H,n,hP,_⟩,hK,rfl,hB,r⟩ hk;rcases hk with e | e | e | e | e
  ·rw [e];exact hB
  ·exact (hP.bw.own.lt k e).1
  ·exact (hP.pw.ow.lt k e).1
  ·exact (hP.pw.os.lt k e).1
  ·exact (hT X).ge hK e
theorem PD.turn {K:World->Bl->List UInt8->Prop} {B:Nat} (hT:∀ X,aJ B (fun w S=>K w S X)) {P:Nat} {nx vf vw vs vf' vw' vs':Value} {w w':World} {R:Bl} {s':dE} {X:List UInt8} (hK:K w R X) (hP:B<=P) (nP:¬ R P) (of:oo (ob vf) R) (ow:oo (ob vw) R) (os:oo (ob vs) R)
  (hH:se w' P B nx vf' vw' vs' s') (hF:Fr (fun k=>k=P\/ob vf k\/ob vw k\/ob vs k) w w') (bf:vf'.ownBlock=vf.ownBlock\/∃ g,vf'.ownBlock=some g/\w.heap.size<=g) (bw:vw'.ownBlock=vw.ownBlock\/∃ g,vw'.ownBlock=some g/\w.heap.size<=g) (bs:vs'.ownBlock=vs.ownBlock\/∃ g,vs'.ownBlock=some g/\w.heap.size<=g):
  PD K B P nx w' (Bk P vf' vw' vs' R) s' X/\Mv (Bk P vf vw vs R) w (Bk P vf' vw' vs' R) w':=by
 have q:∀ {v v':Value},(v'.ownBlock=v.ownBlock\/∃ g,v'.ownBlock=some g/\w.heap.size<=g)->∀ k,ob v' k->ob v k\/w.heap.size<=k:=by
  intro v v' hb k hk;rcases hb with e | ⟨g,e,hg⟩
  ·exact .inl (by unfold ob at hk ⊢;rw [<-e];exact hk)
  ·unfold ob at hk;rw [e] at hk;cases hk;exact .inr hg
 have off:∀ {v v':Value},(v'.ownBlock=v.ownBlock\/∃ g,v'.ownBlock=some g/\w.heap.size<=g)->oo (ob v) R->oo (ob v') R:=by
  intro v v' hb ho k hk hr;rcases q hb k hk with e | e
  ·exact ho k e hr
  ·have:=(hT X).lt hK hr;omega
 have hKw:K w' R X:=(hT X).keep hK (fun k hr=>hF.keep k ((hT X).lt hK hr) (by
  rintro (e | e | e | e)
  ·exact nP (e ▸ hr)
  ·exact of k e hr
  ·exact ow k e hr
  ·exact os k e hr)) hF.size
 refine ⟨⟨vf',vw',vs',R,hH,hKw,rfl,hP,nP,off bf of,off bw ow,off bs os⟩,⟨hF.mono ?_,?_⟩⟩
 ·rintro k (e | e | e | e)
  ·exact .inl e
  ·exact .inr (.inl e)
  ·exact .inr (.inr (.inl e))
  ·exact .inr (.inr (.inr (.inl e)))
 ·rintro k (e | e | e | e | e)
  ·exact .inl (.inl e)
  ·exact (q bf k e).imp (fun e=>.inr (.inl e)) id
  ·exact (q bw k e).imp (fun e=>.inr (.inr (.inl e))) id
  ·exact (q bs k e).imp (fun e=>.inr (.inr (.inr (.inl e)))) id
  ·exact .inl (.inr (.inr (.inr (.inr e))))
section
variable {K D:World->Bl->List UInt8->Prop} {ok:List UInt8->Prop} {B M:Nat} {ty:TypeId} {q q':Value} {f:FuncId} {et:TypeId} {ev:Value}
theorem Aw (d:fT B K D ok M ty q q' f et ev) (w:World) (S:Bl) (P:Nat) (s:dE) (X Y C:List UInt8) (h:PD K B P (.iface ty q) w S s X) (hI:PI s Y C) (ha:s.at_ < s.W.length):
  CP 198 #[zp P] w fun e w'=>e=.returned (.tuple #[])/\∃ S',PD K B P (.iface ty q) w' S' (di s) X/\PI (di s) Y C/\s.at_ < (di s).at_/\Mv S w S' w':=by
 obtain ⟨vf,vw,vs,R,hH,hK,rfl,hP,nP,of,ow,os⟩:=h;refine (xZ w P B _ vf vw vs s hH hI.ok ha).mono ?_;rintro e w' ⟨rfl,vf',h1,h2,h3,h4,h5,h6⟩;obtain ⟨a,b⟩:=PD.turn d.thing hK hP nP of ow os h1 (h5.mono (by
  rintro k (e | e | e)
  ·exact .inl e
  ·exact .inr (.inl e)
  ·exact .inr (.inr (.inr e)))) h6 (.inl rfl) (.inl rfl)
 exact ⟨rfl,_,a,hI.step h4 h2,h3,b⟩
theorem zQ (d:fT B K D ok M ty q q' f et ev) (w:World) (S:Bl) (P:Nat) (s:dE) (X Y C:List UInt8) (h:PD K B P (.iface ty q) w S s X) (hI:PI s Y C):
  CP 199 #[zp P] w fun e w'=>e=.returned (.tuple #[])/\∃ S',PD K B P (.iface ty q) w' S' (ce s) X/\PI (ce s) Y C/\Mv S w S' w':=by
 obtain ⟨vf,vw,vs,R,hH,hK,rfl,hP,nP,of,ow,os⟩:=h;refine (Ai w P B _ vf vw vs s hH hI.ok).mono ?_;rintro e w' ⟨rfl,vw',h1,h2,h3,h4⟩;obtain ⟨a,b⟩:=PD.turn d.thing hK hP nP of ow os h1 (h4.mono (by
  rintro k (e | e)
  ·exact .inl e
  ·exact .inr (.inr (.inl e)))) (.inl rfl) (.inl h3) (.inl rfl)
 exact ⟨rfl,_,a,hI.forget h2,b⟩
theorem tX (w:World) (P g cap:Nat) (F:List UInt8) (Z:Ending->World->Prop) (hn:∀ wx,(nilAhead 465 ty q "Write").run prog wx=.ok (some false) wx) (hm:∀ wx,(method 465 ty q "Write").run prog wx=.ok (f,q') wx) (he:∀ args wx,(callFunc f args).run prog wx=.ok (.enter f args) wx)
  (c1:w.cell? (zq P 1)=some (.slice g F.length cap)) (f1:w.frozen? (zq P 1)=false) (hF:0 < F.length) (hF2:F.length<=60000000) (hcap:F.length<=cap) (hcm:cap<=9223372036854775807)
  (hconv:(convert 66 9 (.slice g F.length cap)).run prog w=.ok (.string ⟨F.toArray⟩) w)
  (HW:Hid (CP f #[q',.string ⟨F.toArray⟩] (w.setCell (zq P 1) (.slice g 0 cap)) fun e w'=>∃ v,e=.returned v/\Z (.returned v) w')):
  CP 200 #[zq P 1,.iface ty q] w Z:=by
 go_enter func200,ntmps200
 go_wp2_with fail
 refine HW.out.mono ?_;rintro e w1 ⟨v,rfl,hZ⟩;go_wp2
 first
  | exact hZ
  | (go_ret;exact hZ)
theorem ws (w:World) (P:Nat) (ad:Option Addr) (cap:Nat) (c1:w.cell? (zq P 1)=some (.slice ad 0 cap)):
  QE 200 #[zq P 1,.iface ty q] w .nilIface:=by
 go_enter func200,ntmps200
 go_wp2;go_ret;exact ⟨rfl,rfl⟩
theorem PK.reset2 {w:World} {P base g cap:Nat} {nx vw vs:Value} {F:List UInt8} {H n A B:Nat} {W:List UInt8} {Sn:List Int} {at_ gone:Nat} (h:PK w P base nx (.slice g F.length cap) vw vs F H n A B W Sn at_ gone):
  PK (w.setCell (zq P 1) (.slice g 0 cap)) P base nx (.slice g 0 cap) vw vs [] H n A B W Sn at_ gone:=by
 have hb:=h.bw;have hp:=h.pw;have hown:w.ownsRow base 5 1 (.slice g 0 cap) 0 []:=by
  refine ⟨rfl,?_⟩;rcases hb.own.2 with ⟨e,_⟩ | ⟨g',cap',cur,e,a1,a2,a3,a4,a5,_⟩
  ·cases e
  ·cases e;exact .inr ⟨g,cap,cur,rfl,a1,a2,by omega,a4,a5,by simp⟩
 refine ⟨⟨ZC _ _ _ hb.c1,?_,?_,?_,?_,?_,cr hown hb.ne _ _,hb.ne,by have:=hb.hb;simpa [World.setCell] using this,hb.hH⟩,
  ⟨?_,?_,?_,?_,?_,cr hp.ow hp.nw _ _,cr hp.os hp.ns _ _,hp.nw,hp.ns,by have:=hp.hP;simpa [World.setCell] using this⟩,?_,?_,?_,?_,h.hn,h.dfw,h.dfs,h.dws⟩
 ·rw [ZV _ _ _ _ (by simp)];exact hb.c2
 ·rw [ZV _ _ _ _ (by simp)];exact hb.c3
 ·rw [ZL];exact hb.f1
 ·rw [ZL];exact hb.f2
 ·rw [ZL];exact hb.f3
 ·rw [ZV _ _ _ _ (by simp)];exact hp.c6
 ·rw [ZV _ _ _ _ (by simp)];exact hp.c7
 ·rw [ZV _ _ _ _ (by simp)];exact hp.c8
 ·rw [ZV _ _ _ _ (by simp)];exact hp.c9
 ·rw [ZL];exact hp.f7
 ·rw [ZV _ _ _ _ (by simp)];exact h.c0
 ·rw [ZV _ _ _ _ (by simp)];exact h.c4
 ·rw [ZV _ _ _ _ (by simp)];exact h.c5
 ·intro o;rw [ZL];exact h.fz o
theorem lY (w:World) (P o:Nat) (x:Value):Fr (fun k=>k=P) w (w.setCell (zq P o) x):=
 ⟨rfl,rfl,rfl,by simp [World.setCell],fun k _ hb=>YX _ _ _ _ hb⟩
theorem Ay (d:fT B K D ok M ty q q' f et ev) (w:World) (S:Bl) (P:Nat) (s:dE) (X:List UInt8) (h:PD K B P (.iface ty q) w S s X) (hl:X.length+(j1 s).length<=M) (hl2:(j1 s).length<=60000000):
  CP 200 #[zq P 1,.iface ty q] w (aU D ok et ev S w X (j1 s) (fun w' S'=>PD K B P (.iface ty q) w' S' (fM s) (X++j1 s))):=by
 obtain ⟨vf,vw,vs,R,⟨F,H,n,hK,hN,hnb⟩,hKR,rfl,hP,nP,of,ow,os⟩:=h;obtain ⟨e1,e2,e3⟩:=AN hN hnb hK.hn;have hbw:=hK.bw;rw [e1] at hl hl2;have hst:∀ vf1 w1,PK w1 P B (.iface ty q) vf1 vw vs [] H n s.A s.B s.W s.Sn s.at_ s.gone->se w1 P B (.iface ty q) vf1 vw vs (fM s):=by
  intro vf1 w1 h1;refine ⟨[],H,n,h1,?_,?_⟩
  ·rw [e2];simp [dt,Pm.cL]
  ·rw [e3];simp
 by_cases h0:F.length=0
 ·obtain rfl:F=[]:=Zp h0;obtain ⟨ad,cap,hv⟩:∃ ad cap,vf=.slice ad 0 cap:=by
   rcases hbw.own.2 with ⟨e,_⟩ | ⟨g,cap,cur,e,_⟩
   ·exact ⟨_,_,e⟩
   ·exact ⟨_,_,e⟩
  refine (ws w P ad cap (hv ▸ hbw.c1)).mono ?_;rintro e w' ⟨rfl,rfl⟩;rw [e1];exact aU.nil (d.kok hKR) ⟨vf,vw,vs,R,hst _ _ hK,by rw [YZ];exact hKR,rfl,hP,nP,of,ow,os⟩ (Mv.refl _ _)
 ·obtain ⟨g,cap,hv,hle,hb,hcell⟩:=jJ hbw.own (by omega);have hcm:cap<=9223372036854775807:=by
   rcases hbw.own.2 with ⟨_,h0⟩ | ⟨g',cap',cur,hv',_,_,_,hcm,_⟩
   ·omega
   ·rw [hv] at hv';cases hv';exact hcm
  subst hv;have hK1:=hK.reset2;obtain ⟨hD1,hM1⟩:=PD.turn d.thing hKR hP nP of ow os (hst _ _ hK1) ((lY w P 1 (.slice g 0 cap)).mono (fun k e=>.inl e)) (.inl rfl) (.inl rfl) (.inl rfl);clear hD1;have hKR1':K (w.setCell (zq P 1) (.slice g 0 cap)) R X:=(d.thing X).keep hKR (fun k hr=>YX _ _ _ _ (by intro e;have e':k=P:=e;exact nP (e' ▸ hr))) (by simp [World.setCell]);have hFl:(⟨F.toArray⟩:ByteArray).data.toList=F:=by simp
  have hw:=d.write _ R X ⟨F.toArray⟩ hKR1' (by simp [ByteArray.size];omega);rw [hFl] at hw;refine tX w P g cap F _ d.hn d.hm d.he hbw.c1 hbw.f1 (by omega) (by omega) hle hcm ?_ (hw.mono ?_)
  ·refine Yx _ 66 9 5 ⟨g,0,none⟩ cap F underlying66 underlying5 underlying9 ?_;intro j hj;have hadd:(⟨g,0,none⟩:Addr).add j=⟨g,j,none⟩:=by unfold Addr.add;split <;> simp_all
   rw [hadd,hcell j hj];simp [ZJ,ZM hj]
  ·rintro e w' (⟨hok,rfl,R',hK',hm'⟩ | ⟨hok,rfl,R',Y,hD,h1,h2,hm'⟩)
   ·refine ⟨_,rfl,.inl ⟨by rw [e1];exact hok,rfl,Bk P (.slice g 0 cap) vw vs R',?_,?_⟩⟩
    ·have hnP:¬ R P:=nP;have hkeep:∀ k,(k=P\/(Value.slice g 0 cap).ownBlock=some k\/vw.ownBlock=some k\/vs.ownBlock=some k)->w'.heap[k]? =(w.setCell (zq P 1) (.slice g 0 cap)).heap[k]? :=by
      intro k hk;have hlt:k < (w.setCell (zq P 1) (.slice g 0 cap)).heap.size:=by
       rcases hk with e | e | e | e
       ·rw [e];exact hK1.pw.hP
       ·exact (hK1.bw.own.lt k e).2
       ·exact (hK1.pw.ow.lt k e).2
       ·exact (hK1.pw.os.lt k e).2
      refine hm'.keep hlt ?_;rcases hk with e | e | e | e
      ·rw [e];exact nP
      ·exact of k e
      ·exact ow k e
      ·exact os k e
     have hoff:∀ k,(k=P\/(Value.slice g 0 cap).ownBlock=some k\/vw.ownBlock=some k\/vs.ownBlock=some k)->¬ R' k:=by
      intro k hk hr;have hlt:k < (w.setCell (zq P 1) (.slice g 0 cap)).heap.size:=by
       rcases hk with e | e | e | e
       ·rw [e];exact hK1.pw.hP
       ·exact (hK1.bw.own.lt k e).2
       ·exact (hK1.pw.ow.lt k e).2
       ·exact (hK1.pw.os.lt k e).2
      rcases hm'.new k hr with e' | e'
      ·rcases hk with e | e | e | e
       ·exact nP (e ▸ e')
       ·exact of k e e'
       ·exact ow k e e'
       ·exact os k e e'
      ·omega
     refine ⟨_,vw,vs,R',hst _ _ (hK1.same hkeep hm'.size),by rw [e1];exact hK',rfl,hP,hoff P (.inl rfl),fun k e=>hoff k (.inr (.inl e)),fun k e=>hoff k (.inr (.inr (.inl e))),fun k e=>hoff k (.inr (.inr (.inr e)))⟩
    ·refine hM1.trans (hm'.mono (fun k e=>.inr (.inr (.inr (.inr e)))) ?_);rintro k (e | e | e | e | e)
     ·exact .inr (.inl e)
     ·exact .inr (.inr (.inl e))
     ·exact .inr (.inr (.inr (.inl e)))
     ·exact .inr (.inr (.inr (.inr (.inl e))))
     ·exact .inl e
   ·refine ⟨_,rfl,?_⟩;rw [e1];refine .inr ⟨hok,rfl,R',Y,hD,h1,h2,hM1.trans (hm'.mono (fun k e=>.inr (.inr (.inr (.inr e)))) (fun k e=>.inl e))⟩
end
theorem wk (s:ByteArray) (N:Nat):(s.extract 0 N).data.toList=s.data.toList.take N:=by
 have:=Pm.iP s 0 N;rwa [YF,List.drop_zero] at this
theorem vR (s:ByteArray) (N:Nat) (h:N<=s.size):(s.extract N s.size).data.toList=s.data.toList.drop N:=by
 have:=Pm.iP s N (s.size - N);rw [show N+(s.size - N)=s.size by omega] at this;rw [this,Zy (by simp)]
theorem PK.sum2 {w:World} {P base:Nat} {nx vf vw vs:Value} {F:List UInt8} {H n A B:Nat} {W:List UInt8} {Sn:List Int} {at_ gone:Nat} (h:PK w P base nx vf vw vs F H n A B W Sn at_ gone) (A' B':Nat):
  PK ((w.setCell (zq P 4) (.int .u32 A')).setCell (zq P 5) (.int .u32 B')) P base nx vf vw vs F H n A' B' W Sn at_ gone:=by
 have hb:=h.bw;have hp:=h.pw;have cellO:∀ o,o≠4->o≠5->((w.setCell (zq P 4) (.int .u32 A')).setCell (zq P 5) (.int .u32 B')).cell? (zq P o)=w.cell? (zq P o):=by
  intro o a b;rw [ZV _ _ _ _ (by intro e;cases e;omega),ZV _ _ _ _ (by intro e;cases e;omega)]
 have frzO:∀ o,((w.setCell (zq P 4) (.int .u32 A')).setCell (zq P 5) (.int .u32 B')).frozen? (zq P o)=w.frozen? (zq P o):=by
  intro o;rw [ZL,ZL]
 have two:∀ {v:Value} {e:TypeId} {m:Nat} {xs:List Value},w.ownsRow base e 1 v m xs->v.ownBlock≠some P->((w.setCell (zq P 4) (.int .u32 A')).setCell (zq P 5) (.int .u32 B')).ownsRow base e 1 v m xs:=
  fun ho hne=>cr (cr ho hne _ _) hne _ _
 have hsz:((w.setCell (zq P 4) (.int .u32 A')).setCell (zq P 5) (.int .u32 B')).heap.size=w.heap.size:=by simp [World.setCell]
 refine ⟨⟨?_,?_,?_,?_,?_,?_,two hb.own hb.ne,hb.ne,by rw [hsz];exact hb.hb,hb.hH⟩,⟨?_,?_,?_,?_,?_,two hp.ow hp.nw,two hp.os hp.ns,hp.nw,hp.ns,by rw [hsz];exact hp.hP⟩,?_,?_,?_,?_,h.hn,h.dfw,h.dfs,h.dws⟩
 ·rw [cellO 1 (by omega) (by omega)];exact hb.c1
 ·rw [cellO 2 (by omega) (by omega)];exact hb.c2
 ·rw [cellO 3 (by omega) (by omega)];exact hb.c3
 ·rw [frzO];exact hb.f1
 ·rw [frzO];exact hb.f2
 ·rw [frzO];exact hb.f3
 ·rw [cellO 6 (by omega) (by omega)];exact hp.c6
 ·rw [cellO 7 (by omega) (by omega)];exact hp.c7
 ·rw [cellO 8 (by omega) (by omega)];exact hp.c8
 ·rw [cellO 9 (by omega) (by omega)];exact hp.c9
 ·rw [frzO];exact hp.f7
 ·rw [cellO 0 (by omega) (by omega)];exact h.c0
 ·rw [ZV _ _ _ _ (by simp)];exact ZC _ _ _ h.c4
 ·exact ZC (u:=.int .u32 B) _ _ _ (by rw [ZV _ _ _ _ (by simp)];exact h.c5)
 ·intro o;rw [frzO];exact h.fz o
theorem PK.window2 {w w7:World} {P base:Nat} {nx vf vw vs v7:Value} {F:List UInt8} {H n A B:Nat} {W W':List UInt8} {Sn:List Int} {at_ gone:Nat} (h:PK w P base nx vf vw vs F H n A B W Sn at_ gone)
  (hg:w.grownBy w7 vw.ownBlock) (ho:w7.ownsRow base 5 1 v7 W'.length (cells W')) (hat:v7.ownBlock=vw.ownBlock\/∃ g,v7.ownBlock=some g/\w.heap.size<=g):
  PK (w7.setCell (zq P 6) v7) P base nx vf v7 vs F H n A B W' Sn at_ gone/\Fr (fun k=>k=P\/vw.ownBlock=some k) w (w7.setCell (zq P 6) v7):=by
 have hb:=h.bw;have hp:=h.pw;have hblk:w7.heap[P]? =w.heap[P]? :=hg.block P hp.hP (fun e=>hp.nw e.symm);have hcell:∀ o,w7.cell? (zq P o)=w.cell? (zq P o):=fun o=>ZQ (a:=zq P o) hblk
 have hfrz:∀ o,w7.frozen? (zq P o)=w.frozen? (zq P o):=fun o=>ZH (a:=zq P o) hblk
 have hf7:Fr (fun k=>vw.ownBlock=some k) w w7:=⟨hg.os,hg.tape,hg.output,hg.size,fun k hk hb=>hg.block k hk (fun e=>hb e.symm)⟩;have hfr:Fr (fun k=>k=P\/vw.ownBlock=some k) w (w7.setCell (zq P 6) v7):=(hf7.mono (fun k e=>.inr e)).trans (lY w7 P 6 v7) (fun k _ e=>.inl e);have hne:v7.ownBlock≠some P:=by
  rcases hat with e | ⟨g,e,hg'⟩
  ·rw [e];exact hp.nw
  ·rw [e];intro hh;cases hh;have:=hp.hP;omega
 have cC:∀ {v:Value} {e:TypeId} {m:Nat} {xs:List Value},w.ownsRow base e 1 v m xs->v.ownBlock≠some P->iV v vw->(w7.setCell (zq P 6) v7).ownsRow base e 1 v m xs:=
  fun ho hne hd=>cr (cM ho (fun g hgv=>hf7.keep g (ho.lt g hgv).2 (fun e=>hd g hgv e))) hne _ _
 have cellO:∀ o,o≠6->(w7.setCell (zq P 6) v7).cell? (zq P o)=w.cell? (zq P o):=by
  intro o a;rw [ZV _ _ _ _ (by intro e;cases e;omega),hcell]
 have frzO:∀ o,(w7.setCell (zq P 6) v7).frozen? (zq P o)=w.frozen? (zq P o):=by
  intro o;rw [ZL,hfrz]
 have hsz:(w7.setCell (zq P 6) v7).heap.size=w7.heap.size:=by simp [World.setCell]
 refine ⟨⟨⟨?_,?_,?_,?_,?_,?_,cC hb.own hb.ne h.dfw,hb.ne,by rw [hsz];exact ZU hb.hb hg.size,hb.hH⟩,⟨?_,?_,?_,?_,?_,cr ho hne _ _,cC hp.os hp.ns h.dws.symm,hne,hp.ns,by rw [hsz];exact ZK hp.hP hg.size⟩,?_,?_,?_,?_,h.hn,(jl hb.own hat h.dfw.symm).symm,h.dfs,jl hp.os hat h.dws⟩,hfr⟩
 ·rw [cellO 1 (by omega)];exact hb.c1
 ·rw [cellO 2 (by omega)];exact hb.c2
 ·rw [cellO 3 (by omega)];exact hb.c3
 ·rw [frzO];exact hb.f1
 ·rw [frzO];exact hb.f2
 ·rw [frzO];exact hb.f3
 ·exact ZC (u:=vw) _ _ _ (by rw [hcell];exact hp.c6)
 ·rw [cellO 7 (by omega)];exact hp.c7
 ·rw [cellO 8 (by omega)];exact hp.c8
 ·rw [cellO 9 (by omega)];exact hp.c9
 ·rw [frzO];exact hp.f7
 ·rw [cellO 0 (by omega)];exact h.c0
 ·rw [cellO 4 (by omega)];exact h.c4
 ·rw [cellO 5 (by omega)];exact h.c5
 ·intro o;rw [frzO];exact h.fz o
theorem PD.read {K:World->Bl->List UInt8->Prop} {B P:Nat} {nx:Value} {w:World} {S:Bl} {s:dE} {X:List UInt8} (h:PD K B P nx w S s X):∃ ad cap,w.cell? (zq P 6)=some (.slice ad s.W.length cap)/\w.cell? (zq P 7)=s.at_/\w.cell? P=some nx/\P < w.heap.size:=by
 obtain ⟨vf,vw,vs,R,⟨F,H,n,hK,_⟩,_⟩:=h;obtain ⟨ad,cap,hv⟩:∃ ad cap,vw=.slice ad s.W.length cap:=by
  rcases hK.pw.ow.2 with ⟨hu,hz⟩ | ⟨gg,cap,cur,hu,_⟩
  ·exact ⟨none,0,by rw [hu,hz]⟩
  ·exact ⟨_,_,hu⟩
 exact ⟨ad,cap,hv ▸ hK.pw.c6,hK.pw.c7,hK.c0,hK.pw.hP⟩
theorem PI.out_le {s:dE} {X D:List UInt8} (h:PI s X D):X.length+(j1 s).length<=1179651:=by
 have hl:(j1 s).length=s.nb / 8:=ia _ _;have h1:=h.sz;have h2:=h.ok.hat;have h3:=h.ok.hW;rw [hl];omega
theorem eC (s:ByteArray):s.data.toList.length=s.size:=by simp
section
variable {K D:World->Bl->List UInt8->Prop} {ok:List UInt8->Prop} {B M:Nat} {ty:TypeId} {q q':Value} {f:FuncId} {et:TypeId} {ev:Value}
theorem PD.isOk (d:fT B K D ok M ty q q' f et ev) {P:Nat} {nx:Value} {w:World} {S:Bl} {s:dE} {X:List UInt8} (h:PD K B P nx w S s X):ok X:=by
 obtain ⟨vf,vw,vs,R,_,hK,_⟩:=h;exact d.kok hK
theorem Az (d:fT B K D ok M ty q q' f et ev) (w:World) (S0:Bl) (P:Nat) (st:dE) (X0 Y C:List UInt8) (T:ByteArray) (h:PD K B P (.iface ty q) w S0 st (X0++Y)) (hI:PI st Y C) (hC:C.length+T.size<=1048576) (hR:st.W.length - st.at_ < 261) (hM:X0.length+1200000<=M):
  CP 151 #[zp P,T] w (aU D ok et ev S0 w (X0++Y) (bL st T.data.toList).1 (fun w' S'=>PD K B P (.iface ty q) w' S' (bL st T.data.toList).2 (X0++(Y++(bL st T.data.toList).1))/\PI (bL st T.data.toList).2 (Y++(bL st T.data.toList).1) (C++T.data.toList)/\(bL st T.data.toList).2.W.length - (bL st T.data.toList).2.at_ < 261)):=by
 obtain ⟨Ro,hRo⟩:∃ Ro,Ro=(bL st T.data.toList).1:=⟨_,rfl⟩;obtain ⟨Rs,hRs⟩:∃ Rs,Rs=(bL st T.data.toList).2:=⟨_,rfl⟩;rw [<-hRo, <-hRs];have HR:=ai (And.intro hRo hRs);clear hRo hRs;go_enter func151,ntmps151
 go_wp2;go_loopg [1,5,6] (T.size+1) (fun g x _ _ wr=>∃ s st1 C1 Y1 S1,x=.string s/\s.size < g/\C1.length+s.size<=1048576/\PD K B P (.iface ty q) wr S1 st1 (X0++Y1)/\PI st1 Y1 C1/\st1.W.length - st1.at_ < 261/\Mv S0 w S1 wr/\Hid (C1++s.data.toList=C++T.data.toList)/\Hid (Y1++(bL st1 s.data.toList).1=Y++Ro/\(bL st1 s.data.toList).2=Rs/\Y <+:Y1))
 case atStart=>exact ⟨T,st,C,Y,S0,rfl,by omega,hC,h,hI,hR,Mv.refl _ _,rfl,⟨by rw [HR.out.1],by rw [HR.out.2],List.prefix_refl _⟩⟩
 case round=>
  clear h hI hR;obtain ⟨s,st1,C1,Y1,S1,rfl,hsg,hsC,hPD,hPI,hRr,hMv,HC,HY⟩:=hrel;by_cases hs0:s.size=0
  ·go_wp2;go_ret;have hnil:s.data.toList=[]:=Zp (by simpa using hs0);have h1:=HC.out;have h2:=HY.out;rw [hnil,tm] at h2;rw [hnil,YZ] at h1;simp only [YZ] at h2;obtain ⟨h2,h3,_⟩:=h2;subst h1 h3;refine .inl ⟨?_,rfl,S1,⟨?_,?_,hRr⟩,hMv⟩
   ·rw [ZS, <-h2];exact hPD.isOk d
   ·rw [<-h2];exact hPD
   ·rw [<-h2];exact hPI
  ·obtain ⟨vf,vw,vs,R,⟨F,H,n,hK,hN,hnb⟩,hKR,hS1,hP,nP,of,ow,os⟩:=hPD;subst hS1;have hsm:st1.A < 65521/\st1.B < 65521:=⟨hPI.ok.hA,hPI.ok.hB⟩;have hPl:=hK.pw.hP;have hs1:0 < s.size:=by omega
   have c4:=hK.c4;have c5:=hK.c5;have hoW:=hPI.ok.hW;obtain ⟨A,hA⟩:∃ A,A=st1.A:=⟨_,rfl⟩;obtain ⟨Bq,hBq⟩:∃ B,B=st1.B:=⟨_,rfl⟩;rw [<-hA] at hsm c4;rw [<-hBq] at hsm c5;rw [<-hA, <-hBq] at hK;have HAB:=ai (And.intro hA hBq);clear hA hBq;go_upto_region 2 with fail
   go_cut [5] from 7 to 59 (fun v wx=>∃ N:Nat,v=.int .i64 N/\N<=s.size/\0 < N/\N<=32768/\(N=s.size\/N=32768)/\wx=wr)
   case first=>
    by_cases hN:s.size<=32768
    ·have hN2:(s.size:Int)<=32768:=by omega
     go_wp2;go_meet;exact ⟨s.size,by first | rfl | (congr 1;omega),by omega,by omega,hN,.inl rfl,rfl⟩
    ·have hN2:(32768:Int) < (s.size:Int):=by omega
     go_wp2;go_meet;exact ⟨32768,by first | rfl | (congr 1;omega),by omega,by omega,by omega,.inr rfl,rfl⟩
   case rest=>
   obtain ⟨N,rfl,hN1,hN2,hN3,hN4,rfl⟩:=hcut;obtain ⟨c,hc⟩:∃ c,c=s.extract 0 N:=⟨_,rfl⟩;have HcE:=ai hc.symm;have Hc:Hid (c.data.toList=s.data.toList.take 32768):=by
    show _=_
    rw [hc,wk];rcases hN4 with e | e
    ·rw [Zy (by rw [eC];omega),Zy (by rw [eC];omega)]
    ·rw [e]
   have hcs:c.size=N:=by rw [hc];simp;omega
   have Hd2:Hid ((s.extract N s.size).data.toList=s.data.toList.drop 32768):=by
    show _=_
    rw [vR s N hN1];rcases hN4 with e | e
    ·rw [YD (by rw [eC];omega),YD (by rw [eC];omega)]
    ·rw [e]
   have hds:(s.extract N s.size).size=s.size - N:=by simp
   clear hc hN4;obtain ⟨adw,capw,hvw⟩:∃ ad cap,vw=.slice ad st1.W.length cap:=by
    rcases hK.pw.ow.2 with ⟨hu,hz⟩ | ⟨gg,cap,cur,hu,_⟩
    ·exact ⟨none,0,by rw [hu,hz]⟩
    ·exact ⟨_,_,hu⟩
   subst hvw;have hWl:st1.W.length<=1048576:=by omega
   go_wp2;refine bO 6 (by kernel_rfl) (by kernel_rfl) ?_;simp only [TD]
   repeat (go_big_quiet_step (fail))
   refine Ym ?_;intro _ hw';obtain ⟨nq2,hw''⟩:=hw';subst hw'';go_wp2_with fail
   rw [HcE.out];refine (yd (wc.drewN nq2) P A Bq c (by omega) hsm.1 hsm.2 c4 c5 (hK.fz 4) (hK.fz 5)).mono ?_;rintro e w1 ⟨rfl,q3,hw1⟩;have HK1:=ai (((hK.drewN nq2).drewN q3).sum2 (Pm.cB c.data.toList (A,Bq)).1 (Pm.cB c.data.toList (A,Bq)).2);have HF1:Hid (Fr (fun k=>k=P) wc w1):=by
    rw [hw1];exact ((Fr.refl (fun k=>k=P) wc).drewN nq2).drewN q3 |>.trans ((lY _ P 4 _).trans (lY _ P 5 _) (fun _ _ e=>e)) (fun _ _ e=>e)
   rw [<-hw1] at HK1;have hsz1:w1.heap.size=wc.heap.size:=by rw [hw1];simp [World.setCell]
   clear hw1 c4 c5 hK;have c6:=HK1.out.pw.c6;have f6:=HK1.out.fz 6;have HO:=ai HK1.out.pw.ow.drew;have hbd:B<=w1.drew.heap.size:=HK1.out.bw.hb;have HG:=ai (mN w1 (Value.slice adw st1.W.length capw).ownBlock);go_wp2;go_region_law ((refine pU rfl (.tmp 24) (.tmp 27) 66 9 rfl underlying66 underlying9 B _ st1.W (by simp [Act.eval,Act.put]) HO.out hbd c (by simp [Act.eval,Act.put,HcE.out]) (by omega) ?_;intro v7 w7 hO7 hg7 hat7;have hform7:∃ ad L cap,v7=.slice ad L cap:=(by rcases hO7.2 with ⟨hu,_⟩ | ⟨gg,cap,cur,hu,_⟩;exact ⟨_,_,_,hu⟩;exact ⟨_,_,_,hu⟩);obtain ⟨ad7,L7,cap7,hv7⟩:=hform7;rw [hv7] at hO7 hat7 ⊢;clear hv7;have kb:=(fv HG.out hg7).block P HK1.out.pw.hP (fun e=>HK1.out.pw.nw e.symm);have k6:=(ZQ (a:=zq P 6) kb).trans c6;have kf6:=(ZH (a:=zq P 6) kb).trans f6))
   obtain ⟨gO,hgO⟩:∃ gO,gO=gk:=⟨_,rfl⟩;have hat8:(Value.slice ad7 L7 cap7).ownBlock=(Value.slice adw st1.W.length capw).ownBlock\/∃ g,(Value.slice ad7 L7 cap7).ownBlock=some g/\w1.heap.size<=g:=by
    rcases hat7 with e | e
    ·exact YJ e
    ·exact YB ⟨_,e,by simp⟩
   obtain ⟨hK2,hF2⟩:=HK1.out.window2 (fv HG.out hg7) hO7 hat8;have hH2:se (w7.setCell (zq P 6) (.slice ad7 L7 cap7)) P B (.iface ty q) vf (.slice ad7 L7 cap7) vs (yc st1 c.data.toList):=by
    obtain ⟨e1,e2⟩:=HAB.out;subst e1 e2;exact ⟨F,H,n,hK2,hN,hnb⟩
   obtain ⟨hPD2,hMv2⟩:=PD.turn d.thing hKR hP nP of ow os hH2 ((HF1.out.mono (fun k e=>YJ e)).trans hF2 (by
    rintro k _ (e | e)
    ·exact .inl e
    ·exact .inr (.inr (.inl e)))) (.inl rfl) (by rw [<-hsz1];exact hat8) (.inl rfl)
   have hPI2:=hPI.add c.data.toList (by rw [eC];omega);have HP2:=ai hPD2;have HI2:=ai hPI2;have HM2:=ai (hMv.trans hMv2);obtain ⟨C2,hC2⟩:∃ C2,C2=C1++c.data.toList:=⟨_,rfl⟩;have hC2l:C2.length+(s.size - N)<=1048576:=by
    rw [hC2,ZY,eC];omega
   have HC2:Hid (C2++(s.extract N s.size).data.toList=C++T.data.toList):=by
    show _=_
    rw [hC2,Hd2.out,Hc.out,ZS,Yq];exact HC.out
   rw [<-hC2] at HI2;obtain ⟨stA,hstA⟩:∃ stA,stA=yc st1 c.data.toList:=⟨_,rfl⟩;rw [<-hstA] at HP2 HI2;have HY2:Hid (Y1++(j1 (ce (iS 260 stA))++(bL (fM (ce (iS 260 stA))) (s.extract N s.size).data.toList).1)=Y++Ro/\(bL (fM (ce (iS 260 stA))) (s.extract N s.size).data.toList).2=Rs/\Y <+:Y1):=by
    have h2:=HY.out;rw [xg st1 s.data.toList (by intro e;have:=eC s;rw [e] at this;simp at this;omega)] at h2;unfold jE at h2;rw [<-Hc.out, <-Hd2.out, <-hstA] at h2;exact h2
   have hA3:stA.W.length - stA.at_ < 1048577:=by have:=HI2.out.ok.hW;omega
   clear hPD2 hMv2 hPI2 hH2 hK2 hF2 hO7 hg7 hat7 hat8 hC2 hstA HK1 HF1 HO HG HAB Hc Hd2 c6 f6 k6 kf6 kb hbd hKR of ow os nP hP hN hnb hPI hMv HY HC hsz1;go_wp2;go_loopg [34] 1048577 (fun g _ wr2=>∃ st2 S2,PD K B P (.iface ty q) wr2 S2 st2 (X0++Y1)/\PI st2 Y1 C2/\Mv S0 w S2 wr2/\st2.W.length - st2.at_ < g/\Hid (iS 260 st2=iS 260 stA))
   case atStart=>exact ⟨stA,_,HP2.out,HI2.out,HM2.out,hA3,rfl⟩
   case round=>
    clear HP2 HI2 HM2;obtain ⟨st2,S2,hP2,hI2,hM2,hg2,HRV⟩:=hrel;obtain ⟨ad,cap,c6,c7,c0,h5⟩:=hP2.read;have hW2:=hI2.ok.hW;have ha2:=hI2.ok.hat;by_cases h261:261<=st2.W.length - st2.at_
    ·have h261':(261:Int)<=(st2.W.length:Int) - (st2.at_:Int):=by omega
     go_wp2;go_quiet (fail)
     go_wp2_with fail
     refine (Aw d _ S2 P st2 _ Y1 C2 ((PD.thing d.thing _ _ _ _).drewN hP2 _) hI2 (by omega)).mono ?_;rintro e w3 ⟨rfl,S3,hP3,hI3,hat3,hM3⟩;have HRV3:=ai ((Cs (m:=260) (by omega)).symm.trans HRV.out);have hlt3:(di st2).W.length - (di st2).at_ < gk - 1:=by rw [px];omega
     go_wp2;go_roundg (gk - 1)
     case measure=>omega
     case rel=>exact ⟨di st2,S3,hP3,hI3,hM2.trans hM3.undrew,hlt3,HRV3.out⟩
    ·have h261':¬ (261:Int)<=(st2.W.length:Int) - (st2.at_:Int):=by omega
     have hrv:st2=iS 260 stA:=(rA (m:=260) (by omega)).symm.trans HRV.out;rw [<-hrv] at HY2;clear HRV hrv;go_wp2;go_quiet (fail)
     go_wp2_with fail
     refine (zQ d _ S2 P st2 _ Y1 C2 ((PD.thing d.thing _ _ _ _).drewN hP2 _) hI2).mono ?_;rintro e w3 ⟨rfl,S3,hP3,hI3,hM3⟩;have hw3:(ce st2).W.length - (ce st2).at_ < 261:=by have:=rX st2;omega
     obtain ⟨st3,hst3⟩:∃ st3,st3=ce st2:=⟨_,rfl⟩;rw [<-hst3] at HY2 hP3 hI3 hw3;clear c6 c7 c0 h5 h261' hst3 hI2;obtain ⟨ad3,cap3,_,_,c0,_⟩:=hP3.read;have hol:=hI3.out_le;go_wp2;refine bO 7 (by kernel_rfl) (by kernel_rfl) ?_;simp only [TD]
     repeat (go_big_quiet_step (fail))
     refine Ym ?_;intro _ hw';obtain ⟨nq3,hw''⟩:=hw';subst hw'';go_wp2_with fail
     refine (Ay d (w3.drewN nq3) S3 P st3 _ ((PD.thing d.thing _ _ _ _).drewN hP3 _) (by rw [ZY];omega) (by omega)).mono ?_;rintro e w4 (⟨hok,rfl,S4,hP4,hM4⟩ | ⟨hok,rfl,S4,Yd,hDd,h1,h2,hM4⟩)
     ·go_wp2;go_roundg (gO - 1)
      case measure=>omega
      case rel=>
       refine ⟨s.extract N s.size,fM st3,C2,Y1++j1 st3,S4,rfl,by rw [hds];omega,by rw [hds];exact hC2l,?_,hI3.sent,hw3,(hM2.trans hM3.undrew).trans hM4.undrew,HC2.out,?_⟩
       ·rw [<-ZS];exact hP4
       ·refine ⟨by rw [ZS];exact HY2.out.1,HY2.out.2.1,HY2.out.2.2.trans (YP _ _)⟩
     ·go_wp2;go_ret;refine aU.fail d.okp (hM2.trans hM3.undrew) ?_ ?_ hok hDd h1 h2 hM4.undrew
      ·exact (List.prefix_append_right_inj X0).2 HY2.out.2.2
      ·rw [ZS,ZS,List.prefix_append_right_inj, <-HY2.out.1, <-ZS];exact YP _ _
end
theorem cd.grow {P:Nat} {vf:Value} {w w':World} (hP:P < w.heap.size) (h:Below w w w'):cd P vf w vf w':=
 ⟨h.os,h.tape,h.output,h.size,fun k hk _ _=>h.block k hk,fun o _ _ _=>h.cell (p:=zq P o) hP,fun o=>h.frozen (p:=zq P o) hP,YJ rfl⟩
theorem PK.grow {w w':World} {P base:Nat} {nx vf vw vs:Value} {F:List UInt8} {H n A B:Nat} {W:List UInt8} {Sn:List Int} {at_ gone:Nat} (h:PK w P base nx vf vw vs F H n A B W Sn at_ gone) (hB:Below w w w'):PK w' P base nx vf vw vs F H n A B W Sn at_ gone:=
 h.same (fun k hk=>hB.block k (by
  rcases hk with e | e | e | e
  ·rw [e];exact h.pw.hP
  ·exact (h.bw.own.lt k e).2
  ·exact (h.pw.ow.lt k e).2
  ·exact (h.pw.os.lt k e).2)) hB.size
def lA (s:dE):dE:={s with N:=s.N+cH (65536*s.B+s.A) 4*2 ^ Pm.bq (s.nb+7),nb:=Pm.bq (s.nb+7)+32}
theorem pS (s:dE):(lA s).N=s.N+cH (65536*s.B+s.A) 4*2 ^ Pm.bq (s.nb+7):=by simp only [lA]
theorem nd (s:dE):(lA s).nb=Pm.bq (s.nb+7)+32:=by simp only [lA]
theorem qL (s:dE):j1 (lA s)=fQ s:=by
 unfold j1 fQ;rw [nd,pS,show (Pm.bq (s.nb+7)+32) / 8=Pm.bq (s.nb+7) / 8+4 by omega]
theorem yR {w:World} {P B:Nat} {nx vfk vw vs:Value} {s:dE} {F2 Fk:List UInt8} {t A Bq:Nat} (hA:A=s.A) (hB:Bq=s.B) (hSk:PK w P B nx vfk vw vs Fk 0 0 A Bq s.W s.Sn s.at_ s.gone) (hN2:Pm.cL F2=s.N) (hL2:8*F2.length=Pm.bq (s.nb+7)) (hNk:Pm.cL Fk=Pm.cL F2+cH t 4*2 ^ (8*F2.length)) (hlk:Fk.length=F2.length+4) (ht:t=65536*s.B+s.A):se w P B nx vfk vw vs (lA s):=by
 have e1:=pS s;have e2:=nd s;refine ⟨Fk,0,0,?_,?_,?_⟩
 ·clear e1 e2 hN2 hL2 ht;obtain ⟨N,nb,A0,B0,W,Sn,at_,gone⟩:=s;dsimp only at hA hB hSk;subst hA hB;exact hSk
 ·rw [jn,hNk,hN2,ht,hL2,pS]
 ·rw [nd, <-hL2];omega
theorem xY {s:dE} {F2 Fk:List UInt8} (hL2:8*F2.length=Pm.bq (s.nb+7)) (hlk:Fk.length=F2.length+4):(j1 (lA s)).length=Fk.length:=by
 rw [qL,fQ,ia, <-hL2];omega
section
variable {K D:World->Bl->List UInt8->Prop} {ok:List UInt8->Prop} {B M:Nat} {ty:TypeId} {q q':Value} {f:FuncId} {et:TypeId} {ev:Value}
theorem AL (d:fT B K D ok M ty q q' f et ev) (w:World) (S0:Bl) (P:Nat) (st:dE) (X0 Y C:List UInt8) (h:PD K B P (.iface ty q) w S0 st (X0++Y)) (hI:PI st Y C) (hM:X0.length+1200000<=M):
  CP 152 #[zp P] w (aU D ok et ev S0 w (X0++Y) (aV st) (fun w' S'=>K w' S' (X0++(Y++aV st))/\Pm.bP (Y++aV st)=some (C,(Y++aV st).length)/\8*(Y++aV st).length<=80+9*C.length/\6 < (Y++aV st).length)):=by
 go_enter func152,ntmps152
 go_wp2;go_loopg [5] 1048577 (fun g _ wr=>∃ st2 S2,PD K B P (.iface ty q) wr S2 st2 (X0++Y)/\PI st2 Y C/\Mv S0 w S2 wr/\st2.W.length - st2.at_ < g/\Hid (iS 0 st2=iS 0 st))
 case atStart=>exact ⟨st,S0,h,hI,Mv.refl _ _,by have:=hI.ok.hW;omega,rfl⟩
 case round=>
  clear h hI;obtain ⟨st2,S2,hP2,hI2,hM2,hg2,HRV⟩:=hrel;obtain ⟨ad,cap,c6,c7,c0,h5⟩:=hP2.read;have hW2:=hI2.ok.hW;have ha2:=hI2.ok.hat;by_cases hlt:st2.at_ < st2.W.length
  ·go_wp2;go_quiet (fail)
   go_wp2_with fail
   refine (Aw d _ S2 P st2 _ Y C ((PD.thing d.thing _ _ _ _).drewN hP2 _) hI2 hlt).mono ?_;rintro e w3 ⟨rfl,S3,hP3,hI3,hat3,hM3⟩;have HRV3:=ai ((Cs (m:=0) (by omega)).symm.trans HRV.out);have hlt3:(di st2).W.length - (di st2).at_ < gk - 1:=by rw [px];omega
   go_wp2;go_roundg (gk - 1)
   case measure=>omega
   case rel=>exact ⟨di st2,S3,hP3,hI3,hM2.trans hM3.undrew,hlt3,HRV3.out⟩
  ·have hrv:st2=iS 0 st:=(rA (m:=0) (by omega)).symm.trans HRV.out;have hclose:aV st=fQ st2:=by unfold aV;rw [<-hrv]
   have HCl:=ai hclose;have HDone:=ai (hI2.done (by omega));clear HRV hrv hclose;go_wp2;go_quiet (fail)
   clear c6 c7 c0 h5 hlt;obtain ⟨vf,vw,vs,R,⟨F,H,n,hK0,hN,hnb⟩,hKR,hS2,hP,nP,of,ow,os⟩:=(PD.thing d.thing _ _ _ _).drewN hP2 nq;subst hS2;have hsz:=hI2.sz;have hAl:=hI2.ok.hA;have hBl:=hI2.ok.hB;obtain ⟨A,hA⟩:∃ A,A=st2.A:=⟨_,rfl⟩;obtain ⟨Bq,hBq⟩:∃ B,B=st2.B:=⟨_,rfl⟩;rw [<-hA] at hAl;rw [<-hBq] at hBl;rw [<-hA, <-hBq] at hK0;have HAB:=ai (And.intro hA hBq);clear hA hBq;have hn:=hK0.hn;have hFb:F.length<=40000000:=by omega
   clear hP2 hI2;go_wp2_with fail
   refine (fR _ P B vf F H n 256 hK0.bw hK0.pw.hP hn (by omega) (by omega)).mono ?_;rintro e w1 ⟨rfl,vf1,F1,H1,n1,b11,b12,b13,b14,b15⟩;rw [Pm.Be,Nat.zero_mul,Yb] at b13;rw [Pm.qm] at b14;have b14':8*F1.length+n1=8*F.length+n+7:=b14;have hK1:=hK0.put b11 b12 b15;go_wp2_with fail
   refine (yt w1 P B vf1 F1 H1 n1 b11 hK1.pw.hP b12 (by omega)).mono ?_;rintro e w2 ⟨rfl,vf2,F2,H2,n2,b21,b22,b23,b24,b25⟩;rw [Nat.zero_mul,Yb] at b23;obtain rfl:n2=0:=by omega
   obtain rfl:H2=0:=by have:=b21.hH;simp at this;exact this
   rw [jn,b13] at b23;have hK2:=hK1.put b21 b22 b25;have l2:8*F2.length=Pm.bq (st2.nb+7):=by rw [<-hnb];unfold Pm.bq;omega
   have c4:=hK2.c4;have c5:=hK2.c5;have HPf:=ai (b15.trans b25);have HN2:=ai (b23.trans hN);have HL2:=ai l2;have hF2:8*F2.length<=8*F.length+n+14:=by rw [l2, <-hnb];unfold Pm.bq;omega
   clear b11 b12 b13 b14 b14' b15 b21 b22 b23 b24 b25 l2 hK1 hK0;go_wp2_with fail
   refine (uW w2 A Bq hAl hBl).mono ?_;rintro e w3 ⟨rfl,hB3⟩;have hK3:=hK2.grow hB3;have HPf3:=ai (HPf.out.trans (cd.grow hK2.pw.hP hB3));obtain ⟨t,ht⟩:∃ t,t=65536*Bq+A:=⟨_,rfl⟩;rw [<-ht];have ht32:t < 4294967296:=by omega
   have HT:Hid (t=65536*st2.B+st2.A):=by
    show _=_
    rw [ht,HAB.out.1,HAB.out.2]
   clear ht hB3 hK2 HPf c4 c5;go_wp2;go_loopg [4] 5 (fun g sh wr3=>∃ k vfk Fk,k<=4/\4 - k < g/\sh=.int .i64 (24 - 8*(k:Int))/\PK wr3 P B (.iface ty q) vfk vw vs Fk 0 0 A Bq st2.W st2.Sn st2.at_ st2.gone/\Hid (Pm.cL Fk=Pm.cL F2+cH t k*2 ^ (8*F2.length))/\Fk.length=F2.length+k/\cd P vf (wr.drewN nq) vfk wr3)
   case atStart=>exact ⟨0,vf2,F2,by omega,by omega,by simp,hK3,by show _=_;simp [cH],by omega,HPf3.out⟩
   case round=>
    clear hK3 HPf3;obtain ⟨k,vfk,Fk,hk4,hkg,rfl,hSk,HNk,hlk,hPfk⟩:=hrel;have hPk:=hSk.pw.hP;by_cases hk:k=4
    ·subst hk;have c0:=hSk.c0;have hH4:=yR HAB.out.1 HAB.out.2 hSk HN2.out HL2.out HNk.out hlk HT.out;obtain ⟨hPD4,hMv4⟩:=PD.turn d.thing hKR hP nP of ow os hH4 (hPfk.fr.mono (by
      rintro k (e | e)
      ·exact .inl e
      ·exact .inr (.inl e))) hPfk.blk (.inl rfl) (.inl rfl)
     have hlo:=xY HL2.out hlk;go_wp2;refine bO 7 (by kernel_rfl) (by kernel_rfl) ?_;simp only [TD]
     repeat (go_big_quiet_step (fail))
     refine Ym ?_;intro _ hw';obtain ⟨nq3,hw''⟩:=hw';subst hw'';go_wp2_with fail
     have hY:=hsz;refine (Ay d (wr.drewN nq3) _ P (lA st2) _ ((PD.thing d.thing _ _ _ _).drewN hPD4 _) (by rw [hlo,ZY];omega) (by rw [hlo];omega)).mono ?_;rw [qL];rintro e w4 (⟨hok,rfl,S4,hP4,hM4⟩ | ⟨hok,rfl,S4,Yd,hDd,h1,h2,hM4⟩)
     ·go_wp2;go_ret;rw [HCl.out];obtain ⟨vf4,vw4,vs4,R4,_,hKR4,rfl,_⟩:=hP4;have hmm:=(hM2.trans hMv4.undrew).trans hM4.undrew;refine .inl ⟨hok,rfl,R4,⟨by rw [<-ZS];exact hKR4,HDone.out⟩,⟨hmm.fr,fun k hk=>hmm.new k (.inr (.inr (.inr (.inr hk))))⟩⟩
     ·go_wp2;go_ret;rw [HCl.out];exact .inr ⟨hok,rfl,S4,Yd,hDd,h1,h2,(hM2.trans hMv4.undrew).trans hM4.undrew⟩
    ·have hk3:k=0\/k=1\/k=2\/k=3:=by omega
     rcases hk3 with rfl | rfl | rfl | rfl
     all_goals
      go_wp2;refine bO 8 (by kernel_rfl) (by kernel_rfl) ?_;simp only [TD]
      repeat (go_big_quiet_step (fail))
      refine Ym ?_;intro _ hw';obtain ⟨nq3,hw''⟩:=hw';subst hw'';go_wp2_with fail
      first
       | rw [jg t 0 ht32 (by omega) _ (by show _=((t / 16777216:Nat):Int);omega)]
       | rw [jg t 1 ht32 (by omega) _ (by show _=((t / 65536:Nat):Int);omega)]
       | rw [jg t 2 ht32 (by omega) _ (by show _=((t / 256:Nat):Int);omega)]
       | rw [jg t 3 ht32 (by omega) _ (by show _=((t / 1:Nat):Int);omega)]
      refine (iR (wr.drewN nq3) P B vfk Fk 0 0 _ 8 (hSk.drewN nq3).bw hPk (by omega) (dM _ _) (by omega) (by omega)).mono ?_;rintro e w4 ⟨rfl,vf4,F4,H4,n4,b1,b2,b3,b4,b5⟩;obtain rfl:n4=0:=by omega
      obtain rfl:H4=0:=by have:=b1.hH;simp at this;exact this
      have hK4:=(hSk.drewN nq3).put b1 b2 b5;have hPf4:=(hPfk.drewN nq3).trans b5;rw [jn,jn] at b3;have HN4:=ai (ud HNk.out hlk b3);go_wp2;go_roundg (gk - 1)
      case measure=>omega
      case rel=>exact ⟨_,vf4,F4,by omega,by omega,by simp,hK4,HN4.out,by omega,hPf4⟩
theorem Tryz.infoInt2:(Tryz.prog.info? 3).map (fun i=>(i.zero,i.size,i.bytes))=some (some (.int .i64 0),1,8):=by kernel_rfl
def me (n:Nat):Array Value:=(List.replicate n (Value.int .i64 0)).toArray
def fw:Array Value:=me 4096
theorem zo (n:Nat):(me n).size=n:=by simp [me]
theorem q_ (n:Nat):(me n).toList.take n=(List.replicate n (0:Int)).map (Value.int .i64):=by simp [me]
theorem yT (n:Nat):((List.replicate n (0:Int)).map (Value.int .i64)).length=n:=by simp
theorem tE (w:World):(Instr.makeSlice 112 (4096:Int) (4096:Int)).run prog w=.ok (.slice w 4096 4096) (w.alloc (.cells fw 3)):=by
 obtain ⟨i0,hi,hz0,hz1,hz2⟩:=XQ Tryz.infoInt2;have h:=run_make (P:=prog) w 112 3 i0 (0:Int) underlying112 hi hz0 .i64 .i64 4096 4096 (by omega) (by omega) (by rw [hz2];decide) (by omega);rw [h,hz1];have e:madeCells (Value.int IntKind.i64 0).cells ((4096:Int).toNat*1)=fw:=by
  apply Yl;have:=toList_madeCells_one (0:Int) 4096;exact this.trans rfl
 rw [e];rfl
def cu (nx:Value) (gs:Nat):Obj:=.cells #[nx,.slice none 0 0,.int .u32 0,oz,.int .u32 1,.int .u32 0,.slice none 0 0,oz,oz,.slice gs 4096 4096] 250
theorem rB (w:World) (nx:Value) (B gs:Nat) (hB:B<=w.heap.size) (hgs:w.heap[gs]? =some (.cells fw 3 (0,0))) (hb:B<=gs):
  PK (w.alloc (cu nx gs)) w.heap.size B nx (.slice none 0 0) (.slice none 0 0) (.slice gs 4096 4096) [] 0 0 1 0 [] (List.replicate 4096 0) 0 0:=by
 have hgl:gs < w.heap.size:=(ZG.1 hgs).1;have hnew:∀ k,k < w.heap.size->(w.alloc (cu nx gs)).heap[k]? =w.heap[k]? :=fun k hk=>XE w _ hk
 have hsz:(w.alloc (cu nx gs)).heap.size=w.heap.size+1:=by simp
 have hown:(w.alloc (cu nx gs)).ownsRow B 3 1 (.slice gs 4096 4096) 4096 ((List.replicate 4096 (0:Int)).map (Value.int .i64)):=by
  refine ⟨yT 4096,.inr ⟨gs,4096,fw,rfl,hb,(hnew gs hgl).trans hgs,ZW _,by unfold maxLen;omega,zo 4096,q_ 4096⟩⟩
 refine ⟨⟨?_,?_,?_,?_,?_,?_,Yj _ _ _ _,by simp [Value.ownBlock],by rw [hsz];omega,by decide⟩,⟨?_,?_,?_,?_,?_,Yj _ _ _ _,hown,by simp [Value.ownBlock],?_,by rw [hsz];omega⟩,?_,?_,?_,?_,by omega,?_,?_,?_⟩
 ·simp [cu]
 ·simp [cu]
 ·simp [cu]
 ·simp [cu]
 ·simp [cu]
 ·simp [cu]
 ·simp [cu]
 ·simp [cu]
 ·simp [cu]
 ·simp [cu]
 ·simp [cu]
 ·simp only [Value.ownBlock];intro e;cases e;omega
 ·simp [cu]
 ·simp [cu]
 ·simp [cu]
 ·intro o;simp [cu]
 ·intro g hg;simp [Value.ownBlock] at hg
 ·intro g hg;simp [Value.ownBlock] at hg
 ·intro g hg;simp [Value.ownBlock] at hg
theorem Au (hT:∀ X,aJ B (fun w S=>K w S X)) {w w1 w2 w6:World} {R:Bl} {X:List UInt8} {nx vf6:Value} {gs:Nat} {F:List UInt8} {H n:Nat} (hK:K w R X) (hg:Below w w w1) (hgs:w1.heap[gs]? =some (.cells fw 3 (0,0))) (hb:w.heap.size<=gs) (hB:B<=w.heap.size)
  (hw2:w2=w1.alloc (cu nx gs)) (hP:cd w1.heap.size (.slice none 0 0) w2 vf6 w6) (hK6:PK w6 w1.heap.size B nx vf6 (.slice none 0 0) (.slice gs 4096 4096) F H n 1 0 [] (List.replicate 4096 0) 0 0) (hs:dt F H=120+1*2 ^ 8+1*2 ^ 16+1*2 ^ 17) (hl:8*F.length+n=19):
  ∃ S',PD K B w1.heap.size nx w6 S' lJ X/\Mv R w S' w6:=by
 have hgl:gs < w1.heap.size:=(ZG.1 hgs).1;have hKw1:K w1 R X:=(hT X).grow hK hg;have hlt:∀ k,R k->k < w.heap.size:=fun k hk=>(hT X).lt hK hk
 have hsz:=hg.size;have hKw2:K w2 R X:=by rw [hw2];exact (hT X).alloc hKw1 _
 have hH:se w6 w1.heap.size B nx vf6 (.slice none 0 0) (.slice gs 4096 4096) lJ:=⟨F,H,n,hK6,hs,hl⟩;have hs2:w2.heap.size=w1.heap.size+1:=by rw [hw2];simp
 obtain ⟨a,b⟩:=PD.turn hT hKw2 (vf:=.slice none 0 0) (vw:=.slice none 0 0) (vs:=.slice gs 4096 4096) (show B<=w1.heap.size by omega) (fun e=>by have:=hlt _ e;omega) (fun k hk=>by simp [ob,Value.ownBlock] at hk) (fun k hk=>by simp [ob,Value.ownBlock] at hk) (fun k hk hr=>by
  have:=hlt _ hr;simp [ob,Value.ownBlock] at hk;omega) hH (hP.fr.mono (by
  rintro k (e | e)
  ·exact .inl e
  ·exact .inr (.inl e))) hP.blk (.inl rfl) (.inl rfl)
 refine ⟨_,a,?_⟩;have hg2:Below w w w2:=by rw [hw2];exact hg.alloc (by omega) _
 refine ⟨(Mv.grow hg2 R).fr.trans b.fr ?_,?_⟩
 ·rintro k hk (e | e | e | e | e)
  ·omega
  ·simp [ob,Value.ownBlock] at e
  ·simp [ob,Value.ownBlock] at e
  ·simp [ob,Value.ownBlock] at e;omega
  ·exact e
 ·intro k hk;rcases b.new k hk with (e | e | e | e | e) | e
  ·exact .inr (by omega)
  ·simp [ob,Value.ownBlock] at e
  ·simp [ob,Value.ownBlock] at e
  ·simp [ob,Value.ownBlock] at e;exact .inr (by omega)
  ·exact .inl e
  ·exact .inr (by omega)
theorem ub (hT:∀ X,aJ B (fun w S=>K w S X)) (w:World) (R:Bl) (X:List UInt8) (h:K w R X) (hB:B<=w.heap.size):
  CP 150 #[.iface ty q] w fun e w'=>∃ P S',e=.returned (zp P)/\PD K B P (.iface ty q) w' S' lJ X/\Mv R w S' w'/\w.heap.size<=P:=by
 have hmk:=tE;go_enter func150,ntmps150
 go_wp2;go_region_with (go_at_call 195;refine (ta _).mono ?_;rintro e w1 ⟨rfl,hB1⟩)
 have hg1:Below w w (w1.alloc (.cells fw 3)):=(show Below w w w1 from ⟨hB1.os,hB1.tape,hB1.output,hB1.size,hB1.block⟩).alloc hB1.size _;have hPS:=rB (w1.alloc (.cells fw 3)) (.iface ty q) B w1.heap.size (by have:=hg1.size;omega) (ZF w1 _) (ZU hB hB1.size);have HN:=ai (fun (w6:World) (vf6:Value) (F:List UInt8) (H n:Nat) hp hk hs hl=>Au (K:=K) (w6:=w6) (vf6:=vf6) (F:=F) (H:=H) (n:=n) hT h hg1 (ZF w1 _) (show w.heap.size<=w1.heap.size from hB1.size) hB (nx:=.iface ty q) rfl hp hk hs hl);have hle:w.heap.size<=(w1.alloc (.cells fw 3)).heap.size:=hg1.size;rw [show (w1.alloc (.cells fw 3)).heap.size=w1.heap.size+1 by simp] at hPS HN hle;unfold cu at hPS HN;clear hg1 hB1;generalize World.alloc (World.alloc w1 _) _=w2 at hPS HN ⊢;generalize w1.heap.size=gs at hPS HN hle ⊢;generalize gs+1=P at hPS HN hle ⊢
 rotate_left
 have hg0:Below w w (w.drew.alloc (.cells fw 3)):=(ZT _ w).drew.alloc (ZW _) _;have hg1:Below w w w1:=hg0.trans (hB1.mono hg0.size);have hgs:w1.heap[w.heap.size]? =some (.cells fw 3 (0,0)):=(hB1.block w.heap.size (by simp)).trans (ZF w.drew _);have hPS:=rB w1 (.iface ty q) B w.heap.size (ZU hB hg1.size) hgs hB;have HN:=ai (fun (w6:World) (vf6:Value) (F:List UInt8) (H n:Nat) hp hk hs hl=>Au (K:=K) (w6:=w6) (vf6:=vf6) (F:=F) (H:=H) (n:=n) hT h hg1 hgs (ZW _) hB (nx:=.iface ty q) rfl hp hk hs hl);have hle:w.heap.size<=w1.heap.size:=hg1.size;unfold cu at hPS HN;clear hg1 hB1 hg0 hgs;generalize World.alloc w1 _=w2 at hPS HN ⊢;generalize w1.heap.size=P at hPS HN hle ⊢
 rotate_left
 all_goals
  go_wp2_with fail
  refine (iR w2 P B _ [] 0 0 120 8 hPS.bw hPS.pw.hP (by omega) (by decide) (by omega) (by simp)).mono ?_;rintro e w3 ⟨rfl,vf3,F3,H3,n3,b31,b32,b33,b34,b35⟩;have hS3:=hPS.put b31 b32 b35;go_wp2_with fail
  refine (iR w3 P B vf3 F3 H3 n3 1 8 b31 hS3.pw.hP b32 (by decide) (by omega) (by simp at b34;omega)).mono ?_;rintro e w4 ⟨rfl,vf4,F4,H4,n4,b41,b42,b43,b44,b45⟩;have hS4:=hS3.put b41 b42 b45;go_wp2_with fail
  refine (iR w4 P B vf4 F4 H4 n4 1 1 b41 hS4.pw.hP b42 (by decide) (by omega) (by simp at b34;omega)).mono ?_;rintro e w5 ⟨rfl,vf5,F5,H5,n5,b51,b52,b53,b54,b55⟩;have hS5:=hS4.put b51 b52 b55;go_wp2_with fail
  refine (iR w5 P B vf5 F5 H5 n5 1 2 b51 hS5.pw.hP b52 (by decide) (by omega) (by simp at b34;omega)).mono ?_;rintro e w6 ⟨rfl,vf6,F6,H6,n6,b61,b62,b63,b64,b65⟩;have hS6:=hS5.put b61 b62 b65;have l3:8*F3.length+n3=8:=by simpa using b34
  have l4:8*F4.length+n4=16:=by omega
  have l5:8*F5.length+n5=17:=by omega
  have hst:dt F6 H6=120+1*2 ^ 8+1*2 ^ 16+1*2 ^ 17:=by
   rw [b63,b53,b43,b33,l3,l4,l5];decide
  have HI:=ai (HN.out w6 vf6 F6 H6 n6 (b35.trans (b45.trans (b55.trans b65))) hS6 hst (by omega));clear hS3 hS4 hS5 hS6 hPS b31 b32 b33 b34 b35 b41 b42 b43 b44 b45 b51 b52 b53 b54 b55 b61 b62 b63 b64 b65 hst HN;go_wp2;go_ret;obtain ⟨S',a,b⟩:=HI.out;exact ⟨P,S',rfl,a,b,hle⟩
end
end Go.Proofs.YtbklfkpjoinofaaGreatDoor
