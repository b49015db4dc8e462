import Derived.Test.YtbklfkpjoinofaaGreatDoorA36
set_option linter.all false
set_option maxRecDepth 100000
set_option maxHeartbeats 8000000
namespace Go.Proofs.YtbklfkpjoinofaaGreatDoor
open Go.RowKit Go.Proofs.Tryz
theorem Gj (x:Array Value) (w:World):(nilAhead 465 215 (.agg x) "press/drawing.fits").run prog w=.ok (some false) w:=by kernel_rfl
theorem Ff (args:Array Value) (w:World):(callFunc 357 args).run prog w=.ok (.enter 357 args) w:=by kernel_rfl
theorem Fj (args:Array Value) (w:World):(callFunc 356 args).run prog w=.ok (.enter 356 args) w:=by kernel_rfl
theorem Gg (x:Array Value) (w:World):(nilAhead 465 217 (.agg x) "press/drawing.fits").run prog w=.ok (some false) w:=by kernel_rfl
theorem Fc (args:Array Value) (w:World):(callFunc 359 args).run prog w=.ok (.enter 359 args) w:=by kernel_rfl
theorem Fh (args:Array Value) (w:World):(callFunc 358 args).run prog w=.ok (.enter 358 args) w:=by kernel_rfl
theorem Gi (x:Array Value) (w:World):(nilAhead 465 219 (.agg x) "press/drawing.fits").run prog w=.ok (some false) w:=by kernel_rfl
theorem Fe (args:Array Value) (w:World):(callFunc 361 args).run prog w=.ok (.enter 361 args) w:=by kernel_rfl
theorem Fi (args:Array Value) (w:World):(callFunc 360 args).run prog w=.ok (.enter 360 args) w:=by kernel_rfl
theorem FA (x:Array Value) (w:World):(nilAhead 465 135 (.agg x) "press/drawing.fits").run prog w=.ok (some false) w:=by kernel_rfl
theorem DZ (args:Array Value) (w:World):(callFunc 354 args).run prog w=.ok (.enter 354 args) w:=by kernel_rfl
theorem D3 (args:Array Value) (w:World):(callFunc 353 args).run prog w=.ok (.enter 353 args) w:=by kernel_rfl
def Cv (B m:Nat) (o:bj) (r':List UInt8) (S:Bl) (w:World) (e:Ending) (w':World):Prop:=e=.returned (.tuple #[fs o,true])/\∃ S',o_ B m r' w' S'/\Mv S w S' w'
theorem so {B m:Nat} {o:bj} {r':List UInt8} {S:Bl} {w wx:World} (hb:Below w w wx) {e:Ending} {w':World} (h:sA (zx B m (o.text++r')) S wx ([]++o.text) e w'):e=.returned .nilIface/\Cv B m o r' S w (.returned (.tuple #[fs o,true])) w':=by
 obtain ⟨rfl,S',⟨r,e,hM⟩,mv⟩:=h;have er:r=r':=by
  rw [Zq] at e;exact (List.append_cancel_left e).symm
 rw [er] at hM;exact ⟨rfl,rfl,S',hM,(Mv.grow hb S).trans mv⟩
theorem C6 (w:World) (B m:Nat) (o:bj) (r':List UInt8) (S:Bl) (ho:o.is) (hk:o.k=2) (hr:r'=[]\/8<=r'.length) (hl:(o.text++r').length<=2000000000) (hB:B<=w.heap.size) (ht:bU B w) (hm:fH B w) (h:o_ B m (o.text++r') w S)
  (HI:Hid (∀ wx,QB 359 #[.agg #[o.a,o.b,o.c,o.d,o.e]] wx true)):
  CP 229 #[zp m] w (Cv B m o r' S w):=by
 have hv:fs o=.iface 217 (.agg #[o.a,o.b,o.c,o.d,o.e]):=by unfold fs;simp [hk]
 have hR:=FJ ⟨(o.text++r').toArray⟩ o r' ho.near hk (by simp) hr;have hF:=oI B ⟨(o.text++r').toArray⟩ w (by rw [ae];exact hl) hB ht hm _ _ hR;refine oP w B m (o.text++r') S 217 (.agg #[o.a,o.b,o.c,o.d,o.e]) (.agg #[o.a,o.b,o.c,o.d,o.e]) (.agg #[o.a,o.b,o.c,o.d,o.e]) 359 358 _ h (Gg _) (xW _) Fc (Bc _) (AG _) Fh hF (fun wx _=>HI.out wx) ?_;intro wx hb;refine (Gu (ji B m (o.text++r')) wx S [] o ho.near hk (ZU hB hb.size) (ht.on (hb.mono hB)) ⟨_,rfl,(o_.thing _ _ _).grow h hb⟩ (by rw [Zq];exact YP _ _)).mono ?_;intro e w' hh;have:=so hb hh;rw [hv] at this;exact this
theorem C7 (w:World) (B m:Nat) (o:bj) (r':List UInt8) (S:Bl) (ho:o.is) (hk:o.k=3) (hr:r'=[]\/8<=r'.length) (hl:(o.text++r').length<=2000000000) (hB:B<=w.heap.size) (ht:bU B w) (hm:fH B w) (h:o_ B m (o.text++r') w S)
  (HI:Hid (∀ wx,QB 361 #[.agg #[o.a,o.b,o.c,o.d,o.e]] wx true)):
  CP 229 #[zp m] w (Cv B m o r' S w):=by
 have hv:fs o=.iface 219 (.agg #[o.a,o.b,o.c,o.d,o.e]):=by unfold fs;simp [hk]
 have hR:=FK ⟨(o.text++r').toArray⟩ o r' ho.near hk (by simp) hr;have hF:=oI B ⟨(o.text++r').toArray⟩ w (by rw [ae];exact hl) hB ht hm _ _ hR;refine oP w B m (o.text++r') S 219 (.agg #[o.a,o.b,o.c,o.d,o.e]) (.agg #[o.a,o.b,o.c,o.d,o.e]) (.agg #[o.a,o.b,o.c,o.d,o.e]) 361 360 _ h (Gi _) (xP _) Fe (AP _) (AJ _) Fi hF (fun wx _=>HI.out wx) ?_;intro wx hb;refine (Gy (ji B m (o.text++r')) wx S [] o ho.near hk (ZU hB hb.size) (ht.on (hb.mono hB)) ⟨_,rfl,(o_.thing _ _ _).grow h hb⟩ (by rw [Zq];exact YP _ _)).mono ?_;intro e w' hh;have:=so hb hh;rw [hv] at this;exact this
theorem C8 (w:World) (B m:Nat) (o:bj) (r':List UInt8) (S:Bl) (ho:o.is) (hk:o.k=1) (hr:r'=[]\/8<=r'.length) (hl:(o.text++r').length<=2000000000) (hB:B<=w.heap.size) (ht:bU B w) (hm:fH B w) (h:o_ B m (o.text++r') w S)
  (HI:Hid (∀ wx,QB 357 #[.agg #[o.a,o.b,o.c,o.s]] wx true)):
  CP 229 #[zp m] w (Cv B m o r' S w):=by
 have hv:fs o=.iface 215 (.agg #[o.a,o.b,o.c,o.s]):=by unfold fs;simp [hk]
 have hR:=FL ⟨(o.text++r').toArray⟩ o r' ho.near hk (by simp) hr;have hF:=oI B ⟨(o.text++r').toArray⟩ w (by rw [ae];exact hl) hB ht hm _ _ hR;refine oP w B m (o.text++r') S 215 (.agg #[o.a,o.b,o.c,o.s]) (.agg #[o.a,o.b,o.c,o.s]) (.agg #[o.a,o.b,o.c,o.s]) 357 356 _ h (Gj _) (zg _) Ff (AK _) (Bf _) Fj hF (fun wx _=>HI.out wx) ?_;intro wx hb;refine (Gz (ji B m (o.text++r')) wx S [] o ho.near hk (ZU hB hb.size) (ht.on (hb.mono hB)) ⟨_,rfl,(o_.thing _ _ _).grow h hb⟩ (by rw [Zq];exact YP _ _)).mono ?_;intro e w' hh;have:=so hb hh;rw [hv] at this;exact this
theorem Bv (w:World) (B m:Nat) (o:bj) (r':List UInt8) (S:Bl) (ho:o.is) (hk:o.k=4) (hr:r'=[]\/8<=r'.length) (hl:(o.text++r').length<=2000000000) (hB:B<=w.heap.size) (ht:bU B w) (hm:fH B w) (h:o_ B m (o.text++r') w S)
  (HI:Hid (∀ wx,QB 354 #[.agg #[o.a,o.b,o.c,o.d,o.co,o.ro,o.s]] wx true)):
  CP 229 #[zp m] w (Cv B m o r' S w):=by
 have hv:fs o=.iface 135 (.agg #[o.a,o.b,o.c,o.d,o.co,o.ro,o.s]):=by unfold fs;simp [hk]
 have hR:=EH ⟨(o.text++r').toArray⟩ o r' ho hk (by simp);have hF:=oI B ⟨(o.text++r').toArray⟩ w (by rw [ae];exact hl) hB ht hm _ _ hR;refine oP w B m (o.text++r') S 135 (.agg #[o.a,o.b,o.c,o.d,o.co,o.ro,o.s]) (.agg #[o.a,o.b,o.c,o.d,o.co,o.ro,o.s]) (.agg #[o.a,o.b,o.c,o.d,o.co,o.ro,o.s]) 354 353 _ h (FA _) (uN _) DZ (uE _) (wu _) D3 hF (fun wx _=>HI.out wx) ?_;intro wx hb;refine (Gb (ji B m (o.text++r')) wx S [] o ho.near hk (ZU hB hb.size) (ht.on (hb.mono hB)) ⟨_,rfl,(o_.thing _ _ _).grow h hb⟩ (by rw [Zq];exact YP _ _)).mono ?_;intro e w' hh;have:=so hb hh;rw [hv] at this;exact this
theorem Bs (w:World) (B m:Nat) (o:bj) (r':List UInt8) (S:Bl) (ho:o.is) (hr:r'=[]\/8<=r'.length) (hl:(o.text++r').length<=2000000000) (hB:B<=w.heap.size) (ht:bU B w) (hm:fH B w) (h:o_ B m (o.text++r') w S):
  CP 229 #[zp m] w (Cv B m o r' S w):=by
 have ho':=ho;obtain ⟨⟨a1,a2⟩,⟨b1,b2⟩,⟨hk,⟨c1,c2⟩,_,_,_,_,hs⟩ | ⟨hk,⟨c1,c2⟩,⟨d1,d2⟩,⟨e1,e2⟩,_⟩ | ⟨hk,⟨c1,c2⟩,⟨d1,d2⟩,⟨e1,e2⟩,_⟩ | ⟨hk,⟨c1,c2⟩,⟨d1,d2⟩,⟨co1,co2⟩,⟨ro1,ro2⟩,_,hsz⟩⟩:=ho'
 ·refine C8 w B m o r' S ho hk hr hl hB ht hm h fun wx=>?_
  have:=np wx o.a o.b o.c o.s (by omega);rw [show (br (-14400000) [o.a,o.b]&&br 1 [o.c]&&decide (o.s.size<=100))=true by simp [br];omega] at this;exact this
 ·refine C6 w B m o r' S ho hk hr hl hB ht hm h fun wx=>?_
  have:=mQ wx o.a o.b o.c o.d o.e;rw [show (br (-14400000) [o.a,o.b,o.c,o.d]&&br 0 [o.e])=true by simp [br];omega] at this;exact this
 ·refine C7 w B m o r' S ho hk hr hl hB ht hm h fun wx=>?_
  have:=jV wx o.a o.b o.c o.d o.e;rw [show (br (-14400000) [o.a,o.b]&&br 0 [o.c,o.d,o.e]&&decide (o.e<=1000))=true by simp [br];omega] at this;exact this
 ·refine Bv w B m o r' S ho hk hr hl hB ht hm h fun wx=>?_
  have hz:o.s.size<=4096:=by
   have h1:o.co*o.ro<=64*64:=XM co2 ro2 (by omega) (by omega);omega
  refine r_ wx o.a o.b o.c o.d o.co o.ro o.s (fun wy=>?_) (by omega) (by omega) co2 (by omega) ro2 ?_
  ·have:=eJ wy o.a o.b o.c o.d o.co o.ro;rw [show (br (-14400000) [o.a,o.b]&&br 1 [o.c,o.d]&&(decide (1<=o.co)&&decide (o.co<=64))&&(decide (1<=o.ro)&&decide (o.ro<=64)))=true by simp [br];omega] at this;exact this
  ·exact hsz
section
open Go.RowKit Go.Shelf
attribute [local go_sem] Oper.semAt_some
theorem C_ (ops:List bj) (i:Nat) (h:i < ops.length):bE (ops.drop i)=(ops[i]).text++bE (ops.drop (i+1)):=by
 rw [Zn h];rfl
theorem vr (o:bj):8<=o.text.length:=by
 unfold bj.text;have hl:∀ z:Int,1<=(bJ z).length:=fun z=>Yn.2 (sf z)
 split
 ·simp;omega
 ·split
  ·rw [jf,lu,lu];have:=hl o.e;have:=hl o.a;have:=hl o.b;have:=hl o.c;have:=hl o.d;simp;omega
  ·split
   ·rw [jf,sU];have:=hl o.e;have:=hl o.a;have:=hl o.b;have:=hl o.c;have:=hl o.d;simp;omega
   ·simp;omega
theorem C' (ops:List bj):bE ops=[]\/8<=(bE ops).length:=by
 cases ops with
 | nil=>exact .inl rfl
 | cons o r=>
  right;show 8<=(o.text++bE r).length
  have:=vr o;simp;omega
theorem ah.dropMid {A M X:As} {w:World} {S:Bl} (h:ah (ah A M) X w S):∃ S1,ah A X w S1/\Mv S w S1 w:=
 ah.drop (ah.assocR (ah.mapR (ah.assoc h) fun _ _ k=>ah.swap k))
def Eg (m:Nat) (w:World):Nat:=match w.cell? m with
 | some (.string r)=>r.size
 | _=>0
theorem ya {B m:Nat} {r:List UInt8} {w:World} {S:Bl} (h:o_ B m r w S):Eg m w=r.length:=by
 unfold Eg;rw [h.at 0 _ rfl];exact ae r
def Et (ops:List bj) (i:Nat) (args:Array Value) (i':Nat):Prop:=∃ h:i < ops.length,i'=i+1/\args=#[fs ops[i],true]
theorem FF (B b:Nat) (s:ByteArray) (ops:List bj) (hs:s.data.toList=bE ops) (hsz:s.size<=2000000000) (hops:∀ o∈ops,o.is):
  tO Fence.wide prog 228 #[zp b] B (aS B b [.string s]) (fun w=>bU B w/\fH B w) 0 (fun _=>True) (Et ops) (fun i=>i=ops.length):=by
 rintro l K Kx hK hKx _ W ⟨ht,hm⟩ hBW hY S h0;have hCt:=aS.thing B b [.string s];obtain ⟨SC,kC,_,_⟩:=ah.fst (hK 0) h0;have c0:W.cell? b=s:=kC.at 0 _ rfl;have HN:=ai (wv W s B hBW);have H0:=ai h0;have hge:=fun k=>(ah.thing hCt (hK 0)).ge (k:=k) h0
 clear h0 kC;refine callsIn_of_wp func228 rfl trivial ?_ rfl;show (Code.wpIn _ _ _ _ _ _ _)
 simp only [ntmps228,List.size_toArray,ZX,ZR,Nat.reduceAdd,Nat.reduceSub,Array.replicate_succ,Array.replicate_zero,List.push_toArray,List.append_toArray,Zq,ZE]
 gi_wp2
 refine ⟨trivial,rfl,(callsIn_wide.2 HN.out).mono ?_⟩;rintro e W1 ⟨rfl,hM,hb1⟩;obtain ⟨m,hm0⟩:∃ m,W.heap.size=m:=⟨_,rfl⟩;rw [hm0] at hM;have st0:∃ S',ah (ah (aS B b [.string s]) (o_ B m (bE (ops.drop 0)))) (K 0) W1 S'/\Mv S W S' W1:=by
  have hM':o_ B m (bE (ops.drop 0)) W1 (cC m):=by rw [List.drop_zero, <-hs];exact hM
  obtain ⟨a1,a2⟩:=ah.new (ah.thing hCt (hK 0)) H0.out hM' hb1 (fun k e=>by have e':k=m:=e;omega);exact ⟨_,ah.mapL (ah.assocR a1) (fun w S h=>ah.swap h),a2⟩
 have HS0:=ai st0;have hmB:B<=m:=by omega
 clear st0 hM HN H0 hb1
 gi_wp2
 gi_loopw [4] (fun _ wr=>∃ (i:Nat) (S':Bl),i<=ops.length/\ah (ah (aS B b [.string s]) (o_ B m (bE (ops.drop i)))) (K i) wr S'/\Mv S W S' wr) (fun _ wr=>Eg m wr)
 case atStart=>
  obtain ⟨S',hh,hv⟩:=HS0.out;exact ⟨0,S',by omega,hh,hv⟩
 case round=>
  obtain ⟨i,S',hi,hst,hmv⟩:=hrel;have hbw:Below B W wr:=hmv.below hge hBW;obtain ⟨SA,kA,_,backA⟩:=ah.fst (hK i) hst;obtain ⟨SM,kM,_,backM⟩:=ah.snd hCt kA;have CR:=ai (tp wr B m _ SM kM);have HL:=ai (ya kM);by_cases hlt:i < ops.length
  ·have hdr:=C_ ops i hlt;obtain ⟨o,ho⟩:∃ o,ops[i]=o:=⟨_,rfl⟩;obtain ⟨r',hr'⟩:∃ r',bE (ops.drop (i+1))=r':=⟨_,rfl⟩;have hois:o.is:=hops o (by rw [<-ho];exact Yp hlt);rw [ho,hr'] at hdr;rw [hdr] at kM CR HL;have ho8:=vr o;have hlen:(o.text++r').length<=2000000000:=by
    have h1:(bE ops).length=(bE (ops.take i)).length+(bE (ops.drop i)).length:=by
     rw [<-ZY, <-Ew,Yq]
    rw [hdr] at h1;have h2:(bE ops).length=s.size:=by rw [<-hs,aP]
    omega
   have ne:(o.text++r').isEmpty=false:=by
    cases hh:o.text++r' with
    | nil=>rw [List.append_eq_nil_iff.1 hh |>.1] at ho8;simp at ho8
    | cons x y=>rfl
   have CN:=ai (fun w2 (hb:Below B W w2) SM2 (k:o_ B m (o.text++r') w2 SM2)=>Bs w2 B m o r' SM2 hois (by rw [<-hr'];exact C' _) hlen (ZU hBW hb.size) (ht.on hb) (hm.on hb) k)
   gi_wp2
   refine ⟨trivial,rfl,(callsIn_wide.2 CR.out).mono ?_⟩;rintro e w1 ⟨rfl,rfl⟩
   gi_wp2
   refine ⟨trivial,rfl,(callsIn_wide.2 (CN.out _ hbw SM kM)).mono ?_⟩;rintro e w2 ⟨rfl,SM2,kM2,mM2⟩;obtain ⟨SA2,kA2,mA2⟩:=backM _ _ _ kM2 mM2;obtain ⟨S2,hst2,m2⟩:=backA _ _ _ kA2 mA2;have hbw2:Below B W w2:=(hmv.trans m2).below hge hBW;obtain ⟨SK,kK,_,backK⟩:=ah.snd (ah.thing hCt (o_.thing B m r')) hst2;obtain ⟨fn,tmps,assign,body,hy,hR⟩:=hY i _ _ w2 SK ⟨hlt,rfl,rfl⟩ kK hbw2;rw [ho] at hy;clear CR CN
   gi_wp2
   refine ⟨rfl,hR.mono ?_⟩;rintro e w3 (⟨rfl,SK3,kK3,mK3⟩ | ⟨rfl,SK3,kK3,mK3⟩)
   ·obtain ⟨S3,hst3,m3⟩:=backK _ _ _ kK3 mK3
    gi_wp2
    go_roundw
    case rel=>exact ⟨i+1,S3,by omega,by rw [hr'];exact hst3,(hmv.trans m2).trans m3⟩
    case measure=>
     obtain ⟨SA3,kA3,_,_⟩:=ah.fst (hK (i+1)) hst3;obtain ⟨SM3,kM3,_,_⟩:=ah.snd hCt kA3;rw [ya kM3,HL.out];simp;omega
   ·obtain ⟨S3,hst3,m3⟩:=backK _ _ _ kK3 mK3
    gi_wp2
    refine YT (results_none rfl _ _ _) rfl ?_;obtain ⟨S4,hst4,m4⟩:=ah.dropMid hst3;exact ⟨⟨_,rfl⟩,.inr ⟨S4,hst4,((hmv.trans m2).trans m3).trans m4⟩⟩
  ·have hil:i=ops.length:=by omega
   subst hil;rw [List.drop_length] at CR;have ne:(⟨(bE []).toArray⟩:ByteArray).toList.isEmpty=true:=by rw [Zm];rfl
   gi_wp2
   refine ⟨trivial,rfl,(callsIn_wide.2 CR.out).mono ?_⟩;rintro e w1 ⟨rfl,rfl⟩
   gi_wp2
   go_end0;obtain ⟨S4,hst4,m4⟩:=ah.dropMid hst;exact ⟨⟨_,rfl⟩,.inl ⟨_,S4,rfl,hst4,hmv.trans m4⟩⟩
end
section
open Go.RowKit Go.Shelf
attribute [local go_sem] Oper.semAt_some
theorem s4 (s:ByteArray) (w:World):
  CP 194 #[s] w fun e W'=>e=.returned (.func (.func 228) #[] #[zp w.heap.size])/\W'=w.alloc (.cells #[s] 9):=by
 have hmf:∀ (fn:Fn) (first cap:Array Value) (w:World),(Instr.makeFunc fn first cap).run prog w=.ok (.func fn first cap) w:=fun _ _ _ _=>rfl
 go_enter func194,ntmps194
 go_wp2;go_ret;exact ⟨rfl,rfl⟩
def BB (o:bj):List Value:=[.int .i64 o.k,.int .i64 o.a,.int .i64 o.b,.int .i64 o.c,.int .i64 o.d,.int .i64 o.e,.int .i64 o.co,.int .i64 o.ro,.string o.s]
theorem FZ {s:ByteArray} (h:s.size=0):s=⟨#[]⟩:=Zd (Array.toList_inj.1 (Zp (by rw [aP];exact h)))
theorem yO (o:bj) (ho:o.is) (w:World):
  QB 136 #[fs o] w (.agg (BB o).toArray):=by
 obtain ⟨_,_,h⟩:=ho;unfold BB fs;rcases h with ⟨hk,_,hd,he,hco,hro,_⟩ | ⟨hk,_,_,_,hco,hro,hs⟩ | ⟨hk,_,_,_,hco,hro,hs⟩ | ⟨hk,_,_,_,_,he,_⟩
 ·rw [hk,hd,he,hco,hro];exact mE w o.a o.b o.c 0 0 0 0 o.s
 ·rw [hk,hco,hro,FZ hs];exact nR w o.a o.b o.c o.d o.e 0 0 ⟨#[]⟩
 ·rw [hk,hco,hro,FZ hs];exact mM w o.a o.b o.c o.d o.e 0 0 ⟨#[]⟩
 ·rw [hk,he];exact lC w o.a o.b o.c o.d 0 o.co o.ro o.s
theorem qr {F:Fence} {k:Nat} {ops:Array Oper} {rest:List Oper} {o:Oper} {a:Act} {w:World} {Q:Exit->Act->World->Prop} (hgd:o.guard=none) (sl x:Operand) (t:TypeId)
  (ho:o.op=.call {callee:=.builtin .append,args:=#[sl,x],argTypes:=#[t,t]}) (e:TypeId) (zero:Value) (z bytes:Nat) (hi:(Tryz.prog.info? e).map (fun i=>(i.zero,i.size,i.bytes))=some (some zero,z,bytes)) (hzs:zero.cells.size=z) (hz:0 < z) (ht:Tryz.prog.underlying t=some (.slice e))
  (base:Nat) (v:Value) (n:Nat) (xs:List Value) (hs:a.eval sl=v) (h:w.ownsRow base e z v n xs) (hb:base<=w.heap.size) (ad:Addr) (m:Nat) (hx:a.eval x=.slice (some ad) 1 m) (news:List Value) (hl:news.length=z) (hnews:∀ j u,news[j]? =some u->w.cell? (ad.add j)=some u) (h1:∀ u∈news,u.oneCell'=true)
  (hn:n<=1000000000) (hby:bytes<=1000)
  (hk:∀ v' w',w'.ownsRow base e z v' (n+1) (xs++news)->w.grownBy w' v.ownBlock->(v'.ownBlock=v.ownBlock\/v'.ownBlock=some w.heap.size)->wpListIn F k prog ops Q rest (a.put o.dst v') w'):wpListIn F k prog ops Q (o::rest) a w:=by
 refine wpListIn_plain hgd fun K hK=>?_
 obtain ⟨i0,hi0,hz0,hz1,hz2⟩:=XQ hi;have hb2:(n+1)*bytes<=140737488355328:=ZU (XH (n+1) hby) (by omega);obtain ⟨v',w',hr,h2,h3,_,h4⟩:=run_append_own_at (P:=prog) w base t o.type e i0 zero z bytes ht hi0 hz0 hz1 hz2 hzs hz v n xs h ad 1 m news (by rw [hl];omega) hnews h1 (by unfold maxLen;omega) hb2 hb;unfold Oper.wpIn;refine ⟨?_,?_⟩
 ·simp [Oper.about,ho,resolve,Target.leads,XX]
 ·rw [Oper.semAt_plain F _ _ (by rw [ho];intro c hc';cases hc')];simp [execOp,ho,resolve,invoke,builtin,hs,hx,hr,Result.andThen];exact hK _ _ (hk v' w' h2 h3 h4)
def GB (row:Option Nat) (news:List Value) (kb:Nat) (l:List Value) (k:Nat) (v:Value) (w:World):Prop:=if k=kb then pO row news v w else v=l.getD k undef
theorem F9 {row:Option Nat} {news:List Value} {kb:Nat} {l:List Value} {m:Nat} (k:Nat) (v:Value) (w w':World) (_:k < m) (h:GB row news kb l k v w) (g:af w w'):GB row news kb l k v w':=by
 unfold GB at h ⊢;split at h
 ·next hk=>rw [ZN hk];exact h.on (BI g)
 ·next hk=>rw [ZO hk];exact h
theorem vV (w:World) (p t:ByteArray) (ops:List bj) (hops:∀ o∈ops,o.is) (hol:ops.length<=100000000) (xi:World->Prop) (hpre:∀ w',Below w w w'->xi w') (hpz:p.size<=2000000000)
  (HU:Hid (∀ wx,QB 107 #[p,(1048576:Int)] wx (.tuple #[t,(p.size:Int),true])))
  (HQ:Hid (∀ b,tO Fence.wide prog 228 #[zp b] w.heap.size (aS w.heap.size b [.string t]) xi 0 (fun _=>True) (Et ops) (fun i=>i=ops.length))):
  CP 148 #[p] w fun e w'=>∃ v,e=.returned (.tuple #[v,true])/\∃ S',aW w.heap.size 31 9 v ops.length (k_ ops) w' S'/\Below w w w':=by
 have HO:=ai (s4 t);refine (callsIn_wide (n:=0)).1 ?_;refine callsIn_of_wp_marks func148 rfl trivial ?_ rfl;simp only [ntmps148,List.size_toArray,ZX,ZR,Nat.reduceAdd,Nat.reduceSub,Array.replicate_succ,Array.replicate_zero,List.push_toArray,List.append_toArray,Zq,ZE]
 gi_wp2
 refine ⟨trivial,rfl,(callsIn_wide.2 (HU.out _)).mono ?_⟩;rintro e W1 ⟨rfl,hb1⟩
 gi_wp2
 refine ⟨trivial,rfl,(callsIn_wide.2 (HO.out _)).mono ?_⟩;rintro e W' ⟨rfl,rfl⟩
 gi_wp2
 obtain ⟨W2,hW2⟩:∃ W2,(W1.alloc (Obj.cells #[Value.slice none 0 0] 86)).alloc (Obj.cells #[Value.string t] 9)=W2:=⟨_,rfl⟩;have st0:∃ S,ah (aS w.heap.size (W1.heap.size+1) [.string t]) (ah (aS w.heap.size W1.heap.size [.slice none 0 0]) (ah (aW w.heap.size 31 9 (.slice none 0 0) 0 []) (Bx w.heap.size w.heap.size [[.slice none 0 0],[.bool false]]))) W2 S/\Below w w W2:=by
  obtain ⟨S1,b1⟩:=(Bx.nil w.heap.size w (by omega)).snoc [.slice none 0 0] 86 (by simp);obtain ⟨S2,b2⟩:=b1.snoc [.bool false] 4 (by simp);have b3:=(Bx.thing _ _ _).grow b2 hb1;have hz:=hb1.size;simp only [World.size_alloc] at hz;have e:∀ k,¬ ob (.slice none 0 0) k:=fun k h=>by simp [ob,Value.ownBlock] at h
  have a0:ah (aW w.heap.size 31 9 (.slice none 0 0) 0 []) (Bx w.heap.size w.heap.size [[.slice none 0 0],[.bool false]]) W1 _:=⟨_,_,aW.nil _ _ _ _,b3,fun k a=>absurd a (e k),rfl⟩;have hc3:=aS.alloc (B:=w.heap.size) (vs:=[.slice none 0 0]) (w:=W1) (t:=86) (by omega);obtain ⟨a1,_⟩:=ah.new (ah.thing (aW.thing _ _ _ _ _ _) (Bx.thing _ _ _)) a0 hc3 ((ZT _ _).alloc (ZW _) _) (fun k e=>Nat.le_of_eq (Eq.symm e));have hc4:=aS.alloc (B:=w.heap.size) (vs:=[.string t]) (w:=W1.alloc (Obj.cells #[Value.slice none 0 0] 86)) (t:=9) (by simp;omega);obtain ⟨a2,_⟩:=ah.new (ah.thing (aS.thing _ _ _) (ah.thing (aW.thing _ _ _ _ _ _) (Bx.thing _ _ _))) a1 hc4 ((ZT _ _).alloc (ZW _) _) (fun k e=>Nat.le_of_eq (Eq.symm e));have hb2:Below w w ((w.alloc (Obj.cells #[Value.slice none 0 0] 86)).alloc (Obj.cells #[Value.bool false] 4)):=((ZT _ w).alloc (ZW _) _).alloc (by simp) _;simp only [World.size_alloc] at a2;rw [<-hW2];exact ⟨_,a2,((hb2.trans (hb1.mono (by simp;omega))).alloc (by omega) _).alloc (by simp;omega) _⟩
 have HW2:=ai hW2;rw [hW2];clear hW2 hb1 HU HO;obtain ⟨S0,st0,hbel⟩:=st0;obtain ⟨h,hh⟩:∃ h,W1.heap.size=h:=⟨_,rfl⟩;rw [hh] at st0 ⊢;clear hh HW2;generalize hn:w.heap.size=n at*;have HNN:=ai hn;clear hn;have hge:=fun k=>(ah.thing (aS.thing _ _ _) (ah.thing (aS.thing _ _ _) (ah.thing (aW.thing _ _ _ _ _ _) (Bx.thing _ _ _)))).ge (k:=k) st0
 have hn5:n<=W2.heap.size:=by
  obtain ⟨S1,S2,k,_⟩:=st0;have:=k.2.2.1;have:=k.2.1;omega
 have hIt:∀ j (v:Value),aJ n (ah (aS n h [v]) (ah (aW n 31 9 v j (k_ (ops.take j))) (Bx n n [[.slice none 0 0],[.bool false]]))):=fun j v=>ah.thing (aS.thing _ _ _) (ah.thing (aW.thing _ _ _ _ _ _) (Bx.thing _ _ _))
 refine ot (B:=n) rfl (fun _=>trivial) rfl rfl (enters_of func228 (by kernel_rfl) rfl) (HQ.out _) (fun W1 hb=>hpre _ (hbel.trans hb)) (aS.thing _ _ _) ?hps
  (fun j W S=>∃ v,ah (aS n h [v]) (ah (aW n 31 9 v j (k_ (ops.take j))) (Bx n n [[.slice none 0 0],[.bool false]])) W S)
  (fun _ _ _=>False) (fun j=>aJ.any fun v=>hIt j v) (fun _=>⟨fun h=>h.elim,fun h=>h.elim,fun h=>h.elim⟩) (fun a _ _ _=>trivial) hn5 (ah.mapR st0 fun _ _ k=>⟨_,k⟩) ?round ?done (fun _ _ _ _ h _=>by obtain ⟨_,_,⟨_,_,_,h,_⟩,_⟩:=h;exact h.elim)
 case hps=>
  rintro a args a' ⟨_,_,rfl⟩;rfl
 case round=>
  rintro l' i args i' W0 ⟨hi,rfl,rfl⟩
  gi_wp2
  refine ⟨trivial,?_⟩;rintro W6 S6 ⟨v,h6⟩ hb6;obtain ⟨y2,ow,ne,f2,hlh,hgr⟩:=mi (i:=0) (Bx.thing _ _ _) rfl h6;obtain ⟨ad,cap,hform⟩:∃ ad cap,v=.slice ad i cap:=by
   rcases ow.2 with ⟨hu,hz⟩ | ⟨gg,cap,cur,hu,_⟩
   ·exact ⟨none,0,by rw [hu,hz]⟩
   ·exact ⟨_,_,hu⟩
  subst hform;obtain ⟨o,ho⟩:∃ o,ops[i]=o:=⟨_,rfl⟩;have hois:o.is:=hops o (by rw [<-ho];exact Yp hi);have HPl:Hid (∀ wx,QB 136 #[fs o] wx (.agg #[o.k,o.a,o.b,o.c,o.d,o.e,o.co,o.ro,o.s])):=fun wx=>yO o hois wx
  have etk:k_ (ops.take (i+1))=k_ (ops.take i)++BB o:=by
   rw [Zv hi,qG,ho];rfl
  have HTK:=ai etk;have HGR:=ai hgr;have hB6:n<=W6.heap.size:=ZU hn5 hb6.size;rw [ho];clear etk hgr h6 ho hois;generalize k_ (ops.take i)=xs0 at ow HTK HGR
  gi_wp2
  refine qN (fun _=>trivial) 4 _ (GB (Value.slice ad i cap).ownBlock (BB o) 3 [.slice ad i cap,fs o,.agg #[o.k,o.a,o.b,o.c,o.d,o.e,o.co,o.ro,o.s],undef]) (by kernel_rfl) rfl (by kernel_rfl) (by kernel_rfl) F9 ?_;simp only [TD];refine ⟨fun w1 hG hd=>?_,fun v0=>?_⟩
  ·clear hd;have cc:=(Zc hG (p:=h) hlh).trans y2
   gi_wp2
   exact RG
  simp only [TN];refine ⟨fun w1 hG hd=>?_,fun v1=>?_⟩
  ·clear hd
   gi_wp2
   exact RG
  simp only [TN];refine ⟨fun w1 hG hd=>?_,fun v2=>?_⟩
  ·have d1:v1=fs o:=hd ⟨1,.data⟩ (by simp) rfl;clear hd;subst d1;have HX:=ai (HPl.out w1)
   gi_wp2
   refine ⟨trivial,rfl,(CallsIn.inRound l' (callsIn_wide.2 HX.out)).mono ?_⟩;rintro e w2 ⟨rfl,hB2⟩
   gi_wp2
   exact ⟨rfl,hB2⟩
  simp only [TN];refine ⟨fun w1 hG hd=>?_,fun v3=>?_⟩
  ·have d2:v2=.agg #[o.k,o.a,o.b,o.c,o.d,o.e,o.co,o.ro,o.s]:=hd ⟨2,.data⟩ (by simp) rfl;clear hd;subst d2
   gi_wp2
   exact ⟨jI _ _ (fun k hk=>ZK (ow.lt k hk).2 hG.size),(ZT _ _).alloc (ZW _) _⟩
  simp only [TN];intro w1 hG hd;have d0:v0=.slice ad i cap:=hd 0 (by omega);have d3:pO _ _ v3 w1:=hd 3 (by omega);subst d0;obtain ⟨nb,rfl,hnb,hnr,hnc⟩:=d3;have ow1:=oY ow hG;refine qr rfl (.tmp 30) (.tmp 33) 86 rfl 31 (.agg #[oz,oz,oz,oz,oz,oz,oz,oz,.string ⟨#[]⟩]) 9 80 Tryz.infoOp rfl (by omega) underlying86 n _ i xs0 rfl ow1 (ZU hB6 hG.size) ⟨nb,0,none⟩ 1 rfl (BB o) rfl (fun j u hj=>by cases j with
   | zero=>simpa [Addr.add] using hnc 0 u hj
   | succ j=>simpa [Addr.add] using hnc (j+1) u hj) (by unfold BB;intro u hu;simp at hu;rcases hu with rfl | rfl | rfl | rfl | rfl | rfl | rfl | rfl | rfl <;> rfl) (by omega) (by omega) ?_
  intro v7 w7 hO7 hg7 hat7;have hg8:W6.grownBy w7 (Value.slice ad i cap).ownBlock:=fE (row:=(Value.slice ad i cap).ownBlock) hG hg7;have ha8:gq W6 (Value.slice ad i cap).ownBlock n 31 9 (i+1) (xs0++BB o) v7 w7:=⟨hO7,hat7.elim .inl (fun e=>.inr ⟨_,e,hG.size⟩)⟩;have HX:=ai (HGR.out _ _ _ _ hg8 ha8);obtain ⟨ad7,cap7,hv7⟩:=ha8.form;subst hv7;have kb:=hg8.block h hlh (fun e=>ne e.symm);have k1:=(ZQ (a:=h) kb).trans y2;have kf1:=(ZH (a:=h) kb).trans f2;clear hd kb y2 f2 ow ow1 hO7 hg7 hat7 ha8 hg8 HGR HPl
  gi_wp2
  obtain ⟨S',h',m'⟩:=HX.out;refine ⟨S',⟨.slice ad7 (i+1) cap7,?_⟩,m'⟩;rw [HTK.out];exact h'
 case done=>
  rintro D j W6 S6 rfl hs hm;obtain ⟨T1,k1,_,back1⟩:=ah.fst (Ob.thing _ _ _) hs;obtain ⟨T2,⟨v,k2⟩,_,back2⟩:=ah.snd (aS.thing _ _ _) k1;obtain ⟨T3,kc,_,_⟩:=ah.fst (ah.thing (aW.thing _ _ _ _ _ _) (Bx.thing _ _ _)) k2;obtain ⟨T5,kb,_,back5⟩:=ah.third (aS.thing _ _ _) (aW.thing _ _ _ _ _ _) k2;obtain ⟨T6,kr,_,_⟩:=ah.mid (aS.thing _ _ _) (Bx.thing _ _ _) k2;obtain ⟨ad,cap,hv⟩:=kr.form;subst hv;have y2:W6.cell? h=some (.slice ad ops.length cap):=kc.at 0 _ rfl;have b0:W6.cell? n=some (.slice none 0 0):=kb.at 0 0 _ _ rfl rfl;have b1:W6.cell? (zp (n+1))=false:=kb.at 1 0 _ _ rfl rfl;have f0:W6.frozen? n=false:=kb.fz 0 0 (by simp);have f1:W6.frozen? (zp (n+1))=false:=kb.fz 1 0 (by simp)
  gi_wp2
  obtain ⟨q1,m1⟩:=kb.set 0 0 _ (.slice ad ops.length cap) rfl (by simp);obtain ⟨q2,m2⟩:=q1.set 1 0 _ (.bool true) rfl (by simp);obtain ⟨U1,u1,n1⟩:=back5 _ _ _ q2 (m1.trans m2);obtain ⟨U2,u2,n2⟩:=back2 _ _ _ u1 n1;obtain ⟨U3,u3,n3⟩:=back1 _ _ _ u2 n2;obtain ⟨T7,k7,_,back7⟩:=ah.snd (ah.thing (aS.thing _ _ _) (ah.thing (aS.thing _ _ _) (ah.thing (aW.thing _ _ _ _ _ _) (Bx.thing _ _ _)))) u3;obtain ⟨p8,m8⟩:=k7.put (.deferred none);obtain ⟨T8,k8,m9⟩:=back7 _ _ _ p8 m8;obtain ⟨T9,k9,_⟩:=ah.drop k8;obtain ⟨T10,k10,_⟩:=ah.drop (ah.swap k9);obtain ⟨T11,k11,_⟩:=ah.drop (ah.swap k10);obtain ⟨T12,k12,_⟩:=ah.drop k11;obtain ⟨T13,k13,_⟩:=ah.drop (ah.swap k11);have e1:(((W6.setCell n (.slice ad ops.length cap)).setCell (zp (n+1)) true).putObj D (.deferred none)).cell? n=some (.slice ad ops.length cap):=k13.at 0 0 _ _ rfl rfl;have e2:(((W6.setCell n (.slice ad ops.length cap)).setCell (zp (n+1)) true).putObj D (.deferred none)).cell? (zp (n+1))=true:=k13.at 1 0 _ _ rfl rfl;refine ⟨by simp,.inl ⟨_,_,rfl,run_takeDeferred k7.2.2,?_⟩⟩;refine ⟨.tuple #[.slice ad ops.length cap,true],?_,_,rfl,T12,?_,?_⟩
  ·simp [results,f148,go_sem,e1,e2]
  ·rw [HNN.out];rw [Zy (ZW _)] at k12;exact k12
  ·rw [HNN.out];exact hbel.trans (((hm.trans n3).trans m9).below hge hn5)
end
theorem fH.mono {B B':Nat} {w:World} (h:fH B w) (hb:B<=B'):fH B' w:=⟨ZK h.1 hb,h.2⟩
theorem xr (W:World) (B:Nat) (Z:List UInt8) (ops:List bj) (hu:Pm.bP Z=some (bE ops,Z.length)) (hl:(bE ops).length<=1048576) (hops:∀ o∈ops,o.is) (hZ:Z.length<=2000000000) (hB:B<=W.heap.size) (ht:bU B W) (hm:fH B W):
  CP 148 #[.string ⟨Z.toArray⟩] W fun e w'=>∃ v,e=.returned (.tuple #[v,true])/\∃ S',aW B 31 9 v ops.length (k_ ops) w' S'/\(∀ k,S' k->W.heap.size<=k)/\Below W W w':=by
 have hol:=nE ops;refine (vV W ⟨Z.toArray⟩ ⟨(bE ops).toArray⟩ ops hops (by omega) (fun w'=>bU W.heap.size w'/\fH W.heap.size w') (fun w' hb=>⟨(qU ht hB).on hb,(hm.mono hB).on hb⟩) (by rw [ae];exact hZ) ?_ ?_).mono ?_
 ·intro wx;have:=yC wx ⟨Z.toArray⟩ (by rw [ae];omega);rw [show (⟨Z.toArray⟩:ByteArray).data.toList=Z by simp,hu] at this;rw [ae];exact this
 ·intro b;exact FF W.heap.size b ⟨(bE ops).toArray⟩ ops (by simp) (by rw [ae];omega) hops
 ·rintro e w' ⟨v,rfl,S',k,hb⟩;refine ⟨v,rfl,S',⟨k.1,World.ownsRow.mono k.2 hB⟩,fun j hj=>(aW.thing W.heap.size _ _ _ _ _).ge k hj,hb⟩
section
variable (Zs:List (List UInt8)) (zs:List (Int×Int)) (ms:List (List UInt8×Nat)) (t:List UInt8)
def vH:List Nat:=eH Zs zs ms t++[(ft Zs zs ms t).length]
theorem xc:(vH Zs zs ms t).length=(bX Zs zs ms t).length+1:=by
 unfold vH;rw [ZY,jt,gD];rfl
theorem DP (k:Nat) (h:k < (bX Zs zs ms t).length+1):(vH Zs zs ms t)[k]? =some (9+(aF 1 ((bX Zs zs ms t).take k)).length):=by
 have hb:(eH Zs zs ms t).length=(bX Zs zs ms t).length:=by rw [jt,gD]
 unfold vH;by_cases hk:k < (bX Zs zs ms t).length
 ·rw [YE (by omega),jt];exact xf (bX Zs zs ms t) 9 1 k hk
 ·have e:k=(bX Zs zs ms t).length:=by omega
  subst e;rw [Zb (by omega),hb,Nat.sub_self,Ya];simp [ft,bi];omega
theorem vK (k:Nat) (h:k < (vH Zs zs ms t).length):(vH Zs zs ms t)[k]=9+(aF 1 ((bX Zs zs ms t).take k)).length:=
 (Zx.1 (DP Zs zs ms t k (by rw [xc] at h;exact h))).2
theorem DM (k:Nat) (h:k+1 < (vH Zs zs ms t).length):B9 (vH Zs zs ms t) (k+1)=9+(aF 1 ((bX Zs zs ms t).take k)).length:=by
 unfold B9;rw [ZO (by omega),Nat.add_sub_cancel,ZJ,ZM (by omega)];exact vK Zs zs ms t k (by omega)
theorem yM (s:ByteArray) (hs:s.data.toList=fO Zs zs ms t) (k:Nat) (h:k < (bX Zs zs ms t).length):
  (s.extract (9+(aF 1 ((bX Zs zs ms t).take k)).length) (9+(aF 1 ((bX Zs zs ms t).take (k+1))).length)).data.toList=aK (1+k) (bX Zs zs ms t)[k]/\9+(aF 1 ((bX Zs zs ms t).take (k+1))).length<=s.size/\(aF 1 ((bX Zs zs ms t).take (k+1))).length=(aF 1 ((bX Zs zs ms t).take k)).length+(aK (1+k) (bX Zs zs ms t)[k]).length:=by
 have e1:=yz (bX Zs zs ms t) 1 k h;have e2:aF 1 ((bX Zs zs ms t).take (k+1))=aF 1 ((bX Zs zs ms t).take k)++aK (1+k) (bX Zs zs ms t)[k]:=by
  rw [Zv h,fj,Ze,Yr (by omega)]
 rw [xA,ft,e1] at hs;obtain ⟨R,hR⟩:∃ R,s.data.toList=(bi++aF 1 ((bX Zs zs ms t).take k))++(aK (1+k) (bX Zs zs ms t)[k]++R):=⟨_,by rw [hs];simp only [ZS];rfl⟩;have hl:s.size=9+(aF 1 ((bX Zs zs ms t).take k)).length+(aK (1+k) (bX Zs zs ms t)[k]).length+R.length:=by
  rw [<-aP,hR];simp [bi];omega
 have e3:(aF 1 ((bX Zs zs ms t).take (k+1))).length=(aF 1 ((bX Zs zs ms t).take k)).length+(aK (1+k) (bX Zs zs ms t)[k]).length:=by rw [e2,ZY]
 refine ⟨?_,by omega,e3⟩;rw [Zg,YV];simp only [List.extract];rw [hR,List.drop_left' (by simp [bi];omega),e3];rw [show 9+((aF 1 ((bX Zs zs ms t).take k)).length+(aK (1+k) (bX Zs zs ms t)[k]).length) - (9+(aF 1 ((bX Zs zs ms t).take k)).length)=(aK (1+k) (bX Zs zs ms t)[k]).length by omega];exact List.take_left
end
theorem Ao (n:Nat) (h:n < 10000000000):(Lib.itoa (n:Int)).length<=10:=by
 have:=jr n h;unfold gr at this;rw [ZY] at this;omega
theorem zd (n c i:Nat):Lib.atoi ((iL n c i).take 10)=none/\20<=(iL n c i).length:=by
 constructor
 ·rfl
 ·simp [iL];omega
theorem wt (w:World) (B:Nat) (s:ByteArray) (Zs:List (List UInt8)) (zs:List (Int×Int)) (ms:List (List UInt8×Nat)) (t:List UInt8) (hs:s.data.toList=fO Zs zs ms t) (hsz:s.size<=2000000000) (hl:Zs.length=zs.length) (hz:zs.length<=80) (hzs:∀ z∈zs,bG z.1 1 14400000/\bG z.2 1 14400000) (hm:ms.length<=20) (hms:∀ m∈ms,(0 < m.1.length/\m.1.length<=100)/\m.2 < zs.length) (hso:pz 0 ms) (htl:t.length<=100) (hal:(bX Zs zs ms t).length<=100000)
  (hB:B<=w.heap.size) (ht:bU B w) (hml:fH B w) (he:nA B w):
  CP 96 #[s] w fun e w'=>∃ l,e=.returned (.tuple #[zp l,true])/\∃ S',cw w.heap.size l (Bh Zs zs ms t) w' S'/\Below w w w':=by
 obtain ⟨hok,hrun⟩:=Fa Zs zs ms t hl hz hzs hm hms hso htl;have hel:=u6 _ _ _ _ hok;have hP:∀ w',Below w w w'->bU w.heap.size w'/\fH w.heap.size w'/\nA w.heap.size w':=fun w' hb=>⟨(qU ht hB).on hb,(hml.mono hB).on hb,nA.on (B:=w.heap.size) ⟨ZK he.1 hB,he.2⟩ hb⟩
 have hfa:=xA Zs zs ms t;have hMl:=xc Zs zs ms t;have hblen:(eH Zs zs ms t).length=(bX Zs zs ms t).length:=by rw [jt,gD]
 have hah:(ft Zs zs ms t).length<=s.size:=by rw [<-aP,hs,hfa];simp only [ZY];omega
 have hbl:∀ n∈eH Zs zs ms t,n<=2000000000:=by
  intro n hn;rw [jt] at hn;have:=iT _ _ _ n hn;have e:(ft Zs zs ms t).length=9+(aF 1 (bX Zs zs ms t)).length:=by rw [ft,ZY];rfl
  omega
 have hTk:∀ j l W S (h:j < (bX Zs zs ms t).length),Below w w W->cw w.heap.size l (run qI 1 ((xv Zs zs ms t).take j)) W S->CP 143 #[zp l,((j+1:Nat):Int),.string ⟨((bX Zs zs ms t)[j]).toArray⟩] W fun e w'=>e=.returned true/\∃ S',cw w.heap.size l (run qI 1 ((xv Zs zs ms t).take (j+1))) w' S'/\Mv S W S' w':=by
  intro j l W S h hb hL;obtain ⟨p1,p2,_⟩:=hP W hb;obtain ⟨q1,q2⟩:=yA _ _ qI 1 j h (by omega) hok;rw [EM _ _ _ _ (by omega:j < (xv Zs zs ms t).length)];rw [show 1+j=j+1 by omega] at q2 ⊢;refine EV W w.heap.size l (j+1) _ S _ _ _ (by simp) ?_ q1 q2 hb.size p1 p2 hL;have hp:=yM Zs zs ms t s hs j h;have:(aK (1+j) (bX Zs zs ms t)[j]).length=(aL (1+j)).length+((bX Zs zs ms t)[j].length+8):=by simp [aK,eh]
  rw [ae];omega
 refine (ua w s (bX Zs zs ms t) (fun j=>run qI 1 ((xv Zs zs ms t).take j)) (fun w'=>Below w w w') (ZT _ _) (fun _ h=>h) rfl ?_ ?_ ?_ hTk).mono ?_
 ·simp only [<-hel,Ya,hrun,Bh,nh,hl]
 ·simp only [<-hel,Ya,hrun,Bh];omega
 ·intro b;refine yy w.heap.size b s (vH Zs zs ms t) (bX Zs zs ms t) _ (fun _ _ h1 h2=>h1.trans h2) hMl (by omega) hsz ?_ ?_ ?_
  ·intro i h;rw [vK];constructor
   ·cases i with
    | zero=>simp [B9]
    | succ i=>
     rw [DM _ _ _ _ i h];have:=(yM Zs zs ms t s hs i (by omega)).2.2;omega
   ·cases i with
    | zero=>simp [aF];rw [<-aP,hs,hfa];simp [ft,bi]
    | succ i=>exact (yM Zs zs ms t s hs i (by omega)).2.1
  ·intro b;have hq:=zE w.heap.size b s (ft Zs zs ms t).length (eH Zs zs ms t) (iL ((eH Zs zs ms t).length+1) (l7 (cK Zs) zs ms t) (fo (cK Zs) zs ms t)) (fun w'=>Below w w w') (fun _ _ h1 h2=>h1.trans h2) (fun w' hb=>(hP w' hb).2.2) ?_ ?_ (zd _ _ _).2 (zd _ _ _).1 ?_
   ·rw [hblen] at hq;exact hq
   ·intro W hb hBW;obtain ⟨_,p2,_⟩:=hP W hb;have hsx:s.data.toList=ft Zs zs ms t++(([120,114,101,102]++10::(([48,32]++Lib.itoa (((eH Zs zs ms t).length+1:Nat):Int))++10::([48,48,48,48,48,48,48,48,48,48,32,54,53,53,51,53,32,102,32]++10::(bR (eH Zs zs ms t)++iL ((eH Zs zs ms t).length+1) (l7 (cK Zs) zs ms t) (fo (cK Zs) zs ms t)))))++([115,116,97,114,116,120,114,101,102,10]++(Lib.itoa ((ft Zs zs ms t).length:Int)++10::[37,37,69,79,70,10]))):=by rw [hs,hfa];rfl
    refine yZ W w.heap.size s _ _ _ _ _ _ _ hsx (by decide) ?_ (by decide) (oN _) ?_ (CF _) ?_ hsz p2 hBW
    ·intro h;rcases Zu.1 h with h | h
     ·revert h;decide
     ·exact oN _ h
    ·have h9:=Ao (ft Zs zs ms t).length (by omega);omega
    ·have h0:=wq (ft Zs zs ms t++FR Zs zs ms t) (D1 (ft Zs zs ms t).length) (Fg _);rw [ZS, <-hfa, <-hs] at h0;exact h0
   ·intro n hn;exact ⟨jr n (by have:=hbl n hn;omega),DO n⟩
   ·have:(bR (eH Zs zs ms t)++iL ((eH Zs zs ms t).length+1) (l7 (cK Zs) zs ms t) (fo (cK Zs) zs ms t)).length<=s.size:=by
     rw [<-aP,hs,hfa];simp only [FR,EK,ZY,ZX];omega
    omega
  ·intro i h h' W hb hBW;obtain ⟨_,p2,_⟩:=hP W hb;obtain ⟨p3,p4,_⟩:=yM Zs zs ms t s hs i h';rw [DM _ _ _ _ i h,vK];refine (zK W w.heap.size _ (Lib.itoa ((1+i:Nat):Int)++[32,48,32,111,98,106]) (bX Zs zs ms t)[i] ?_ ?_ ?_ p2).mono ?_
   ·rw [p3];simp [aK,aL,eh]
   ·intro hh;rcases Zu.1 hh with hh | hh
    ·exact oN _ hh
    ·revert hh;decide
   ·rw [<-aP,p3];have:=(yM Zs zs ms t s hs i h').2.2;omega
   ·rintro e w' ⟨rfl,q,rfl⟩;exact ⟨rfl,⟨rfl,rfl,rfl,ZW _,fun _ _=>rfl⟩⟩
 ·rintro e w' ⟨l,rfl,S',k,hb⟩;simp only [<-hel,Ya,hrun] at k;exact ⟨l,rfl,S',k,hb⟩
theorem Bm (B m:Nat) (t0:List UInt8):ko B (zx B m t0) (fun _ _ _=>False) (fun X=>X <+:t0) 2000000000 190 (zp m) (zp m) 355 0 undef where
 thing:=(ji B m t0).thing
 hn:=yp m
 hm:=uS m
 he:=sJ
 okp:=fun X Y h=>(YP X Y).trans h
 kok:=by
  rintro w S X ⟨r,e,_⟩;exact ⟨r,e.symm⟩
 write:=by
  intro w S X s hK _ hok;refine ((ji B m t0).write w S X s hK hok).mono ?_;rintro e w' ⟨rfl,S',h',m'⟩;exact .inl ⟨hok,rfl,S',h',m'⟩
theorem xC (w:World) (ty:TypeId) (q:Value):CP 57 #[.iface ty q] w fun e w'=>e=.returned (zp (w.heap.size+1))/\w'=(w.alloc (.cells #[.iface ty q,oz] 208)).alloc (.cells #[zp w.heap.size,.slice none 0 0,.slice none 0 0] 166):=by
 have HN:=ai (nQ w ty q);go_enter func57,ntmps57
 go_wp2_with fail
 refine HN.out.mono ?_;rintro e w1 ⟨rfl,rfl⟩;go_wp2;go_ret;exact ⟨rfl,rfl⟩
theorem xR (w:World) (l n cap capc cm km mb fb:Nat) (s:ByteArray) (aa ac am:Option Addr) (ti:ByteArray) (cL:Nat->Int) (sh:Nat->Int×Int) (cs:Nat->ByteArray) (I:Nat->World->Prop) (J J2:World->Prop)
  (hn:n<=80) (hcap:n<=cap) (hcap2:cap<=9223372036854775807) (hcapc:n<=capc) (hcapc2:capc<=9223372036854775807)
  (HM:Hid (CP 144 #[s] w fun e w'=>e=.returned (zp mb)/\J w'))
  (HN:Hid (∀ wx,J wx->CP 57 #[.iface 190 (zp mb)] wx fun e w'=>e=.returned (zp fb)/\I 0 w'))
  (FC:Hid (∀ i wx,I i wx->wx.cell? l=some (.string ti)/\wx.cell? (zq l 1)=some (.slice aa n cap)/\wx.cell? (zq l 2)=some (.slice ac n capc)/\wx.cell? (zq l 3)=some (.slice am cm km)))
  (FS:Hid (∀ i wx,i < n->I i wx->∃ g gc,aa=some ⟨g,0,none⟩/\ac=some ⟨gc,0,none⟩/\wx.cell? (zq g (i*3))=some (.int .i64 (cL i))/\wx.cell? (zq g (i*3+1))=some (.int .i64 (sh i).1)/\wx.cell? (zq g (i*3+2))=some (.int .i64 (sh i).2)/\wx.cell? (zq gc i)=some (.string (cs i))))
  (HI:Hid (∀ i wx w',I i wx->Below wx wx w'->I i w'))
  (HP:Hid (∀ i wx,i < n->I i wx->CP 145 #[zp fb,.int .i64 (sh i).1,.int .i64 (sh i).2,.string (cs i)] wx fun e w'=>e=.returned .nilIface/\I (i+1) w'))
  (HE:Hid (∀ wx,I n wx->CP 95 #[zp fb,ti,.slice am cm km] wx fun e w'=>e=.returned .nilIface/\J2 w'))
  (HR:Hid (∀ wx,J2 wx->QE 146 #[zp mb] wx (.string ⟨#[]⟩))):
  CP 97 #[zp l,s] w fun e w'=>e=.returned true/\J2 w':=by
 go_enter func97,ntmps97
 go_wp2_with fail
 refine HM.out.mono ?_;rintro e w1 ⟨rfl,hJ⟩;go_wp2_with fail
 refine (HN.out _ hJ).mono ?_;rintro e w2 ⟨rfl,hI⟩;obtain ⟨c0,c1,c2,c3⟩:=FC.out 0 w2 hI;have HI0:=ai hI;clear HM HN hJ hI c0 c2 c3;go_wp2;go_loopg [19] (n+1) (fun k x wr=>∃ i:Nat,i<=n/\n - i < k/\x=.int .i64 (i:Int)/\I i wr)
 case atStart=>exact ⟨0,by omega,by omega,rfl,HI0.out⟩
 case round=>
  obtain ⟨i,hi,hk,rfl,hIi⟩:=hrel;by_cases hlt:i < n
  ·obtain ⟨g,gc,e1,e2,r0,r1,r2,r3⟩:=FS.out i wr hlt hIi;subst e1 e2;obtain ⟨c0,c1,c2,c3⟩:=FC.out i wr hIi;have HC:Hid (∀ wx,Below wr wr wx->CP 145 #[zp fb,.int .i64 (sh i).1,.int .i64 (sh i).2,.string (cs i)] wx fun e w'=>e=.returned .nilIface/\I (i+1) w'):=fun wx hb=>HP.out i wx hlt (HI.out i wr wx hIi hb)
   have hlr:=ZD wr _ c2;have hgr:=ZD wr _ r3;dsimp only at hlr hgr;have d1:decide ((i:Int) < (n:Int))=true:=by simp;omega
   generalize cL i=z0 at r0;obtain ⟨z1,hz1⟩:∃ z,(sh i).1=z:=⟨_,rfl⟩;obtain ⟨z2,hz2⟩:∃ z,(sh i).2=z:=⟨_,rfl⟩;obtain ⟨z3,hz3⟩:∃ z,cs i=z:=⟨_,rfl⟩;rw [hz1] at r1 HC;rw [hz2] at r2 HC;rw [hz3] at r3 HC;clear hz1 hz2 hz3 c0 c3;go_wp2_with fail
   have hba:Below wr wr (wr.alloc (Obj.cells #[Value.int IntKind.i64 z0,Value.int IntKind.i64 z1,Value.int IntKind.i64 z2] 193)):=(ZT _ wr).alloc (ZW _) _;have a1:(wr.alloc (Obj.cells #[Value.int IntKind.i64 z0,Value.int IntKind.i64 z1,Value.int IntKind.i64 z2] 193)).cell? (zq wr 1)=z1:=(aS.alloc (B:=0) (vs:=[.int .i64 z0,.int .i64 z1,.int .i64 z2]) (YO _)).at 1 _ rfl;have a2:(wr.alloc (Obj.cells #[Value.int IntKind.i64 z0,Value.int IntKind.i64 z1,Value.int IntKind.i64 z2] 193)).cell? (zq wr 2)=z2:=(aS.alloc (B:=0) (vs:=[.int .i64 z0,.int .i64 z1,.int .i64 z2]) (YO _)).at 2 _ rfl;replace c2:=(hba.cell (p:=zq l 2) hlr).trans c2;replace r3:=(hba.cell (p:=zq gc i) hgr).trans r3;have HC2:Hid (∀ q,CP 145 #[zp fb,z1,z2,z3] ((wr.alloc (Obj.cells #[Value.int IntKind.i64 z0,Value.int IntKind.i64 z1,Value.int IntKind.i64 z2] 193)).drewN q) fun e w'=>e=.returned .nilIface/\I (i+1) w'):=fun q=>HC.out _ ⟨hba.os,hba.tape,hba.output,hba.size,hba.block⟩
   generalize wr.alloc (Obj.cells #[Value.int IntKind.i64 z0,Value.int IntKind.i64 z1,Value.int IntKind.i64 z2] 193)=wa at a1 a2 c2 r3 HC2 ⊢;refine bO 12 (by kernel_rfl) (by kernel_rfl) ?_;simp only [TD]
   repeat (go_big_quiet_step (fail))
   refine Ym ?_;intro _ hw';obtain ⟨nq2,hw''⟩:=hw';subst hw'';go_wp2_with fail
   refine (HC2.out nq2).mono ?_;rintro e w5 ⟨rfl,hI5⟩;clear HC HC2 a1 a2 c1 c2 r0 r1 r2 r3;go_wp2;go_roundg (gk - 1)
   case measure=>omega
   case rel=>exact ⟨i+1,by omega,by omega,by congr 1,hI5⟩
  ·have e:i=n:=by omega
   subst e;have d1:decide ((i:Int) < (i:Int))=false:=by simp
   obtain ⟨c0,c1,c2,c3⟩:=FC.out i wr hIi;have HC:=ai (fun q=>HE.out (wr.drewN q) (HI.out i wr _ hIi ⟨rfl,rfl,rfl,ZW _,fun _ _=>rfl⟩));clear HE HP FS;go_wp2_with fail
   refine bO 9 (by kernel_rfl) (by kernel_rfl) ?_;simp only [TD]
   repeat (go_big_quiet_step (fail))
   refine Ym ?_;intro _ hw';obtain ⟨nq2,hw''⟩:=hw';subst hw'';go_wp2_with fail
   refine (HC.out nq2).mono ?_;rintro e w5 ⟨rfl,hJ5⟩;have HRR:=ai (HR.out w5 hJ5);clear HC HR c0 c1 c2 c3;go_wp2_with fail
   refine HRR.out.mono ?_;rintro e w6 ⟨rfl,rfl⟩;go_wp2;go_ret;exact ⟨rfl,hJ5⟩
def dQ (Zs:List (List UInt8)) (i:Nat):List UInt8:=if i=0 then [] else aC (Zs.take i)
theorem EY (Zs:List (List UInt8)):aC Zs≠[]:=by simp [aC,bi]
theorem vg (Zs:List (List UInt8)) (i:Nat):dQ Zs i++eW (dQ Zs i)=aC (Zs.take i):=by
 unfold dQ;split
 ·next h=>subst h;simp [eW,aC,bW]
 ·unfold eW;rw [ZO (EY _),YZ]
theorem BZ {α:Type} (l:List α) (i:Nat) (h:i < l.length):l.take (i+1)=l.take i++[l[i]]:=Zv h
theorem BQ (Zs:List (List UInt8)) (i:Nat) (h:i < Zs.length):dQ Zs i++Dd (dQ Zs i) (2*i) Zs[i]=dQ Zs (i+1):=by
 unfold Dd;have e:dQ Zs (i+1)=aC (Zs.take i)++d_ i Zs[i]:=by
  unfold dQ;rw [ZO (by omega),BZ Zs i h,aC,lG,Ze,Yr (by omega),YF, <-ZS];rfl
 rw [e, <-vg];simp [d_,ZS]
theorem zO (Zs:List (List UInt8)) (i:Nat) (h:i < Zs.length):be 9 0 (Zs.take i)++[(dQ Zs i).length+(eW (dQ Zs i)).length]++[(dQ Zs i++(eW (dQ Zs i)++(aL (2*i+1)++cX (2*i+2)))++Zs[i]).length+18]=be 9 0 (Zs.take (i+1)):=by
 have e0:(dQ Zs i).length+(eW (dQ Zs i)).length=9+(bW 0 (Zs.take i)).length:=by
  rw [<-ZY,vg,aC,ZY];rfl
 rw [BZ Zs i h,lF,Ze,Yr (by omega),YF,e0,sF,ZS];congr 1;have e1:fC.length=18:=rfl;simp only [ZE,Zq,ZY,e1];congr 2;omega
theorem vn (Zs:List (List UInt8)) (i:Nat):dQ Zs i <+:aC Zs:=by
 unfold dQ;split
 ·exact List.nil_prefix
 ·unfold aC;have:∀ (k:Nat) (l m:List (List UInt8)),bW k l <+:bW k (l++m):=by
   intro k l;induction l generalizing k with
   | nil=>intro m;simp [bW]
   | cons a r ih=>intro m;simp only [ZE,bW];exact (List.prefix_append_right_inj _).2 (ih (k+1) m)
  have h:=this 0 (Zs.take i) (Zs.drop i);rw [Yq] at h;exact (List.prefix_append_right_inj _).2 h
theorem Af {B:Nat} {w:World} {t0:List UInt8} (m:Nat) (hB:B<=w.heap.size) {S:Bl} (h:o_ B m t0 w S) (hm:m < w.heap.size):
  ∃ S',aX (zx B m t0) B (w.heap.size+1) w.heap.size 190 (zp m) [] [] [] ((w.alloc (.cells #[.iface 190 (zp m),oz] 208)).alloc (.cells #[zp w.heap.size,.slice none 0 0,.slice none 0 0] 166)) S'/\(∀ k,S' k->S k\/w.heap.size<=k):=by
 have e:∀ k,¬ ob (.slice none 0 0) k:=fun k h=>by simp [ob,Value.ownBlock] at h
 obtain ⟨w1,hw1⟩:∃ w1,w.alloc (.cells #[.iface 190 (zp m),oz] 208)=w1:=⟨_,rfl⟩;have hz1:w1.heap.size=w.heap.size+1:=by rw [<-hw1];simp
 have hb1:Below w w w1:=by rw [<-hw1];exact (ZT _ w).alloc (ZW _) _
 have hc1:aS B w.heap.size [.iface 190 (zp m),.int .i64 0] w1 (cC w.heap.size):=by rw [<-hw1];exact aS.alloc hB
 have hSm:S=cC m:=h.1;rw [hw1];have hf:aS B (w.heap.size+1) [.pointer (some ⟨w,0,none⟩),.slice none 0 0,.slice none 0 0] (w1.alloc (.cells #[zp w.heap.size,.slice none 0 0,.slice none 0 0] 166)) (cC (w.heap.size+1)):=by
  have:=aS.alloc (B:=B) (vs:=[.pointer (some ⟨w,0,none⟩),.slice none 0 0,.slice none 0 0]) (w:=w1) (t:=166) (by omega);rw [hz1] at this;exact this
 have hb2:Below w1 w1 (w1.alloc (.cells #[zp w.heap.size,.slice none 0 0,.slice none 0 0] 166)):=(ZT _ w1).alloc (ZW _) _;obtain ⟨w2,hw2⟩:∃ w2,w1.alloc (.cells #[zp w.heap.size,.slice none 0 0,.slice none 0 0] 166)=w2:=⟨_,rfl⟩;rw [hw2] at hf hb2 ⊢;have hM2:=(o_.thing B m t0).grow ((o_.thing B m t0).grow h hb1) hb2;have hc2:=(aS.thing B _ _).grow hc1 hb2;refine ⟨cT (cT (cC (w.heap.size+1)) (cT (ob (.slice none 0 0)) (ob (.slice none 0 0)))) (cT (cC w.heap.size) S),⟨_,_,⟨.slice none 0 0,.slice none 0 0,cC (w.heap.size+1),_,hf,⟨_,_,aW.nil _ _ _ _,aW.nil _ _ _ _,fun k a=>absurd a (e k),rfl⟩,?_,rfl⟩,⟨S,⟨t0,rfl,hM2⟩,rfl,hB,?_,by have:=hb2.size;omega,by simp,hc2.at 0 _ rfl,hc2.at 1 _ rfl,hc2.fz⟩,?_,rfl⟩,?_⟩
 ·rintro k _ (a | a) <;> exact e k a
 ·rw [hSm];intro a;have a':w.heap.size=m:=a;omega
 ·rintro k (a | a | a) (b | b)
  ·have a':k=w.heap.size+1:=a;have b':k=w.heap.size:=b;omega
  ·rw [hSm] at b;have a':k=w.heap.size+1:=a;have b':k=m:=b;omega
  all_goals exact absurd a (e k)
 ·rintro k ((a | a | a) | (a | a))
  ·exact .inr (by have a':k=w.heap.size+1:=a;omega)
  ·exact absurd a (e k)
  ·exact absurd a (e k)
  ·exact .inr (by have a':k=w.heap.size:=a;omega)
  ·exact .inl a
theorem yo (w:World) (s:ByteArray):
  CP 144 #[s] w fun e w'=>e=.returned (zp w.heap.size)/\w'=w.alloc (.cells #[s] 240):=by
 go_enter func144,ntmps144
 go_wp2;go_ret;exact ⟨rfl,rfl⟩
def g6 (B l:Nat) (x:ip) (aa ac am:Option Addr) (ks kc km:Nat):As:=ah (aS B l [.string x.ti,.slice aa x.sh.length ks,.slice ac x.cs.length kc,.slice am x.ms.length km]) (io B x (.slice aa x.sh.length ks) (.slice ac x.cs.length kc) (.slice am x.ms.length km))
theorem g6.thing (B l:Nat) (x:ip) (aa ac am:Option Addr) (ks kc km:Nat):aJ B (g6 B l x aa ac am ks kc km):=ah.thing (aS.thing _ _ _) (io.thing _ _ _ _ _)
theorem g6.close {B l:Nat} {x:ip} {aa ac am:Option Addr} {ks kc km:Nat} {w:World} {S:Bl} (h:g6 B l x aa ac am ks kc km w S):cw B l x w S:=⟨(_,_,_),h⟩
theorem g6.lies {B l:Nat} {x:ip} {aa ac am:Option Addr} {ks kc km:Nat} {w:World} {S:Bl} (h:g6 B l x aa ac am ks kc km w S):
  fB (.slice aa x.sh.length ks) x.sh.length (EO x.sh) w/\fB (.slice ac x.cs.length kc) x.cs.length (gl x.cs) w/\fB (.slice am x.ms.length km) x.ms.length (iz x.ms) w/\
  w.cell? l=x.ti/\w.cell? (zq l 1)=some (.slice aa x.sh.length ks)/\w.cell? (zq l 2)=some (.slice ac x.cs.length kc)/\w.cell? (zq l 3)=some (.slice am x.ms.length km)/\(∀ b,am=some ⟨b,0,none⟩->0 < x.ms.length->S b):=by
 obtain ⟨S1,S2,h1,⟨S3,S4,h3,⟨S5,S6,h5,h6,_,e4⟩,_,e2⟩,_,rfl⟩:=h;refine ⟨aW.lies (B:=B) (e:=193) (z:=3) h3,aW.lies (B:=B) (e:=9) (z:=1) h5,aW.lies (B:=B) (e:=98) (z:=2) h6,h1.at 0 _ rfl,h1.at 1 _ rfl,h1.at 2 _ rfl,h1.at 3 _ rfl,?_⟩;intro b hb hm;refine .inr ?_;rw [e2];refine .inr ?_;rw [e4];refine .inr ?_;rw [h6.1];subst hb;rcases h6.2.2 with ⟨hu,hz⟩ | ⟨gg,cap,cur,hu,_⟩
 ·cases hu
 ·cases hu;rfl
theorem Cu (l:List (List UInt8)) (i:Nat) (z:List UInt8) (h:l[i]? =some z):(gl l)[i]? =some (.string ⟨z.toArray⟩):=by simp [gl,h]
theorem Al (w:World) (B l:Nat) (x:ip) (S:Bl) (s:ByteArray) (xs:List iB) (hx:∀ p∈xs,kx p) (hxl:xs.length<=80) (hsh:x.sh.map (·.2)=aQ xs) (hcs:x.cs=aA xs) (hti:x.ti.size<=100) (hm:x.ms.length<=20) (hms:∀ m∈x.ms,m.1.size<=100/\m.2<=80)
  (hs:s.data.toList=fO (aA xs) (aQ xs) (ax x.ms) x.ti.data.toList) (hB:B<=w.heap.size) (ht:bU B w) (h:cw B l x w S):
  CP 97 #[zp l,s] w fun e w'=>e=.returned true/\∃ S',cw B l x w' S'/\Mv S w S' w':=by
 obtain ⟨aa,ks,ac,kc,am,km,hO⟩:=h.open;have hO:g6 B l x aa ac am ks kc km w S:=hO;have hOt:=g6.thing B l x aa ac am ks kc km;have hzl:(aA xs).length=xs.length:=by simp [aA]
 have hsl:(aQ xs).length=xs.length:=by simp [aQ]
 have hn1:x.sh.length=xs.length:=by rw [<-hsl, <-hsh,Yv]
 have hn2:x.cs.length=xs.length:=by rw [hcs,hzl]
 have hup:=cN hx hxl;obtain ⟨t0,ht0⟩:∃ t0,fO (aA xs) (aQ xs) (ax x.ms) x.ti.data.toList=t0:=⟨_,rfl⟩;have hpre0:aC (aA xs) <+:t0:=by rw [<-ht0];exact YP _ _
 have d:=Bm B w.heap.size t0;have hbel:∀ {S' w'},Mv S w S' w'->Below B w w':=fun m=>m.below (fun k e=>hOt.ge hO e) hB
 obtain ⟨L1,L2,L3,_⟩:=hO.lies;obtain ⟨_,_,ea,ca1,ca2,_⟩:=L1
 cases ea
 obtain ⟨_,_,ec,cc1,cc2,_⟩:=L2
 cases ec
 rw [hn1] at ca1;rw [hn2] at cc1;have hT:∀ i,aJ B (aX (zx B w.heap.size t0) B (w.heap.size+1+1) (w.heap.size+1) 190 (zp w) (be 9 0 ((aA xs).take i)) ((aQ xs).take i) (dQ (aA xs) i)):=fun i=>aX.thing d.thing _ _ _ _ _ _ _
 refine (xR w l xs.length ks kc x.ms.length km w.heap.size (w.heap.size+1+1) s aa ac am x.ti (fun i=>((x.sh.getD i (0,0,0)).1:Int)) (fun i=>(x.sh.getD i (0,0,0)).2) (fun i=>⟨(x.cs.getD i []).toArray⟩)
  (fun i wx=>∃ S',ah (g6 B l x aa ac am ks kc km) (aX (zx B w.heap.size t0) B (w.heap.size+1+1) (w.heap.size+1) 190 (zp w) (be 9 0 ((aA xs).take i)) ((aQ xs).take i) (dQ (aA xs) i)) wx S'/\Mv S w S' wx)
  (fun wx=>wx=w.alloc (.cells #[s] 240)) (fun wx=>∃ S',ah (g6 B l x aa ac am ks kc km) (o_ B w.heap.size []) wx S'/\Mv S w S' wx) hxl ca1 ca2 cc1 cc2 ?_ ?_ ?_ ?_ ?_ ?_ ?_ ?_).mono ?_
 ·exact yo w s
 ·rintro wx rfl;refine (xC _ _ _).mono ?_;rintro e w' ⟨rfl,rfl⟩;refine ⟨by simp,?_⟩;simp only [World.size_alloc];have hM:o_ B w.heap.size t0 (w.alloc (.cells #[s] 240)) (cC w.heap.size):=by
   have:=aS.alloc (B:=B) (vs:=[.string s]) (w:=w) (t:=240) hB;have es:s=⟨t0.toArray⟩:=Zd (Array.toList_inj.1 (by rw [hs,ht0]));unfold o_;rw [<-es];exact this
  obtain ⟨S2,h2,hS2⟩:=Af w.heap.size (by simp;omega) hM (by simp);simp only [World.size_alloc] at h2 hS2;obtain ⟨a1,a2⟩:=ah.new hOt hO h2 ((((ZT _ w).alloc (ZW _) _).alloc (by simp) _).alloc (by simp;omega) _) (fun k e=>by
   rcases hS2 k e with a | a
   ·have a':k=w.heap.size:=a;omega
   ·omega)
  refine ⟨_,?_,a2⟩;have:=ah.swap a1;simpa [dQ,be] using this
 ·rintro i wx ⟨S',h',_⟩;obtain ⟨S1,k1,_,_⟩:=ah.fst (hT i) h';obtain ⟨_,_,_,q0,q1,q2,q3,_⟩:=k1.lies;rw [hn1] at q1;rw [hn2] at q2;exact ⟨q0,q1,q2,q3⟩
 ·rintro i wx hi ⟨S',h',_⟩;obtain ⟨S1,k1,_,_⟩:=ah.fst (hT i) h';obtain ⟨⟨_,_,e1,_,_,g1⟩,⟨_,_,e2,_,_,g2⟩,_⟩:=k1.lies
  cases e1
  cases e2
  obtain ⟨g,rfl,_,hg⟩:=g1 (by omega);obtain ⟨gc,rfl,_,hgc⟩:=g2 (by omega);have he:x.sh[i]? =some (x.sh.getD i (0,0,0)):=by rw [ZJ,ZM (by omega)];rfl
  obtain ⟨a1,a2,a3⟩:=wD x.sh i _ he;refine ⟨g,gc,rfl,rfl,hg _ _ a1,hg _ _ a2,hg _ _ a3,hgc _ _ (Cu _ _ _ ?_)⟩;rw [ZJ,ZM (by omega)];rfl
 ·rintro i wx w' ⟨S',h',m'⟩ hb;exact ⟨S',(ah.thing hOt (hT i)).grow h' hb,m'.trans (Mv.grow hb S')⟩
 ·rintro i wx hi ⟨S',h',m'⟩;obtain ⟨S2,k2,_,back⟩:=ah.snd hOt h';have hiz:i < (aA xs).length:=by omega
  have ez:x.cs.getD i []=(aA xs)[i]:=by rw [hcs,ZJ,ZM hiz];rfl
  have es:(x.sh.getD i (0,0,0)).2=(aQ xs)[i]'(by omega):=by
   have e1:(x.sh.map (·.2))[i]'(by simp;omega)=(aQ xs)[i]'(by omega):=by simp only [hsh]
   rw [<-e1,List.getElem_map,ZJ,ZM (by omega)];rfl
  have hcl:(be 9 0 ((aA xs).take i)).length=2*i:=by rw [dy,Ze,Yr (by omega)]
  have hnx:=BQ (aA xs) i hiz;have hpn:dQ (aA xs) (i+1) <+:t0:=(vn _ _).trans hpre0;have hl1:(dQ (aA xs) (i+1)).length<=100000000:=ZU (vn (aA xs) (i+1)).length_le hup;have hl2:(dQ (aA xs) i).length+(aA xs)[i].length<=(dQ (aA xs) (i+1)).length:=by
   rw [<-hnx];unfold Dd;simp only [ZY];omega
  have hP:=yG d (ZW _) wx S2 (w.heap.size+1+1) (w.heap.size+1) _ _ _ ((aQ xs)[i]'(by omega)).1 ((aQ xs)[i]'(by omega)).2 ⟨((aA xs)[i]).toArray⟩ k2 (ZU hB m'.size) (ht.on (hbel m')) (by rw [hcl];omega) (by rw [Ze];omega) (by rw [ae];omega) (by rw [hcl,hnx];exact hpn);rw [hcl,hnx,zO _ _ hiz] at hP;show CP _ #[_,.int .i64 (x.sh.getD i (0,0,0)).2.1,.int .i64 (x.sh.getD i (0,0,0)).2.2,.string ⟨(x.cs.getD i []).toArray⟩] wx _
  rw [ez,es];refine hP.mono ?_;rintro e w' ⟨rfl,S3,k3,m3⟩;obtain ⟨S4,k4,m4⟩:=back _ _ _ k3 m3;refine ⟨rfl,S4,?_,m'.trans m4⟩;rw [BZ (aQ xs) i (by omega)];exact k4
 ·rintro wx ⟨S',h',m'⟩;obtain ⟨S1,S2,k1,k2,ho,rfl⟩:=id h';obtain ⟨_,_,L3,_,_,_,_,hmb⟩:=k1.lies;rw [Zy (by omega),Zy (by omega)] at k2;have hX:(dQ (aA xs) xs.length=[]/\xs=[])\/dQ (aA xs) xs.length=aC (aA xs):=by
   unfold dQ;by_cases h0:xs.length=0
   ·rw [ZN h0];exact .inl ⟨rfl,Zp h0⟩
   ·rw [ZO h0,Zy (by omega)];exact .inr rfl
  refine (Gs d (w.heap.size+1+1) (w.heap.size+1) wx S2 xs _ x.ti x.ms am km hx hX hxl hti hm hms (ZU hB m'.size) (ht.on (hbel m')) (by rw [ht0];exact List.prefix_rfl) L3 (fun hp b hb hS=>ho b (hmb b hb hp) hS) k2).mono ?_;rintro e w' ⟨rfl,bg,S3,k3,m3⟩;obtain ⟨k4,m4⟩:=ah.left (P':=aX (zx B w.heap.size t0) B (w.heap.size+1+1) (w.heap.size+1) 190 (zp w) bg (aQ xs) (fO (aA xs) (aQ xs) (ax x.ms) x.ti.data.toList)) hOt k1 (oo.symm ho) k3 m3;obtain ⟨T1,T2,q1,q2,qo,qe⟩:=k4;obtain ⟨U1,U2,u1,⟨R,⟨r,er,hr⟩,eU,_⟩,uo,rfl⟩:=q1;have hr0:r=[]:=by
   rw [ht0] at er;have:=congrArg List.length er;rw [ZY] at this;exact Zp (by omega)
  subst hr0;refine ⟨rfl,cT T2 R,⟨T2,R,q2,hr,fun k a b=>qo k (.inr (by rw [eU];exact .inr b)) a,rfl⟩,?_⟩;have m5:Mv (cT S1 S2) wx (cT S3 S1) w':=m4.mono (fun k e=>e.elim .inr .inl) (fun k e=>.inl e);refine (m'.trans m5).trans ⟨Fr.refl _ _,?_⟩;rintro k (a | a)
  ·exact .inl (by rw [qe];exact .inr a)
  ·exact .inl (by rw [qe];exact .inl (.inr (by rw [eU];exact .inr a)))
 ·rintro wx ⟨S',h',m'⟩;obtain ⟨S2,k2,_,_⟩:=ah.snd hOt h';exact tp wx B w.heap.size [] S2 k2
 ·rintro e w' ⟨rfl,S',h',m'⟩;obtain ⟨S2,k2,m2⟩:=ah.drop h';exact ⟨rfl,S2,k2.close,m'.trans m2⟩
section
open Go.RowKit Go.Shelf
attribute [local go_sem] Oper.semAt_some
theorem Bg (l:Nat) (w:World):
  CP 98 #[zp l] w fun e W'=>e=.returned (.func (.func 147) #[] #[zp w.heap.size])/\W'=w.alloc (.cells #[zp l] 143):=by
 have hmf:∀ (fn:Fn) (first cap:Array Value) (w:World),(Instr.makeFunc fn first cap).run prog w=.ok (.func fn first cap) w:=fun _ _ _ _=>rfl
 go_enter func98,ntmps98
 go_wp2;go_ret;exact ⟨rfl,rfl⟩
def EE (n:Nat) (sh:Nat->Int×Int) (i:Nat) (args:Array Value) (i':Nat):Prop:=i < n/\i'=i+1/\∃ ad k cp,args=(#[.agg #[.int .i64 (sh i).1,.int .i64 (sh i).2,.slice ad k cp],true]:Array Value)
def Gl (B:Nat) (sh:Nat->Int×Int) (ops:Nat->List bj) (i:Nat) (args:Array Value):As:=fun w S=>∃ v,args=(#[.agg #[.int .i64 (sh i).1,.int .i64 (sh i).2,v],true]:Array Value)/\aW B 31 9 v (ops i).length (k_ (ops i)) w S
theorem Gl.thing (B:Nat) (sh:Nat->Int×Int) (ops:Nat->List bj) (i:Nat) (args:Array Value):aJ B (Gl B sh ops i args):=aJ.any fun _=>aJ.pure (aW.thing _ _ _ _ _ _)
theorem Dc (B b l n cap capc:Nat) (aa ac:Option Addr) (cL:Nat->Int) (sh:Nat->Int×Int) (cs:Nat->ByteArray) (ops:Nat->List bj) (Ly:As) (hLt:aJ B Ly) (xi:World->Prop) (hpre:∀ w w',xi w->Below B w w'->xi w') (hn:n<=80) (hcap:n<=cap) (hcap2:cap<=9223372036854775807) (hcapc:n<=capc) (hcapc2:capc<=9223372036854775807)
  (FC:Hid (∀ wx S,Ly wx S->wx.cell? ⟨l,1,none⟩=some (.slice aa n cap)/\wx.cell? ⟨l,2,none⟩=some (.slice ac n capc)))
  (FS:Hid (∀ i wx S,i < n->Ly wx S->∃ g gc,aa=some ⟨g,0,none⟩/\ac=some ⟨gc,0,none⟩/\wx.cell? ⟨g,i*3,none⟩=some (.int .i64 (cL i))/\wx.cell? ⟨g,i*3+1,none⟩=some (.int .i64 (sh i).1)/\wx.cell? ⟨g,i*3+2,none⟩=some (.int .i64 (sh i).2)/\wx.cell? ⟨gc,i,none⟩=some (.string (cs i))))
  (HD:Hid (∀ i W,i < n->xi W->B<=W.heap.size->CP 148 #[.string (cs i)] W fun e w'=>∃ v,e=.returned (.tuple #[v,true])/\∃ S',aW B 31 9 v (ops i).length (k_ (ops i)) w' S'/\(∀ k,S' k->W.heap.size<=k)/\Below W W w')):
  DF Fence.wide prog 147 #[zp b] B (ah (aS B b [.pointer (some ⟨l,0,none⟩)]) Ly) xi 0 (EE n sh) (fun i=>i=n) (Gl B sh ops):=by
 rintro l0 K Kx hK hKx W hp hBW hY S h0;have hCt:=ah.thing (aS.thing B b [.pointer (some ⟨l,0,none⟩)]) hLt;have hge:=fun k=>(ah.thing hCt (hK 0)).ge (k:=k) h0
 have fc:∀ i wx S,ah (ah (aS B b [.pointer (some ⟨l,0,none⟩)]) Ly) (K i) wx S->wx.cell? ⟨b,0,none⟩=some (.pointer (some ⟨l,0,none⟩))/\∃ S',Ly wx S':=by
  intro i wx S hs;obtain ⟨S1,S2,⟨S3,S4,k3,k4,_⟩,_⟩:=hs;exact ⟨k3.at 0 _ rfl,S4,k4⟩
 obtain ⟨c0,SL,kL⟩:=fc 0 W S h0;obtain ⟨c1,c2⟩:=FC.out W SL kL;have H0:=ai h0;have HFC:=ai fc;clear h0 fc;refine callsIn_of_wp func147 rfl trivial ?_ rfl;show (Code.wpIn _ _ _ _ _ _ _)
 simp only [ntmps147,List.size_toArray,ZX,ZR,Nat.reduceAdd,Nat.reduceSub,Array.replicate_succ,Array.replicate_zero,List.push_toArray,List.append_toArray,Zq,ZE]
 gi_wp2
 gi_loopw [12] (fun v wr=>∃ (i:Nat) (S':Bl),i<=n/\v=.int .i64 (i:Int)/\ah (ah (aS B b [.pointer (some ⟨l,0,none⟩)]) Ly) (K i) wr S'/\Mv S W S' wr) (fun v _=>match v with | .int _ k=>n - k.toNat | _=>0)
 case atStart=>exact ⟨0,S,by omega,rfl,H0.out,Mv.refl _ _⟩
 case round=>
  obtain ⟨i,S',hi,rfl,hst,hmv⟩:=hrel;have hbw:Below B W wr:=hmv.below hge hBW;by_cases hlt:i < n
  ·obtain ⟨y0,SL,kL⟩:=HFC.out i wr S' hst;obtain ⟨y1,y2⟩:=FC.out wr SL kL;obtain ⟨g,gc,e1,e2,r0,r1,r2,r3⟩:=FS.out i wr SL hlt kL;subst e1 e2;have HCD:=ai (fun wx (hb:Below wr wr wx)=>HD.out i wx hlt (hpre _ _ hp (hbw.trans (hb.mono (ZU hBW hbw.size)))) (ZU (ZU hBW hbw.size) hb.size));have HYY:=ai (fun wx Sx ad k cp (hb:Below B W wx) (hs:ah (K i) (Gl B sh ops i #[.agg #[.int .i64 (sh i).1,.int .i64 (sh i).2,.slice ad k cp],true]) wx Sx)=>hY i #[.agg #[.int .i64 (sh i).1,.int .i64 (sh i).2,.slice ad k cp],true] (i+1) wx Sx ⟨hlt,rfl,ad,k,cp,rfl⟩ hs hb);have d1:decide ((i:Int) < (n:Int))=true:=by simp;omega
   have hlr:=ZD wr _ y2;have hgr:=ZD wr _ r3;have hbr:=ZD wr _ y0;dsimp only at hlr hgr hbr;generalize cL i=z0 at r0;obtain ⟨z1,hz1⟩:∃ z,(sh i).1=z:=⟨_,rfl⟩;obtain ⟨z2,hz2⟩:∃ z,(sh i).2=z:=⟨_,rfl⟩;obtain ⟨z3,hz3⟩:∃ z,cs i=z:=⟨_,rfl⟩;rw [hz1] at r1 HYY;rw [hz2] at r2 HYY;rw [hz3] at r3 HCD;have HZ:=ai (And.intro hz1 hz2);clear hz1 hz2 hz3
   gi_wp2
   have hba:Below wr wr (wr.alloc (Obj.cells #[Value.int IntKind.i64 z0,Value.int IntKind.i64 z1,Value.int IntKind.i64 z2] 193)):=(ZT _ wr).alloc (ZW _) _;refine ⟨trivial,rfl,(callsIn_wide.2 (HCD.out _ hba)).mono ?_⟩;rintro e w3 ⟨v,rfl,S3,k3,hS3,hb3⟩;have a1:w3.cell? ⟨wr.heap.size,1,none⟩=some (.int .i64 z1):=(hb3.cell (p:=⟨wr.heap.size,1,none⟩) (by simp)).trans ((aS.alloc (B:=0) (vs:=[.int .i64 z0,.int .i64 z1,.int .i64 z2]) (YO _)).at 1 _ rfl);have a2:w3.cell? ⟨wr.heap.size,2,none⟩=some (.int .i64 z2):=(hb3.cell (p:=⟨wr.heap.size,2,none⟩) (by simp)).trans ((aS.alloc (B:=0) (vs:=[.int .i64 z0,.int .i64 z1,.int .i64 z2]) (YO _)).at 2 _ rfl);have hb3':Below wr wr w3:=hba.trans (hb3.mono hba.size);obtain ⟨a3,a4⟩:=ah.new (ah.thing hCt (hK i)) hst k3 hb3' (fun k e=>ZU hba.size (hS3 k e));obtain ⟨ad,cp,hv⟩:=k3.form;subst hv;have a5:∃ S5,ah (ah (ah (aS B b [.pointer (some ⟨l,0,none⟩)]) Ly) (K i)) (Gl B sh ops i #[.agg #[z1,z2,.slice ad (ops i).length cp],true]) w3 S5/\Mv S' wr S5 w3:=by
    refine ⟨_,ah.mapR (ah.swap a3) fun _ _ k=>⟨.slice ad (ops i).length cp,?_,k⟩,a4.mono (fun _ h=>h) (fun k hk=>.inl ?_)⟩
    ·rw [HZ.out.1,HZ.out.2]
    ·exact hk
   obtain ⟨S5,h5,m5⟩:=a5;obtain ⟨S9,k9,_,back9⟩:=ah.snd hCt (ah.assoc h5);have hmv5:=hmv.trans m5;obtain ⟨fn,tmps,assign,body,hy,hR⟩:=HYY.out w3 S9 _ _ _ (hmv5.below hge hBW) k9;clear HYY HCD a3 a4 k3 h5 r0 r1 r2 r3
   gi_wp2
   refine ⟨rfl,hR.mono ?_⟩;rintro e w4 (⟨rfl,SK3,kK3,mK3⟩ | ⟨rfl,SK3,kK3,mK3⟩)
   ·obtain ⟨S6,h6,m6⟩:=back9 _ _ _ kK3 mK3
    gi_wp2
    go_roundw
    case rel=>exact ⟨i+1,S6,by omega,by congr 1,h6,hmv5.trans m6⟩
    case measure=>simp;omega
   ·obtain ⟨S6,h6,m6⟩:=back9 _ _ _ kK3 mK3
    gi_wp2
    refine YT (results_none rfl _ _ _) rfl ?_;exact ⟨⟨_,rfl⟩,.inr ⟨S6,h6,hmv5.trans m6⟩⟩
  ·have e:i=n:=by omega
   subst e;have d1:decide ((i:Int) < (i:Int))=false:=by simp
   gi_wp2
   go_end0;exact ⟨⟨_,rfl⟩,.inl ⟨_,S',rfl,hst,hmv⟩⟩
end
section
open Go.RowKit Go.Shelf
attribute [local go_sem] Oper.semAt_some
def E0 (pgs:Nat->Int×Int×List bj):Nat->List (Int×Int×List bj)
 | 0=>[]
 | i+1=>pgs i::E0 pgs i
def ic (lo:Nat) (v:Value) (n:Nat) (xs:List Value) (w:World):Prop:=fB v n xs w/\∀ b,v.ownBlock=some b->lo<=b
theorem ic.on {lo:Nat} {v:Value} {n:Nat} {xs:List Value} {w w':World} (h:ic lo v n xs w) (hz:w.heap.size<=w'.heap.size) (hk:∀ k,lo<=k->k < w.heap.size->w'.heap[k]? =w.heap[k]?):ic lo v n xs w':=by
 obtain ⟨⟨ad,cap,rfl,h1,h2,h3⟩,h4⟩:=h;refine ⟨⟨ad,cap,rfl,h1,h2,fun hn=>?_⟩,h4⟩;obtain ⟨b,rfl,hb,hc⟩:=h3 hn;exact ⟨b,rfl,ZK hb hz,fun i x hx=>(ZQ (a:=zq b i) (hk b (h4 b rfl) hb)).trans (hc i x hx)⟩
theorem ic.mono {lo lo':Nat} {v:Value} {n:Nat} {xs:List Value} {w:World} (h:ic lo v n xs w) (hl:lo'<=lo):ic lo' v n xs w:=⟨h.1,fun b hb=>ZU hl (h.2 b hb)⟩
theorem aW.liesA {B:Nat} {e:TypeId} {z:Nat} {v:Value} {n:Nat} {xs:List Value} {w:World} {S:Bl} (h:aW B e z v n xs w S):ic B v n xs w:=⟨h.lies,fun b hb=>(aW.thing B e z v n xs).ge h (by rw [h.1];exact hb)⟩
def DC (lo:Nat) (v:Value) (ps:List (Value×(Int×Int×List bj))) (w:World):Prop:=ic lo v ps.length (iy ps) w/\∀ y∈ps,ic lo y.1 y.2.2.2.length (k_ y.2.2.2) w
theorem DC.on {lo:Nat} {v:Value} {ps:List (Value×(Int×Int×List bj))} {w w':World} (h:DC lo v ps w) (hz:w.heap.size<=w'.heap.size) (hk:∀ k,lo<=k->k < w.heap.size->w'.heap[k]? =w.heap[k]?):DC lo v ps w':=⟨h.1.on hz hk,fun y hy=>(h.2 y hy).on hz hk⟩
theorem DC.mono {lo lo':Nat} {v:Value} {ps:List (Value×(Int×Int×List bj))} {w:World} (h:DC lo v ps w) (hl:lo'<=lo):DC lo' v ps w:=⟨h.1.mono hl,fun y hy=>(h.2 y hy).mono hl⟩
theorem dh.lie {B:Nat}:∀ {l:List (Value×List bj)} {w:World} {S:Bl},dh B l w S->∀ x∈l,ic B x.1 x.2.length (k_ x.2) w
 | [],_,_,_,x,hx=>by simp at hx
 | y::l,w,S,h,x,hx=>by
  obtain ⟨S1,S2,h1,h2,_⟩:=h;rcases Zk.1 hx with rfl | hx
  ·exact aW.liesA h2
  ·exact dh.lie h1 x hx
theorem Cn (pgs:Nat->Int×Int×List bj):∀ i,(E0 pgs i).length=i
 | 0=>rfl
 | i+1=>by simp [E0,Cn pgs i]
theorem Tryz.infoPg9:(Tryz.prog.info? 100).map (fun i=>(i.zero,i.size,i.bytes))=some (some (.agg #[oz,oz,.slice none 0 0]),3,40):=by kernel_rfl
def tM (B h:Nat) (ti:ByteArray) (vm:Value) (pgs:Nat->Int×Int×List bj) (i:Nat):As:=fun w S=>∃ q:List (Value×(Int×Int×List bj))×Value,q.1.map (·.2)=E0 pgs i/\ah (aS B h [.string ti,q.2,vm]) (ah (aW B 100 3 q.2 i (iy q.1)) (dh B (kg q.1))) w S
theorem tM.thing (B h:Nat) (ti:ByteArray) (vm:Value) (pgs:Nat->Int×Int×List bj) (i:Nat):aJ B (tM B h ti vm pgs i):=aJ.any fun _=>aJ.pure (ah.thing (aS.thing _ _ _) (ah.thing (aW.thing _ _ _ _ _ _) (dh.thing _ _)))
theorem BM (w:World) (s:ByteArray) (x:ip) (n:Nat) (sh:Nat->Int×Int) (ops:Nat->List bj) (xi:World->Prop) (hpre:∀ w',Below w w w'->xi w') (hn:n<=80)
  (HL:Hid (∀ wx,Below w w wx->wx.heap.size=w.heap.size+2->CP 96 #[s] wx fun e w'=>∃ l,e=.returned (.tuple #[zp l,true])/\∃ S',cw (w.heap.size+2) l x w' S'/\Below (w.heap.size+2) wx w'))
  (HI:Hid (∀ wx l S,Below w w wx->cw (w.heap.size+2) l x wx S->w.heap.size+2<=wx.heap.size->CP 97 #[zp l,s] wx fun e w'=>e=.returned true/\∃ S',cw (w.heap.size+2) l x w' S'/\Mv S wx S' w'))
  (HQ:Hid (∀ b l aa ac am ks kc km w0 S0,g6 (w.heap.size+2) l x aa ac am ks kc km w0 S0->DF Fence.wide prog 147 #[zp b] (w.heap.size+2) (ah (aS (w.heap.size+2) b [.pointer (some ⟨l,0,none⟩)]) (g6 (w.heap.size+2) l x aa ac am ks kc km)) xi 0 (EE n sh) (fun i=>i=n) (Gl (w.heap.size+2) sh ops))):
  CP 49 #[s] w fun e w'=>∃ vp vm:Value,e=.returned (.tuple #[.agg #[x.ti,vp,vm],true])/\∃ ps,ps.map (·.2)=E0 (fun i=>((sh i).1,(sh i).2,ops i)) n/\DC w.heap.size vp ps w'/\ic w.heap.size vm x.ms.length (iz x.ms) w'/\Below w w w':=by
 have HO:=ai Bg;obtain ⟨pgs,hpgs⟩:∃ pgs:Nat->Int×Int×List bj,(fun i=>((sh i).1,(sh i).2,ops i))=pgs:=⟨_,rfl⟩;rw [hpgs];have HPG:Hid (∀ i,pgs i=((sh i).1,(sh i).2,ops i)):=fun i=>(congrFun hpgs i).symm
 clear hpgs;refine (callsIn_wide (n:=0)).1 ?_;refine callsIn_of_wp_marks func49 rfl trivial ?_ rfl;simp only [ntmps49,List.size_toArray,ZX,ZR,Nat.reduceAdd,Nat.reduceSub,Array.replicate_succ,Array.replicate_zero,List.push_toArray,List.append_toArray,Zq,ZE]
 gi_wp2
 refine ⟨trivial,rfl,(callsIn_wide.2 (HL.out _ (((ZT _ w).alloc (ZW _) _).alloc (by simp) _) (by simp))).mono ?_⟩;rintro e W1 ⟨l,rfl,S1,k1,hb1⟩;have hb1':Below w w W1:=(((ZT _ w).alloc (ZW _) _).alloc (by simp) _).trans (hb1.mono (by omega));have hs1:w.heap.size+2<=W1.heap.size:=by have:=hb1.size;simpa using this
 have bx1:∃ S9,Bx w.heap.size w.heap.size [[.string ⟨#[]⟩,.slice none 0 0,.slice none 0 0],[.bool false]] W1 S9:=by
  obtain ⟨S8,b1⟩:=(Bx.nil w.heap.size w (by omega)).snoc [.string ⟨#[]⟩,.slice none 0 0,.slice none 0 0] 29 (by simp);obtain ⟨S9,b2⟩:=b1.snoc [.bool false] 4 (by simp);exact ⟨S9,(Bx.thing _ _ _).keep b2 (fun k hk=>hb1.block k (by rw [b2.1] at hk;simp at hk;omega)) hb1.size⟩
 obtain ⟨S9,bx1⟩:=bx1;have HBX:=ai bx1;clear bx1
 gi_wp2
 refine ⟨trivial,rfl,(callsIn_wide.2 (HI.out _ l S1 hb1' k1 hs1)).mono ?_⟩;rintro e W2 ⟨rfl,S2,k2,m2⟩;have hb2:Below (w.heap.size+2) W1 W2:=m2.below (fun k e=>(cw.thing _ _ _).ge k1 e) hs1;obtain ⟨aa,ks,ac,kc,am,km,kO⟩:=k2.open;have kO:g6 (w.heap.size+2) l x aa ac am ks kc km W2 S2:=kO;have HQ1:=ai (fun b=>HQ.out b l aa ac am ks kc km W2 S2 kO);obtain ⟨_,_,_,y0,_,_,y3,_⟩:=kO.lies;have hO2:∀ k,S2 k->k < W2.heap.size:=fun k hk=>(g6.thing _ _ _ _ _ _ _ _ _).lt kO hk
 have hlz:l < W2.heap.size:=ZD W2 ⟨l,0,none⟩ y0;have hs2:w.heap.size+2<=W2.heap.size:=ZU hs1 hb2.size;clear HQ HL HI hb1 k1 k2 m2
 gi_wp2
 refine wpIn_wide.2 ?_;refine ap 10 _ (Ek W2.heap.size 9 29 #[.string ⟨#[]⟩,.slice none 0 0,.slice none 0 0] [.pointer (some ⟨l,0,none⟩),.pointer (some ⟨l,0,none⟩),.pointer (some ⟨l,0,none⟩),.string x.ti,.pointer (some ⟨l,0,none⟩),.pointer (some ⟨l,0,none⟩),.pointer (some ⟨l,3,none⟩),.slice am x.ms.length km,.agg #[x.ti,.slice none 0 0,.slice am x.ms.length km],undef]) (by kernel_rfl) rfl (by kernel_rfl) nO ?_;simp only [TD];refine ⟨fun w1 hG hd=>?_,fun v0=>?_⟩
 ·clear hd;go_wp2;exact RG
 simp only [TN];refine ⟨fun w1 hG hd=>?_,fun v1=>?_⟩
 ·have d0:v0=.pointer (some ⟨l,0,none⟩):=hd ⟨0,.data⟩ (by simp) rfl;clear hd;subst d0;go_wp2;exact RG
 simp only [TN];refine ⟨fun w1 hG hd=>?_,fun v2=>?_⟩
 ·have d1:v1=.pointer (some ⟨l,0,none⟩):=hd ⟨1,.data⟩ (by simp) rfl;clear hd;subst d1;go_wp2;exact RG
 simp only [TN];refine ⟨fun w1 hG hd=>?_,fun v3=>?_⟩
 ·have d2:v2=.pointer (some ⟨l,0,none⟩):=hd ⟨2,.data⟩ (by simp) rfl;clear hd;subst d2;have cc:=(Zc hG (p:=l) hlz).trans y0;go_wp2;exact RG
 simp only [TN];refine ⟨fun w1 hG hd=>?_,fun v4=>?_⟩
 ·clear hd;go_wp2;exact RG
 simp only [TN];refine ⟨fun w1 hG hd=>?_,fun v5=>?_⟩
 ·have d4:v4=.pointer (some ⟨l,0,none⟩):=hd ⟨4,.data⟩ (by simp) rfl;clear hd;subst d4;go_wp2;exact RG
 simp only [TN];refine ⟨fun w1 hG hd=>?_,fun v6=>?_⟩
 ·have d5:v5=.pointer (some ⟨l,0,none⟩):=hd ⟨5,.data⟩ (by simp) rfl;clear hd;subst d5;go_wp2;exact RG
 simp only [TN];refine ⟨fun w1 hG hd=>?_,fun v7=>?_⟩
 ·have d6:v6=.pointer (some ⟨l,3,none⟩):=hd ⟨6,.data⟩ (by simp) rfl;clear hd;subst d6;have cc:=(Zc hG (p:=zq l 3) hlz).trans y3;go_wp2;exact RG
 simp only [TN];refine ⟨fun w1 hG hd=>?_,fun v8=>?_⟩
 ·have d3:v3=.string x.ti:=hd ⟨3,.data⟩ (by simp) rfl;have d7:v7=.slice am x.ms.length km:=hd ⟨7,.data⟩ (by simp) rfl;clear hd;subst d3 d7;go_wp2;exact RG
 simp only [TN];refine ⟨fun w1 hG hd=>?_,fun v9=>?_⟩
 ·clear hd;go_wp2;exact ⟨⟨_,rfl,hG.size,ZF _ _⟩,(ZT _ _).alloc (ZW _) _⟩
 simp only [TN];intro w3 hG hd;have d8:v8=.agg #[x.ti,.slice none 0 0,.slice am x.ms.length km]:=hd 8 (by omega);obtain ⟨h,d9,hzh,hbh⟩:∃ g,v9=.pointer (some ⟨g,0,none⟩)/\W2.heap.size<=g/\w3.heap[g]? =some (.cells #[.string ⟨#[]⟩,.slice none 0 0,.slice none 0 0] 29 (0,0)):=hd 9 (by omega);subst d8 d9;clear hd;have hrow:=YK w3 h _ #[x.ti,.slice none 0 0,.slice am x.ms.length km] _ _ hbh;refine Zj rfl 29 (.tmp 6) (.tmp 31) rfl h #[x.ti,.slice none 0 0,.slice am x.ms.length km] rfl rfl _ _ hbh (by kernel_rfl) rfl (by kernel_rfl) ?_;obtain ⟨W4,hW4⟩:∃ W4,w3.setRow h #[x.ti,.slice none 0 0,.slice am x.ms.length km]=W4:=⟨_,rfl⟩;have hb4:Below W2 W2 W4:=by
  rw [<-hW4];exact ⟨hG.os,hG.tape,hG.output,ZU hG.size (Nat.le_of_eq (by simp [World.setRow])),fun k hk=>(setRow_other _ _ _ _ (by omega)).trans (hG.block k hk)⟩
 rw [hW4] at hrow ⊢;have hd4:aS (w.heap.size+2) h [.string x.ti,.slice none 0 0,.slice am x.ms.length km] W4 (cC h):=by
  refine ⟨rfl,by omega,(ZG.1 hrow).1,fun i v hv=>?_,fun o=>?_⟩
  ·have:=Zw W4 h i _ _ _ hrow;rw [this];simpa using hv
  ·simp [World.frozen?,hrow]
 have kO4:=(g6.thing _ _ _ _ _ _ _ _ _).grow kO hb4;clear hW4 hbh hrow kO y0 y3 hG;go_wp2
 gi_wp2
 refine ⟨trivial,rfl,(callsIn_wide.2 (HO.out l _)).mono ?_⟩;rintro e W' ⟨rfl,rfl⟩;have hs4:w.heap.size+2<=W4.heap.size:=ZU hs2 hb4.size;have e0:∀ k,¬ ob (.slice none 0 0) k:=fun k h=>by simp [ob,Value.ownBlock] at h
 have st0:∃ S,ah (ah (aS (w.heap.size+2) W4.heap.size [.pointer (some ⟨l,0,none⟩)]) (g6 (w.heap.size+2) l x aa ac am ks kc km)) (tM (w.heap.size+2) h x.ti (.slice am x.ms.length km) pgs 0) (W4.alloc (.cells #[zp l] 143)) S:=by
  have hD:tM (w.heap.size+2) h x.ti (.slice am x.ms.length km) pgs 0 W4 (cT (cC h) (cT (ob (.slice none 0 0)) (fun _=>False))):=⟨([],.slice none 0 0),rfl,cC h,_,hd4,⟨_,_,aW.nil _ _ _ _,rfl,fun k a=>absurd a (e0 k),rfl⟩,fun k _ b=>b.elim (e0 k) id,rfl⟩;have hLD:ah (g6 (w.heap.size+2) l x aa ac am ks kc km) (tM (w.heap.size+2) h x.ti (.slice am x.ms.length km) pgs 0) W4 _:=⟨_,_,kO4,hD,fun k a b=>by
   rcases b with b | b | b
   ·have b':k=h:=b;have:=hO2 k a;omega
   ·exact e0 k b
   ·exact b,rfl⟩
  have hc:=aS.alloc (B:=w.heap.size+2) (vs:=[.pointer (some ⟨l,0,none⟩)]) (w:=W4) (t:=143) hs4;obtain ⟨a1,_⟩:=ah.new (ah.thing (g6.thing _ _ _ _ _ _ _ _ _) (tM.thing _ _ _ _ _ _)) hLD hc ((ZT _ _).alloc (ZW _) _) (fun k e=>Nat.le_of_eq (Eq.symm e));exact ⟨_,ah.assocR a1⟩
 obtain ⟨S0,st0⟩:=st0;have hb5:Below W4 W4 (W4.alloc (.cells #[zp l] 143)):=(ZT _ _).alloc (ZW _) _;obtain ⟨W5,hW5⟩:∃ W5,W4.alloc (.cells #[zp l] 143)=W5:=⟨_,rfl⟩;rw [hW5] at st0 hb5 ⊢;have hs5:w.heap.size+2<=W5.heap.size:=ZU hs4 hb5.size;have hB5:Below (w.heap.size+2) W1 W5:=(hb2.trans (hb4.mono hs2)).trans (hb5.mono hs4);have hbw5:Below w w W5:=hb1'.trans (hB5.mono (by omega));have HQ2:=ai (HQ1.out W4.heap.size);obtain ⟨b4,hb4e⟩:∃ b4,W4.heap.size=b4:=⟨_,rfl⟩;rw [hb4e] at st0 HQ2 ⊢;clear hW5 hb4 hb5 hd4 kO4 HQ1 HO hb2 hs4 hs2 hs1 hlz hO2 hb4e hzh;obtain ⟨n0,hn0⟩:∃ n0,w.heap.size+2=n0:=⟨_,rfl⟩;rw [hn0] at st0 HQ2 hs5 hB5;have hge:=fun k=>(ah.thing (ah.thing (aS.thing n0 _ _) (g6.thing n0 l x aa ac am ks kc km)) (tM.thing n0 _ _ _ _ _)).ge (k:=k) st0
 have HN0:=ai hn0;clear hn0
 gi_wp2
 refine DA (B:=n0) rfl (fun _=>trivial) rfl rfl (enters_of func147 (by kernel_rfl) rfl) (Gl.thing n0 sh ops) HQ2.out (fun W1 hb=>hpre _ (hbw5.trans (hb.mono (by have:=HN0.out;omega)))) (ah.thing (aS.thing _ _ _) (g6.thing _ _ _ _ _ _ _ _ _)) ?hps
  (fun i=>tM n0 h x.ti (.slice am x.ms.length km) pgs i)
  (fun _ _ _=>False) (fun i=>tM.thing _ _ _ _ _ _) (fun _=>⟨fun h=>h.elim,fun h=>h.elim,fun h=>h.elim⟩) hs5 st0 ?round ?done (fun _ _ _ _ h _=>by obtain ⟨_,_,⟨_,_,_,h,_⟩,_⟩:=h;exact h.elim)
 case hps=>
  rintro a args a' ⟨_,_,_,_,_,rfl⟩;rfl
 case round=>
  rintro l' i args i' W0 ⟨hi,rfl,ad,kk,cp,rfl⟩
  gi_wp2
  refine ⟨(ZT _ W0).alloc (ZW _) _,?_⟩;rintro W6 S6 h6 hb6 hk6 hz6;have hpb:W6.heap[W0.heap.size]? =some (.cells #[Value.int IntKind.i64 (sh i).fst,Value.int IntKind.i64 (sh i).snd,Value.slice ad kk cp] 100):=(hk6 _ (ZW _)).trans (ZF _ _);have hpl:W0.heap.size < W6.heap.size:=(ZG.1 hpb).1;clear hk6 hz6;obtain ⟨z1,hz1⟩:∃ z,(sh i).1=z:=⟨_,rfl⟩;obtain ⟨z2,hz2⟩:∃ z,(sh i).2=z:=⟨_,rfl⟩;obtain ⟨pb,hpbe⟩:∃ pb,W0.heap.size=pb:=⟨_,rfl⟩;have h7:∃ S',∃ ps:List (Value×(Int×Int×List bj)),∃ vp,ps.map (·.2)=E0 pgs i/\ah (aS n0 h [.string x.ti,vp,.slice am x.ms.length km]) (ah (aW n0 100 3 vp i (iy ps)) (dh n0 (kg ((.slice ad kk cp,pgs i)::ps)))) W6 S'/\S'=S6:=by
   obtain ⟨T1,T2,⟨⟨ps,vp⟩,hps,hD⟩,⟨v,hv,kR⟩,ho,rfl⟩:=h6;have ev:v=.slice ad kk cp:=by
    have:=congrArg (fun a:Array Value=>a.toList.head?) hv;simp at this;exact this.symm
   subst ev;have hq:ah (ah (aS n0 h [.string x.ti,vp,.slice am x.ms.length km]) (ah (aW n0 100 3 vp i (iy ps)) (dh n0 (kg ps)))) (aW n0 31 9 (.slice ad kk cp) (ops i).length (k_ (ops i))) W6 (cT T1 T2):=⟨T1,T2,hD,kR,ho,rfl⟩;refine ⟨_,ps,vp,hps,ah.mapR (ah.assoc hq) fun _ _ k=>?_,rfl⟩;have k2:=ah.assoc k;have e:kg ((Value.slice ad kk cp,pgs i)::ps)=(Value.slice ad kk cp,ops i)::kg ps:=by simp [kg,HPG.out i]
   rw [e];exact k2
  obtain ⟨S',ps,vp,hps,h7,hS6⟩:=h7;obtain ⟨y1,ow,ne,f1,hlh,hgr⟩:=mi (i:=1) (dh.thing _ _) rfl h7;obtain ⟨ad1,cap1,hform⟩:∃ ad cap,vp=.slice ad i cap:=by
   rcases ow.2 with ⟨hu,hz⟩ | ⟨gg,cap,cur,hu,_⟩
   ·exact ⟨none,0,by rw [hu,hz]⟩
   ·exact ⟨_,_,hu⟩
  subst hform;have HGR:=ai hgr;have hB6:n0<=W6.heap.size:=ZU hs5 hb6.size;have r0:W6.cell? pb=z1:=by rw [<-hpbe,Zw W6 _ 0 _ _ _ hpb];simp [hz1]
  have r1:W6.cell? (zq pb 1)=z2:=by rw [<-hpbe,Zw W6 _ 1 _ _ _ hpb];simp [hz2]
  have r2:W6.cell? (zq pb 2)=some (.slice ad kk cp):=by rw [<-hpbe,Zw W6 _ 2 _ _ _ hpb];simp
  have HPC:Hid (iy ((.slice ad kk cp,pgs i)::ps)=iy ps++[.int .i64 z1,.int .i64 z2,.slice ad kk cp]):=by
   show _=_
   rw [HPG.out i, <-hz1, <-hz2];rfl
  have HPS:=ai hps;rw [hpbe,hz1,hz2];clear hz1 hz2 hpb hpbe hgr h6 h7 hps;generalize iy ps=xs0 at ow HGR HPC
  gi_wp2_with (gi_at_builtin;refine qr rfl (.tmp 40) (.tmp 42) 26 rfl 100 (.agg #[oz,oz,.slice none 0 0]) 3 40 Tryz.infoPg9 rfl (by omega) underlying26 n0 _ i xs0 rfl (ow.alloc _) (by simp;omega) ⟨W6,0,none⟩ 1 rfl [.int .i64 z1,.int .i64 z2,.slice ad kk cp] rfl (zM W6 _ _) (by intro u hu;simp at hu;rcases hu with rfl | rfl | rfl <;> rfl) (by omega) (by omega) ?_)
  intro v7 w7 hO7 hg7 hat7;obtain ⟨hg8,ha8⟩:=vC hO7 hg7 hat7;have HX:=ai (HGR.out _ _ _ _ hg8 ha8);obtain ⟨ad7,cap7,hv7⟩:=ha8.form;subst hv7;have kb:=hg8.block h hlh (fun e=>ne e.symm);have q1:=(ZQ (a:=zq h 1) kb).trans y1;have qf1:=(ZH (a:=zq h 1) kb).trans f1;clear kb y1 f1 ow hO7 hg7 hat7 HGR ha8 hg8
  gi_wp2
  obtain ⟨S'',h',m'⟩:=HX.out;rw [hS6] at m';refine ⟨S'',⟨((.slice ad kk cp,pgs i)::ps,.slice ad7 (i+1) cap7),?_,?_⟩,m'⟩
  ·show pgs i::ps.map (·.2)=pgs i::E0 pgs i
   rw [HPS.out]
  ·show ah _ (ah (aW n0 100 3 (.slice ad7 (i+1) cap7) (i+1) (iy ((.slice ad kk cp,pgs i)::ps))) _) _ _
   rw [HPC.out];exact h'
 case done=>
  rintro D i W6 S6 rfl hs hm;have hb6:Below n0 W5 W6:=hm.below hge hs5;have bx6:=(Bx.thing _ _ _).keep HBX.out (fun k hk=>(hB5.trans hb6).block k (by have h9:=HBX.out.1;rw [h9] at hk;simp at hk;have:=HN0.out;omega)) (hB5.trans hb6).size;obtain ⟨T1,k1,_,back1⟩:=ah.fst (Ob.thing _ _ _) hs;obtain ⟨T2,⟨⟨ps,vp⟩,hps,kD⟩,hT2,back2⟩:=ah.snd (ah.thing (aS.thing _ _ _) (g6.thing _ _ _ _ _ _ _ _ _)) k1;obtain ⟨T3,kcc,_,_⟩:=ah.fst (ah.thing (aW.thing _ _ _ _ _ _) (dh.thing _ _)) kD;obtain ⟨T4,kr,_,_⟩:=ah.mid (aS.thing _ _ _) (dh.thing _ _) kD;obtain ⟨ad,cap,hv⟩:=kr.form;dsimp only at hv hps;subst hv;have y0:W6.cell? h=x.ti:=kcc.at 0 _ rfl;have y1:W6.cell? (zq h 1)=some (.slice ad i cap):=kcc.at 1 _ rfl;have y2:W6.cell? (zq h 2)=some (.slice am x.ms.length km):=kcc.at 2 _ rfl;have b0:W6.cell? w=some (.string ⟨#[]⟩):=bx6.at 0 0 _ _ rfl rfl;have b1:W6.cell? (zq w 1)=some (.slice none 0 0):=bx6.at 0 1 _ _ rfl rfl;have b2:W6.cell? (zq w 2)=some (.slice none 0 0):=bx6.at 0 2 _ _ rfl rfl;have b3:W6.cell? (zp (w.heap.size+1))=false:=bx6.at 1 0 _ _ rfl rfl;have f0:W6.frozen? w=false:=bx6.fz 0 0 (by simp);have f1:W6.frozen? (zq w 1)=false:=bx6.fz 0 1 (by simp);have f2:W6.frozen? (zq w 2)=false:=bx6.fz 0 2 (by simp);have f3:W6.frozen? (zp (w.heap.size+1))=false:=bx6.fz 1 0 (by simp);obtain ⟨W7,hW7⟩:∃ W7,(((W6.setCell w x.ti).setCell (zq w 1) (.slice ad i cap)).setCell (zq w 2) (.slice am x.ms.length km)).setCell (zp (w.heap.size+1)) true=W7:=⟨_,rfl⟩;have m7:∃ S,Bx w.heap.size w.heap.size [[.string x.ti,.slice ad i cap,.slice am x.ms.length km],[.bool true]] W7 S/\Mv S W6 S W7/\(∀ k,S k->w.heap.size<=k/\k < n0):=by
   obtain ⟨p1,q1⟩:=bx6.set 0 0 _ (.string x.ti) rfl (by simp);obtain ⟨p2,q2⟩:=p1.set 0 1 _ (.slice ad i cap) rfl (by simp);obtain ⟨p3,q3⟩:=p2.set 0 2 _ (.slice am x.ms.length km) rfl (by simp);obtain ⟨p4,q4⟩:=p3.set 1 0 _ (.bool true) rfl (by simp);rw [<-hW7];refine ⟨_,p4,((q1.trans q2).trans q3).trans q4,fun k hk=>?_⟩;have h9:=HBX.out.1;rw [h9] at hk;simp at hk;have:=HN0.out;omega
  obtain ⟨S7,bx7,mv7,hS7⟩:=m7;have hkeep:∀ k,n0<=k->k < W6.heap.size->W7.heap[k]? =W6.heap[k]? :=fun k hk hz=>mv7.keep hz (fun a=>by have:=(hS7 k a).2;omega)
  have hz7:W6.heap.size<=W7.heap.size:=mv7.size;obtain ⟨TO,kOb,_,_⟩:=ah.snd (ah.thing (ah.thing (aS.thing _ _ _) (g6.thing _ _ _ _ _ _ _ _ _)) (tM.thing _ _ _ _ _ _)) hs;have hD0:n0<=D:=kOb.2.1;have hOb7:W7.heap[D]? =some (.deferred (some [])):=(hkeep D hD0 (ZG.1 kOb.2.2).1).trans kOb.2.2;have bxe:∀ o,(W7.putObj D o).cell? w=some (.string x.ti)/\(W7.putObj D o).cell? (zq w 1)=some (.slice ad i cap)/\(W7.putObj D o).cell? (zq w 2)=some (.slice am x.ms.length km)/\(W7.putObj D o).cell? (zp (w.heap.size+1))=some (.bool true):=by
   intro o;have hne:∀ k,k < n0->(W7.putObj D o).heap[k]? =W7.heap[k]? :=fun k hk=>World.putObj_heap_other (by omega)
   have e0:=hne w.heap.size (by have:=HN0.out;omega);have e1:=hne (w.heap.size+1) (by have:=HN0.out;omega);exact ⟨(ZQ (a:=w) e0).trans (bx7.at 0 0 _ _ rfl rfl),(ZQ (a:=zq w 1) e0).trans (bx7.at 0 1 _ _ rfl rfl),(ZQ (a:=zq w 2) e0).trans (bx7.at 0 2 _ _ rfl rfl),(ZQ (a:=zp (w.heap.size+1)) e1).trans (bx7.at 1 0 _ _ rfl rfl)⟩
  obtain ⟨e1,e2,e3,e4⟩:=bxe (.deferred none);have hfin:Below w w (W7.putObj D (.deferred none)):=by
   have h6:Below w w W6:=hbw5.trans (hb6.mono (by have:=HN0.out;omega));have h7:Below w W6 W7:=mv7.below (fun k a=>(hS7 k a).1) (by have:=hb6.size;have:=HN0.out;omega);exact (h6.trans h7).trans ((Mv.putObj W7 D _).below (fun k e=>by have e':k=D:=e;have:=HN0.out;omega) (by have:=hb6.size;have:=HN0.out;omega))
  have hrows:DC n0 (.slice ad i cap) ps (W7.putObj D (.deferred none))/\ic n0 (.slice am x.ms.length km) x.ms.length (iz x.ms) (W7.putObj D (.deferred none)):=by
   obtain ⟨V1,v1s,w1s⟩:=back2 _ _ _ kD (Mv.refl _ _);obtain ⟨V2,v2s,w2s⟩:=back1 _ _ _ v1s w1s;have hTT:=ah.thing (ah.thing (ah.thing (aS.thing n0 b4 [.pointer (some ⟨l,0,none⟩)]) (g6.thing n0 l x aa ac am ks kc km)) (ah.thing (aS.thing n0 h [.string x.ti,.slice ad i cap,.slice am x.ms.length km]) (ah.thing (aW.thing n0 100 3 (.slice ad i cap) i (iy ps)) (dh.thing n0 (kg ps))))) (Ob.thing n0 D (.deferred (some [])));have hs7:=hTT.keep v2s (fun k hk=>hkeep k (hTT.ge v2s hk) (hTT.lt v2s hk)) hz7;obtain ⟨T9,kOb7,_,back9⟩:=ah.snd (ah.thing (ah.thing (aS.thing _ _ _) (g6.thing _ _ _ _ _ _ _ _ _)) (ah.thing (aS.thing _ _ _) (ah.thing (aW.thing _ _ _ _ _ _) (dh.thing _ _)))) hs7;obtain ⟨p9,m9⟩:=kOb7.put (.deferred none);obtain ⟨U9,u9,_⟩:=back9 _ _ _ p9 m9;obtain ⟨_,_,⟨_,_,⟨_,_,_,uL,_⟩,⟨_,_,_,⟨_,_,uR,uO,_⟩,_⟩,_⟩,_⟩:=u9;have uM:ic n0 (.slice am x.ms.length km) x.ms.length (iz x.ms) (W7.putObj D (.deferred none)):=by
    obtain ⟨_,_,_,⟨_,_,_,⟨_,_,_,kM,_⟩,_⟩,_⟩:=uL;exact aW.liesA (B:=n0) (e:=98) (z:=2) kM
   have hpl:ps.length=i:=by
    have:=congrArg List.length hps;rw [Cn,Yv] at this;exact this
   refine ⟨⟨?_,fun y hy=>dh.lie uO (y.1,y.2.2.2) (YA.2 ⟨y,hy,rfl⟩)⟩,uM⟩;rw [hpl];exact aW.liesA (B:=n0) (e:=100) (z:=3) uR
  gi_wp2
  refine ⟨by simp,.inl ⟨_,_,rfl,run_takeDeferred hOb7,?_⟩⟩;refine ⟨.tuple #[.agg #[x.ti,.slice ad i cap,.slice am x.ms.length km],true],?_,_,_,rfl,ps,hps,hrows.1.mono (by have:=HN0.out;omega),hrows.2.mono (by have:=HN0.out;omega),hfin⟩;simp [results,f49,go_sem,e1,e2,e3,e4]
end
theorem Cq (l:List iB) (d:iB):∀ k,k<=l.length->E0 (fun i=>(l.getD i d).2) k=((l.take k).map (·.2)).reverse
 | 0,_=>rfl
 | k+1,h=>by
  rw [E0,Cq l d k (by omega),Zv (by omega),Xz,List.reverse_append,ZJ,ZM (by omega)];rfl
theorem C3 (ms:List (ByteArray×Nat)):FW (ax ms)=ms:=by
 unfold FW ax;rw [List.map_map]
 conv=>rhs;rw [<-List.map_id ms]
 refine XI fun m _=>?_
 show ((⟨m.1.data.toList.toArray⟩:ByteArray),m.2)=m
 simp
theorem E8 (t:ByteArray):(⟨t.data.toList.toArray⟩:ByteArray)=t:=by simp
def Ct (ms:List (ByteArray×Nat)):Prop:=pz 0 (ax ms)
theorem Dk (w:World) (B:Nat) (s ti:ByteArray) (xs:List iB) (ms:List (ByteArray×Nat)) (hx:∀ x∈xs,kx x) (hxl:xs.length<=80) (hti:ti.size<=100) (hm:ms.length<=20) (hms:∀ m∈ms,(0 < m.1.size/\m.1.size<=100)/\m.2 < xs.length) (hso:Ct ms)
  (hs:s.data.toList=fO (aA xs) (aQ xs) (ax ms) ti.data.toList) (hsz:s.size<=2000000000) (hB:B<=w.heap.size) (ht:bU B w) (hml:fH B w) (he:nA B w):
  CP 49 #[s] w fun e w'=>∃ vp vm:Value,e=.returned (.tuple #[.agg #[ti,vp,vm],true])/\∃ ps,ps.map (·.2)=xs.map (·.2)/\DC w.heap.size vp ps w'/\ic w.heap.size vm ms.length (iz ms) w'/\Below w w w':=by
 have hzl:(aA xs).length=xs.length:=by simp [aA]
 have hsl:(aQ xs).length=xs.length:=by simp [aQ]
 have hzs:∀ z∈aQ xs,bG z.1 1 14400000/\bG z.2 1 14400000:=by
  intro z hz;simp only [aQ,YA,Yk] at hz;obtain ⟨x,hxm,rfl⟩:=hz;exact ⟨(hx x hxm).2.2.2.2.1,(hx x hxm).2.2.2.2.2⟩
 have hmsl:(ax ms).length=ms.length:=by simp [ax]
 have hmm:∀ m∈ax ms,(0 < m.1.length/\m.1.length<=100)/\m.2 < (aQ xs).length:=by
  intro m hmm;simp only [ax,YA] at hmm;obtain ⟨y,hy,rfl⟩:=hmm;have:=hms y hy;rw [hsl];refine ⟨?_,this.2⟩;show 0 < y.1.data.toList.length/\y.1.data.toList.length<=100
  rw [aP];exact this.1
 have hxx:Bh (aA xs) (aQ xs) (ax ms) ti.data.toList=⟨ti,ri (cK (aA xs)+1) (aQ xs),aA xs,ms⟩:=by
  unfold Bh;rw [C3,E8]
 have hbs:=fW (cK (aA xs)) (aQ xs) (ax ms) ti.data.toList (by rw [cK,hzl];omega) (by omega) hzs (by rw [aP];omega) (by omega) (fun m hm'=>by have:=hmm m hm';omega);have hal:(bX (aA xs) (aQ xs) (ax ms) ti.data.toList).length<=100000:=by
  rw [bX,ZY,oD,hzl];omega
 have hbx:∀ wx,Below w w wx->B<=wx.heap.size/\bU B wx/\fH B wx/\nA B wx:=fun wx hb=>⟨ZU hB hb.size,ht.on (hb.mono hB),hml.on (hb.mono hB),nA.on he (hb.mono hB)⟩
 obtain ⟨q,hq⟩:∃ q:Nat->iB,q=fun i=>xs.reverse.getD i ([],0,0,[]):=⟨_,rfl⟩
 have hqi:∀ i,i < xs.length->q i∈xs/\xs.reverse[i]? =some (q i):=by
  intro i hi;have e:xs.reverse[i]? =some (q i):=by rw [hq];simp only [ZJ];rw [ZM (by simp;omega)];rfl
  exact ⟨Yk.1 (YG e),e⟩
 have hzi:∀ i,i < xs.length->(aQ xs)[i]? =some ((q i).2.1,(q i).2.2.1):=by
  intro i hi;rw [aQ,YR,(hqi i hi).2];rfl
 have hci:∀ i,i < xs.length->(aA xs)[i]? =some (q i).1:=by
  intro i hi;rw [aA,YR,(hqi i hi).2];rfl
 have hshi:∀ i,i < xs.length->∃ z,(ri (cK (aA xs)+1) (aQ xs))[i]? =some z/\z.2=((q i).2.1,(q i).2.2.1):=by
  intro i hi;have hl:i < (ri (cK (aA xs)+1) (aQ xs)).length:=by rw [nh];omega
  refine ⟨_,ZM hl,?_⟩;have h1:((ri (cK (aA xs)+1) (aQ xs)).map (·.2))[i]? =some ((ri (cK (aA xs)+1) (aQ xs))[i]).2:=by rw [YR,ZM hl];rfl
  rw [wE,hzi i hi] at h1;exact (YI h1).symm
 refine (BM w s ⟨ti,ri (cK (aA xs)+1) (aQ xs),aA xs,ms⟩ xs.length (fun i=>((q i).2.1,(q i).2.2.1)) (fun i=>(q i).2.2.2) (fun wx=>Below w w wx) (fun _ h=>h) hxl ?_ ?_ ?_).mono ?_
 ·intro wx hb hsz2;obtain ⟨a1,a2,a3,a4⟩:=hbx wx hb;have hL:=wt wx B s (aA xs) (aQ xs) (ax ms) ti.data.toList hs hsz (by omega) (by omega) hzs (by omega) hmm hso (by rw [aP];omega) hal a1 a2 a3 a4;rw [hxx,hsz2] at hL;exact hL
 ·intro wx l S hb hL h2;obtain ⟨a1,a2,a3,a4⟩:=hbx wx hb;refine Al wx (w.heap.size+2) l _ S s xs hx hxl (wE _ _) rfl hti hm (fun m hm'=>by have:=hms m hm';omega) hs h2 (qU a2 (by omega)) hL
 ·intro b l aa ac am ks kc km w0 S0 hO;obtain ⟨⟨_,_,e1,d1,d2,_⟩,⟨_,_,e2,d3,d4,_⟩,_⟩:=hO.lies
  cases e1
  cases e2
  have hn1:(ri (cK (aA xs)+1) (aQ xs)).length=xs.length:=by rw [nh,hsl]
  rw [hn1] at d1;rw [hzl] at d3;refine Dc (w.heap.size+2) b l xs.length ks kc aa ac (fun i=>(((ri (cK (aA xs)+1) (aQ xs)).getD i (0,0,0)).1:Int)) (fun i=>((q i).2.1,(q i).2.2.1)) (fun i=>⟨((q i).1).toArray⟩) (fun i=>(q i).2.2.2) _ (g6.thing _ _ _ _ _ _ _ _ _) _ (fun _ _ h1 h2=>h1.trans (h2.mono (by omega))) hxl d1 d2 d3 d4 ?_ ?_ ?_
  ·intro wx S hL;obtain ⟨_,_,_,_,q1,q2,_⟩:=hL.lies;rw [hn1] at q1;rw [hzl] at q2;exact ⟨q1,q2⟩
  ·intro i wx S hi hL;obtain ⟨⟨_,_,e1,_,_,g1⟩,⟨_,_,e2,_,_,g2⟩,_⟩:=hL.lies
   cases e1
   cases e2
   obtain ⟨g,rfl,_,hg⟩:=g1 (by show 0 < (ri (cK (aA xs)+1) (aQ xs)).length;omega);obtain ⟨gc,rfl,_,hgc⟩:=g2 (by show 0 < (aA xs).length;omega);obtain ⟨z,hz1,hz2⟩:=hshi i hi;obtain ⟨c1,c2,c3⟩:=wD _ i z hz1;have ez:(ri (cK (aA xs)+1) (aQ xs)).getD i (0,0,0)=z:=by rw [ZJ,hz1];rfl
   refine ⟨g,gc,rfl,rfl,?_,?_,?_,hgc _ _ (Cu _ _ _ (hci i hi))⟩
   ·show wx.cell? _=some (.int .i64 (((ri (cK (aA xs)+1) (aQ xs)).getD i (0,0,0)).1:Int))
    rw [ez];exact hg _ _ c1
   ·have:=hg _ _ c2;rw [hz2] at this;exact this
   ·have:=hg _ _ c3;rw [hz2] at this;exact this
  ·intro i W hi hb hBW;obtain ⟨a1,a2,a3,a4⟩:=hbx W hb;obtain ⟨p1,p2,p3,p4,_⟩:=hx (q i) (hqi i hi).1;exact xr W (w.heap.size+2) (q i).1 (q i).2.2.2 p1 p2 p3 (by omega) hBW (qU a2 (by omega)) (a3.mono (by omega))
 ·rintro e w' ⟨vp,vm,rfl,ps,hps,h1,h2,hb⟩;refine ⟨vp,vm,rfl,ps,?_,h1,h2,hb⟩;rw [hps];have e:E0 (fun i=>(q i).2) xs.length=((xs.reverse.take xs.length).map (·.2)).reverse:=by
   rw [hq];exact Cq xs.reverse _ xs.length (by simp)
  rw [Zy (by simp),List.map_reverse,List.reverse_reverse] at e;exact e
theorem tf (w:World) (s ti:ByteArray) (Z:World->Value->Value->Prop)
  (HR:Hid (∀ wx,af w wx->w.heap.size < wx.heap.size->CP 49 #[s] wx fun e w'=>∃ a1 n1 c1 a2 n2 c2,e=.returned (.tuple #[.agg #[ti,.slice a1 n1 c1,.slice a2 n2 c2],true])/\Z w' (.slice a1 n1 c1) (.slice a2 n2 c2)/\Below wx wx w'))
  (HZ:Hid (∀ w1 w2 v1 v2,Z w1 v1 v2->w1.heap.size<=w2.heap.size->(∀ k,w.heap.size < k->k < w1.heap.size->w2.heap[k]? =w1.heap[k]?)->Z w2 v1 v2)):
  CP 19 #[s] w fun e w'=>∃ vp vm,e=.returned (.tuple #[.agg #[ti,vp,vm],oz])/\Z w' vp vm/\Below w w w':=by
 go_enter func19,ntmps19
 go_wp2_with fail
 have hb0:Below w w (w.alloc (Obj.cells #[Value.string {data:=#[]},Value.slice none 0 0,Value.slice none 0 0] 29)):=(ZT _ w).alloc (ZW _) _;have hr0:(w.alloc (Obj.cells #[Value.string {data:=#[]},Value.slice none 0 0,Value.slice none 0 0] 29)).heap[w.heap.size]? =some (.cells #[Value.string {data:=#[]},Value.slice none 0 0,Value.slice none 0 0] 29 (0,0)):=ZF _ _;refine (HR.out _ hb0 (by simp)).mono ?_;rintro e w1 ⟨a1,n1,c1,a2,n2,c2,rfl,hZ,hb1⟩;have hr1:=(hb1.block w.heap.size (by simp)).trans hr0;have hbw1:Below w w w1:=hb0.trans (hb1.mono (by simp));have hz1:w.heap.size < w1.heap.size:=(ZG.1 hr1).1;have hb2:Below w1 w1 (w1.alloc (Obj.cells #[Value.string ti,Value.slice a1 n1 c1,Value.slice a2 n2 c2] 29)):=(ZT _ w1).alloc (ZW _) _;have hr2:=(hb2.block w.heap.size hz1).trans hr1;have HR2:=ai hr2;have HZ1:=ai hZ;clear hr0 HR hr1 hr2 hb0 hb1 hZ;go_wp2_with (first
  | (refine Zj rfl 29 (.tmp 2) (.tmp 14) rfl w.heap.size #[ti,.slice a1 n1 c1,.slice a2 n2 c2] rfl rfl _ _ HR2.out (by kernel_rfl) rfl (by kernel_rfl) ?_))
 have hrow:=YK _ w.heap.size _ #[ti,.slice a1 n1 c1,.slice a2 n2 c2] _ _ HR2.out;have hoth:=fun k (hk:k≠w.heap.size)=>setRow_other (w1.alloc (Obj.cells #[Value.string ti,Value.slice a1 n1 c1,Value.slice a2 n2 c2] 29)) w.heap.size k #[ti,.slice a1 n1 c1,.slice a2 n2 c2] hk
 obtain ⟨w3,hw3⟩:∃ w3,(w1.alloc (Obj.cells #[Value.string ti,Value.slice a1 n1 c1,Value.slice a2 n2 c2] 29)).setRow w.heap.size #[ti,.slice a1 n1 c1,.slice a2 n2 c2]=w3:=⟨_,rfl⟩;have hz3:w1.heap.size<=w3.heap.size:=by rw [<-hw3];simp [World.setRow]
 rw [hw3] at hrow hoth ⊢;have hw3x:=hw3;clear hw3;have e0:w3.cell? w=ti:=Zw w3 _ 0 _ _ _ hrow;have e1:w3.cell? (zq w 1)=some (.slice a1 n1 c1):=Zw w3 _ 1 _ _ _ hrow;have e2:w3.cell? (zq w 2)=some (.slice a2 n2 c2):=Zw w3 _ 2 _ _ _ hrow;have hk3:∀ k,k≠w.heap.size->k < w1.heap.size->w3.heap[k]? =w1.heap[k]? :=fun k hk hz=>(hoth k hk).trans (hb2.block k hz)
 refine YT (v:=.tuple #[.agg #[ti,.slice a1 n1 c1,.slice a2 n2 c2],oz]) ?_ rfl ⟨_,_,rfl,HZ.out w1 w3 _ _ HZ1.out hz3 (fun k hk hz=>hk3 k (by omega) hz),?_⟩
 ·simp [results,f19,go_sem,e0,e1,e2]
 ·have hos:w3.os=w1.os/\w3.tape=w1.tape/\w3.output=w1.output:=by rw [<-hw3x];exact ⟨rfl,rfl,rfl⟩
  exact ⟨hos.1.trans hbw1.os,hos.2.1.trans hbw1.tape,hos.2.2.trans hbw1.output,ZU hbw1.size hz3,fun k hk=>(hk3 k (by omega) (by omega)).trans (hbw1.block k hk)⟩
theorem uh (w:World) (B:Nat) (s ti:ByteArray) (xs:List iB) (ms:List (ByteArray×Nat)) (hx:∀ x∈xs,kx x) (hxl:xs.length<=80) (hti:ti.size<=100) (hm:ms.length<=20) (hms:∀ m∈ms,(0 < m.1.size/\m.1.size<=100)/\m.2 < xs.length) (hso:Ct ms)
  (hs:s.data.toList=fO (aA xs) (aQ xs) (ax ms) ti.data.toList) (hsz:s.size<=2000000000) (hB:B<=w.heap.size) (ht:bU B w) (hml:fH B w) (he:nA B w):
  CP 19 #[s] w fun e w'=>∃ vp vm:Value,e=.returned (.tuple #[.agg #[ti,vp,vm],oz])/\(∃ ps,ps.map (·.2)=xs.map (·.2)/\DC (w.heap.size+1) vp ps w'/\ic (w.heap.size+1) vm ms.length (iz ms) w')/\Below w w w':=by
 refine tf w s ti (fun w' vp vm=>∃ ps:List (Value×(Int×Int×List bj)),ps.map (·.2)=xs.map (·.2)/\DC (w.heap.size+1) vp ps w'/\ic (w.heap.size+1) vm ms.length (iz ms) w') ?_ ?_
 ·intro wx hg hz;refine (Dk wx B s ti xs ms hx hxl hti hm hms hso hs hsz (ZU hB hg.size) (ht.on (YY hg hB)) (hml.on (YY hg hB)) (nA.on he (YY hg hB))).mono ?_;rintro e w' ⟨vp,vm,rfl,ps,hps,h1,h2,hb⟩;obtain ⟨⟨⟨ad1,c1,rfl,_⟩,_⟩,_⟩:=id h1;obtain ⟨⟨ad2,c2,rfl,_⟩,_⟩:=id h2;exact ⟨_,_,_,_,_,_,rfl,⟨ps,hps,h1.mono (by omega),h2.mono (by omega)⟩,hb⟩
 ·rintro w1 w2 v1 v2 ⟨ps,hps,h1,h2⟩ hz hk;exact ⟨ps,hps,h1.on hz (fun k hk1 hk2=>hk k (by omega) hk2),h2.on hz (fun k hk1 hk2=>hk k (by omega) hk2)⟩
theorem wo:∀ (ps:List (Value×(Int×Int×List bj))) (i:Nat) y,ps.reverse[i]? =some y->(iy ps)[i*3]? =some (.int .i64 y.2.1)/\(iy ps)[i*3+1]? =some (.int .i64 y.2.2.1)/\(iy ps)[i*3+2]? =some y.1
 | [],i,y,h=>by simp at h
 | x::l,i,y,h=>by
  have hl:=eT l;rw [List.reverse_cons] at h;simp only [iy];by_cases hi:i < l.length
  ·rw [YE (by simpa using hi)] at h;obtain ⟨a1,a2,a3⟩:=wo l i y h;rw [YE (by omega),YE (by omega),YE (by omega)];exact ⟨a1,a2,a3⟩
  ·have hi2:i=l.length:=by
    have:=(Zx.1 h).1;simp at this;omega
   subst hi2;rw [Zb (by simp)] at h;simp at h;subst h;rw [Zb (by omega),Zb (by omega),Zb (by omega)];have e0:l.length*3 - (iy l).length=0:=by omega
   have e1:l.length*3+1 - (iy l).length=1:=by omega
   have e2:l.length*3+2 - (iy l).length=2:=by omega
   rw [e0,e1,e2];exact ⟨rfl,rfl,rfl⟩
def bj.kcs9 (o:bj):List Value:=[.int .i64 o.k,.int .i64 o.a,.int .i64 o.b,.int .i64 o.c,.int .i64 o.d,.int .i64 o.e,.int .i64 o.co,.int .i64 o.ro,.string o.s]
theorem wn:∀ (l:List bj) (k:Nat) o,l[k]? =some o->∀ j v,o.kcs9[j]? =some v->(k_ l)[k*9+j]? =some v
 | [],k,o,h=>by simp at h
 | x::l,0,o,h=>by
  intro j v hv;simp at h;subst h;have hj:j < 9:=by
   have:=(Zx.1 hv).1;simpa [bj.kcs9] using this
  have e:k_ (x::l)=x.kcs9++k_ l:=rfl;rw [e,Nat.zero_mul,YF,YE (by simpa [bj.kcs9] using hj)];exact hv
 | x::l,k+1,o,h=>by
  intro j v hv;have e:k_ (x::l)=x.kcs9++k_ l:=rfl;have h9:x.kcs9.length=9:=rfl;rw [e,Zb (by omega)];have e2:(k+1)*9+j - x.kcs9.length=k*9+j:=by omega
  rw [e2];exact wn l k o (by simpa using h) j v hv
theorem EG {w:World} {b o:Nat} {x y z:Value} (h0:w.cell? (zq b o)=some x) (h1:w.cell? (zq b (o+1))=some y) (h2:w.cell? (zq b (o+2))=some z):w.rangeAt b o [x,y,z]:=by
 intro j u hj
 match j,hj with
 | 0,hj=>simp at hj;subst hj;exact h0
 | 1,hj=>simp at hj;subst hj;exact h1
 | 2,hj=>simp at hj;subst hj;exact h2
def Gq (v:Value) (ps:List (Value×(Int×Int×List bj))) (w:World):Prop:=fB v ps.length (iy ps) w/\∀ x∈ps,fB x.1 x.2.2.2.length (k_ x.2.2.2) w
theorem CZ (w:World) (t:ByteArray) (v1 v2 m1 m2:Value) (p1 p2:List (Value×(Int×Int×List bj))) (ms:List (ByteArray×Nat)) (h1:Gq v1 p1 w) (h2:Gq v2 p2 w) (he:p1.map (·.2)=p2.map (·.2)) (hl:p1.length<=80) (hop:∀ x∈p1,x.2.2.2.length<=1000000000) (hm:ms.length<=20) (g1:fB m1 ms.length (iz ms) w) (g2:fB m2 ms.length (iz ms) w):
  QB 23 #[.agg #[t,v1,m1],.agg #[t,v2,m2]] w true:=by
 have hll:p2.length=p1.length:=by have:=congrArg List.length he;simpa using this.symm
 obtain ⟨⟨aa,ca,rfl,b1,d1,f1⟩,l1⟩:=h1;obtain ⟨⟨ab,cb,rfl,b2,d2,f2⟩,l2⟩:=h2;rw [hll] at b2 f2 ⊢;obtain ⟨ad1,c1,rfl,mb1,md1,mf1⟩:=g1;obtain ⟨ad2,c2,rfl,mb2,md2,mf2⟩:=g2;refine A6 w p1.length ca cb ms.length c1 c2 aa ab ad1 ad2 t (by omega) b1 b2 d1 d2 (by omega) mb1 mb2 md1 md2 ?_ ?_
 ·intro hn;obtain ⟨ga,rfl,hga,ka⟩:=mf1 hn;obtain ⟨gb,rfl,hgb,kb⟩:=mf2 hn;refine ⟨ga,gb,rfl,rfl,hga,hgb,fun i hi=>?_⟩;obtain ⟨x,hx⟩:∃ x,ms[i]? =some x:=⟨_,ZM hi⟩;obtain ⟨a1,a2⟩:=s_ ms i x hx;exact ⟨x.1,(x.2:Int),pL (ka _ _ a1) (ka _ _ a2),pL (kb _ _ a1) (kb _ _ a2)⟩
 ·intro hn;obtain ⟨ga,rfl,hga,ka⟩:=f1 hn;obtain ⟨gb,rfl,hgb,kb⟩:=f2 hn;refine ⟨ga,gb,rfl,rfl,hga,hgb,fun i hi=>?_⟩;obtain ⟨y,hy⟩:∃ y,p1.reverse[i]? =some y:=⟨_,ZM (by simpa using hi)⟩;obtain ⟨z,hz⟩:∃ z,p2.reverse[i]? =some z:=⟨_,ZM (by simp;omega)⟩;have hyz:y.2=z.2:=by
   have e1:(p1.map (·.2)).reverse[i]? =some y.2:=by rw [<-List.map_reverse,YR,hy];rfl
   have e2:(p2.map (·.2)).reverse[i]? =some z.2:=by rw [<-List.map_reverse,YR,hz];rfl
   rw [he,e2] at e1;exact (YI e1).symm
  have my:y∈p1:=Yk.1 (YG hy);have mz:z∈p2:=Yk.1 (YG hz);obtain ⟨a1,a2,a3⟩:=wo p1 i y hy;obtain ⟨e1,e2,e3⟩:=wo p2 i z hz;obtain ⟨oa,qa,hva,ha1,ha2,ha3⟩:=l1 y my;obtain ⟨ob,qb,hvb,hb1,hb2,hb3⟩:=l2 z mz;rw [<-hyz] at e1 e2 hvb hb1 hb3;refine ⟨y.2.1,y.2.2.1,y.2.2.2.length,qa,qb,oa,ob,EG (ka _ _ a1) (ka _ _ a2) (by rw [<-hva];exact ka _ _ a3),EG (kb _ _ e1) (kb _ _ e2) (by rw [<-hvb];exact kb _ _ e3),hop y my,ha1,hb1,ha2,hb2,?_⟩;intro hn;obtain ⟨g1,rfl,hg1,k1⟩:=ha3 hn;obtain ⟨g2,rfl,hg2,k2⟩:=hb3 hn;refine ⟨g1,g2,rfl,rfl,hg1,hg2,fun k hk=>?_⟩;obtain ⟨o,ho⟩:∃ o,y.2.2.2[k]? =some o:=⟨_,ZM hk⟩;exact ⟨o.k,o.a,o.b,o.c,o.d,o.e,o.co,o.ro,o.s,fun j v hv=>k1 _ _ (wn _ k o ho j v hv),fun j v hv=>k2 _ _ (wn _ k o ho j v hv)⟩
theorem BT (w:World) (jx jy jz Wx Wy Wz:Nat) (a0:Option Addr) (len cap:Nat) (A B:Int) (p q:Nat) (hp:p < 100) (hq:q < 5) (F:ByteArray)
  (HP:Hid (∀ wx,QE 15 #[A,(100:Int)] wx (p:Int)))
  (HQ:Hid (∀ wx,QE 15 #[B,(5:Int)] wx (q:Int)))
  (HB:Hid (CP 21 #[(-1:Int),oz,oz] w fun e w1=>e=.returned (zp jx)/\CP 21 #[(-1:Int),((1+p:Nat):Int),((1+q:Nat):Int)] w1 fun e w2=>e=.returned (zp jy)/\CP 21 #[(-1:Int),((1+p:Nat):Int),((1+q:Nat):Int)] w2 fun e w3=>e=.returned (zp jz)/\CP 22 #[zp jx,.slice a0 len cap] w3 fun e w4=>e=.returned true/\CP 22 #[zp jy,.slice a0 len cap] w4 fun e w5=>e=.returned true/\CP 22 #[zp jz,.slice a0 len cap] w5 fun e w6=>e=.returned true/\w6.cell? jx=some (.pointer (some ⟨Wx,0,none⟩))/\CP 20 #[zp Wx] w6 fun e w7=>∃ f,e=.returned (.string f)/\CP 19 #[.string f] w7 fun e w8=>∃ ti a1 n1 k1 a2 n2 k2,e=.returned (.tuple #[.agg #[.string ti,.slice a1 n1 k1,.slice a2 n2 k2],oz])/\∀ we,af w8 we->we.cell? jy=some (.pointer (some ⟨Wy,0,none⟩))/\CP 20 #[zp Wy] we fun e w10=>∃ f,e=.returned (.string f)/\CP 19 #[.string f] w10 fun e w11=>∃ tj b1 m1 l1 b2 m2 l2,e=.returned (.tuple #[.agg #[.string tj,.slice b1 m1 l1,.slice b2 m2 l2],oz])/\af we w11/\∀ wf,af w11 wf->CP 23 #[.agg #[.string ti,.slice a1 n1 k1,.slice a2 n2 k2],.agg #[.string tj,.slice b1 m1 l1,.slice b2 m2 l2]] wf fun e w13=>e=.returned true/\∀ wg,af w13 wg->Below w w wg/\wg.cell? jy=some (.pointer (some ⟨Wy,0,none⟩))/\wg.cell? jz=some (.pointer (some ⟨Wz,0,none⟩))/\(QE 20 #[zp Wy] wg F)/\(QE 20 #[zp Wz] wg F))):
  QB 7 #[.slice a0 len cap,A,B] w true:=by
 have e1:(1:Int)+(p:Int)=((1+p:Nat):Int):=by omega
 have e2:(1:Int)+(q:Int)=((1+q:Nat):Int):=by omega
 have E1:=ai e1;have E2:=ai e2;clear e1 e2;go_enter func7,ntmps7
 go_wp2_with fail
 refine HB.out.mono ?_;rintro e w1 ⟨rfl,h1⟩;have H1:=ai h1;clear h1 HB;go_wp2_with fail
 refine (HP.out _).mono ?_;rintro e w0 ⟨rfl,rfl⟩;go_wp2_with fail
 refine (HQ.out _).mono ?_;rintro e w0 ⟨rfl,rfl⟩;go_wp2_with fail
 rw [E1.out,E2.out];refine H1.out.mono ?_;rintro e w2 ⟨rfl,h2⟩;have H2:=ai h2;clear h2 H1;go_wp2_with fail
 refine (HP.out _).mono ?_;rintro e w0 ⟨rfl,rfl⟩;go_wp2_with fail
 refine (HQ.out _).mono ?_;rintro e w0 ⟨rfl,rfl⟩;go_wp2_with fail
 rw [E1.out,E2.out];refine H2.out.mono ?_;rintro e w3 ⟨rfl,h3⟩;have H3:=ai h3;clear h3 H2;go_wp2_with fail
 clear HP HQ E1 E2;refine H3.out.mono ?_;rintro e w4 ⟨rfl,h4⟩;have H4:=ai h4;clear h4 H3;go_wp2_with fail
 refine H4.out.mono ?_;rintro e w5 ⟨rfl,h5⟩;have H5:=ai h5;clear h5 H4;go_wp2_with fail
 refine H5.out.mono ?_;rintro e w6 ⟨rfl,h6⟩;have H6:=ai h6;clear h6 H5;obtain ⟨c0,h7⟩:=H6.out;have H7:=ai h7;clear h7 H6;go_wp2_with fail
 refine H7.out.mono ?_;rintro e w7 ⟨f,rfl,h8⟩;have H8:=ai h8;clear h8 H7 c0;go_wp2_with fail
 refine H8.out.mono ?_;rintro e w8 ⟨ti,a1,n1,k1,a2,n2,k2,rfl,h9⟩;have H9:=ai h9;clear h9 H8;have g8:af w8 (w8.alloc (.cells #[ti,.slice a1 n1 k1,.slice a2 n2 k2] 29)):=(ZT _ w8).alloc (ZW _) _;have r8:(w8.alloc (.cells #[ti,.slice a1 n1 k1,.slice a2 n2 k2] 29)).heap[w8.heap.size]? =some (.cells #[ti,.slice a1 n1 k1,.slice a2 n2 k2] 29 (0,0)):=ZF w8 _;obtain ⟨c1,h10⟩:=H9.out _ g8;have H10:=ai h10;have R8:=ai r8;clear h10 H9 g8 r8;go_wp2_with fail
 generalize w8.alloc (.cells #[ti,.slice a1 n1 k1,.slice a2 n2 k2] 29)=w9 at H10 R8 c1 ⊢;generalize w8.heap.size=b8 at R8 ⊢;refine H10.out.mono ?_;rintro e w10 ⟨f2,rfl,h11⟩;have H11:=ai h11;clear h11 H10 c1;go_wp2_with fail
 refine H11.out.mono ?_;rintro e w11 ⟨tj,b1,m1,l1,b2,m2,l2,rfl,g11,h12⟩;have r11:w11.heap[b8]? =some (.cells #[ti,.slice a1 n1 k1,.slice a2 n2 k2] 29 (0,0)):=(g11.block b8 (ZG.1 R8.out).1).trans R8.out;have hb8:b8 < w11.heap.size:=(ZG.1 r11).1;have g12:af w11 (w11.alloc (.cells #[tj,.slice b1 m1 l1,.slice b2 m2 l2] 29)):=(ZT _ w11).alloc (ZW _) _;have q1:(w11.alloc (.cells #[tj,.slice b1 m1 l1,.slice b2 m2 l2] 29)).heap[b8]? =some (.cells #[ti,.slice a1 n1 k1,.slice a2 n2 k2] 29 (0,0)):=(g12.block b8 hb8).trans r11;have q2:(w11.alloc (.cells #[tj,.slice b1 m1 l1,.slice b2 m2 l2] 29)).heap[w11.heap.size]? =some (.cells #[tj,.slice b1 m1 l1,.slice b2 m2 l2] 29 (0,0)):=ZF w11 _;have H12:=ai (fun wf h=>h12 wf (af.trans g12 h));have Q1:=ai q1;have Q2:=ai q2;clear h12 H11 R8 g11 r11 hb8 g12 q1 q2;go_wp2_with (first | (refine Zi rfl 29 (.tmp 13) rfl b8 rfl 29 _ (0,0) _ Q1.out underlying29 rfl (by kernel_rfl) ?_) | (refine Zi rfl 29 (.tmp 15) rfl w11.heap.size rfl 29 _ (0,0) _ Q2.out underlying29 rfl (by kernel_rfl) ?_))
 have HX:=ai (H12.out _ (af.refl _));clear H12 Q1 Q2;refine HX.out.mono ?_;rintro e w14 ⟨rfl,h14⟩;have H14:=ai h14;clear h14 HX;go_wp2_with fail
 refine ap 22 _ (ag [true,true,oz,true,true,true,oz,true,true,true,zp jy,zp jy,zp jy,zp Wy,F,zp jz,zp jz,zp jz,zp Wz,F,true,true]) (by kernel_rfl) rfl (by kernel_rfl) aq ?_;simp only [TD];refine ⟨fun w1 hG hd=>?_,fun v0=>?_⟩
 ·clear hd;go_wp2;exact RG
 simp only [TN];refine ⟨fun w1 hG hd=>?_,fun v1=>?_⟩
 ·have d0:v0=.bool true:=hd ⟨0,.data⟩ (by simp) rfl;clear hd;subst d0;go_wp2;exact RG
 simp only [TN];refine ⟨fun w1 hG hd=>?_,fun v2=>?_⟩
 ·have d1:v1=.bool true:=hd ⟨1,.guard⟩ (by simp) rfl;clear hd;subst d1;go_wp2;exact RG
 simp only [TN];refine ⟨fun w1 hG hd=>?_,fun v3=>?_⟩
 ·have d2:v2=.int .i64 0:=hd ⟨2,.data⟩ (by simp) rfl;have d1:v1=.bool true:=hd ⟨1,.guard⟩ (by simp) rfl;clear hd;subst d2 d1;go_wp2;exact RG
 simp only [TN];refine ⟨fun w1 hG hd=>?_,fun v4=>?_⟩
 ·have d1:v1=.bool true:=hd ⟨1,.data⟩ (by simp) rfl;have d3:v3=.bool true:=hd ⟨3,.data⟩ (by simp) rfl;clear hd;subst d1 d3;go_wp2;exact RG
 simp only [TN];refine ⟨fun w1 hG hd=>?_,fun v5=>?_⟩
 ·have d4:v4=.bool true:=hd ⟨4,.data⟩ (by simp) rfl;clear hd;subst d4;go_wp2;exact RG
 simp only [TN];refine ⟨fun w1 hG hd=>?_,fun v6=>?_⟩
 ·have d5:v5=.bool true:=hd ⟨5,.guard⟩ (by simp) rfl;clear hd;subst d5;go_wp2;exact RG
 simp only [TN];refine ⟨fun w1 hG hd=>?_,fun v7=>?_⟩
 ·have d6:v6=.int .i64 0:=hd ⟨6,.data⟩ (by simp) rfl;have d5:v5=.bool true:=hd ⟨5,.guard⟩ (by simp) rfl;clear hd;subst d6 d5;go_wp2;exact RG
 simp only [TN];refine ⟨fun w1 hG hd=>?_,fun v8=>?_⟩
 ·have d5:v5=.bool true:=hd ⟨5,.data⟩ (by simp) rfl;have d7:v7=.bool true:=hd ⟨7,.data⟩ (by simp) rfl;clear hd;subst d5 d7;go_wp2;exact RG
 simp only [TN];refine ⟨fun w1 hG hd=>?_,fun v9=>?_⟩
 ·have d8:v8=.bool true:=hd ⟨8,.data⟩ (by simp) rfl;clear hd;subst d8;go_wp2;exact RG
 simp only [TN];refine ⟨fun w1 hG hd=>?_,fun v10=>?_⟩
 ·have d9:v9=.bool true:=hd ⟨9,.guard⟩ (by simp) rfl;clear hd;subst d9;go_wp2;exact RG
 simp only [TN];refine ⟨fun w1 hG hd=>?_,fun v11=>?_⟩
 ·have d10:v10=.pointer (some ⟨jy,0,none⟩):=hd ⟨10,.data⟩ (by simp) rfl;have d9:v9=.bool true:=hd ⟨9,.guard⟩ (by simp) rfl;clear hd;subst d10 d9;go_wp2;exact RG
 simp only [TN];refine ⟨fun w1 hG hd=>?_,fun v12=>?_⟩
 ·have d11:v11=.pointer (some ⟨jy,0,none⟩):=hd ⟨11,.data⟩ (by simp) rfl;have d9:v9=.bool true:=hd ⟨9,.guard⟩ (by simp) rfl;clear hd;subst d11 d9;go_wp2;exact RG
 simp only [TN];refine ⟨fun w1 hG hd=>?_,fun v13=>?_⟩
 ·have d12:v12=.pointer (some ⟨jy,0,none⟩):=hd ⟨12,.data⟩ (by simp) rfl;have d9:v9=.bool true:=hd ⟨9,.guard⟩ (by simp) rfl;clear hd;subst d12 d9;have c:=(H14.out w1 hG).2.1;go_wp2;exact RG
 simp only [TN];refine ⟨fun w1 hG hd=>?_,fun v14=>?_⟩
 ·have d13:v13=.pointer (some ⟨Wy,0,none⟩):=hd ⟨13,.data⟩ (by simp) rfl;have d9:v9=.bool true:=hd ⟨9,.guard⟩ (by simp) rfl;clear hd;subst d13 d9;have HX:=ai ((H14.out w1 hG).2.2.2.1);go_wp2_with fail
  refine HX.out.mono ?_;rintro e w2 ⟨rfl,rfl⟩;go_wp2;exact RG
 simp only [TN];refine ⟨fun w1 hG hd=>?_,fun v15=>?_⟩
 ·have d9:v9=.bool true:=hd ⟨9,.guard⟩ (by simp) rfl;clear hd;subst d9;go_wp2;exact RG
 simp only [TN];refine ⟨fun w1 hG hd=>?_,fun v16=>?_⟩
 ·have d15:v15=.pointer (some ⟨jz,0,none⟩):=hd ⟨15,.data⟩ (by simp) rfl;have d9:v9=.bool true:=hd ⟨9,.guard⟩ (by simp) rfl;clear hd;subst d15 d9;go_wp2;exact RG
 simp only [TN];refine ⟨fun w1 hG hd=>?_,fun v17=>?_⟩
 ·have d16:v16=.pointer (some ⟨jz,0,none⟩):=hd ⟨16,.data⟩ (by simp) rfl;have d9:v9=.bool true:=hd ⟨9,.guard⟩ (by simp) rfl;clear hd;subst d16 d9;go_wp2;exact RG
 simp only [TN];refine ⟨fun w1 hG hd=>?_,fun v18=>?_⟩
 ·have d17:v17=.pointer (some ⟨jz,0,none⟩):=hd ⟨17,.data⟩ (by simp) rfl;have d9:v9=.bool true:=hd ⟨9,.guard⟩ (by simp) rfl;clear hd;subst d17 d9;have c:=(H14.out w1 hG).2.2.1;go_wp2;exact RG
 simp only [TN];refine ⟨fun w1 hG hd=>?_,fun v19=>?_⟩
 ·have d18:v18=.pointer (some ⟨Wz,0,none⟩):=hd ⟨18,.data⟩ (by simp) rfl;have d9:v9=.bool true:=hd ⟨9,.guard⟩ (by simp) rfl;clear hd;subst d18 d9;have HX:=ai ((H14.out w1 hG).2.2.2.2);go_wp2_with fail
  refine HX.out.mono ?_;rintro e w2 ⟨rfl,rfl⟩;go_wp2;exact RG
 simp only [TN];refine ⟨fun w1 hG hd=>?_,fun v20=>?_⟩
 ·have d14:v14=.string F:=hd ⟨14,.data⟩ (by simp) rfl;have d19:v19=.string F:=hd ⟨19,.data⟩ (by simp) rfl;have d9:v9=.bool true:=hd ⟨9,.guard⟩ (by simp) rfl;clear hd;subst d14 d19 d9;go_wp2;exact ⟨(by show Value.bool _=Value.bool true;congr 1),af.refl _⟩
 simp only [TN];refine ⟨fun w1 hG hd=>?_,fun v21=>?_⟩
 ·have d9:v9=.bool true:=hd ⟨9,.data⟩ (by simp) rfl;have d20:v20=.bool true:=hd ⟨20,.data⟩ (by simp) rfl;clear hd;subst d9 d20;go_wp2;exact RG
 simp only [TN];intro w15 hG hd;have d21:v21=.bool true:=hd 21 (by omega);subst d21;clear hd;have HZ:=ai (H14.out w15 hG).1;clear H14 hG;go_wp2
 first | exact ⟨rfl,HZ.out⟩ | (go_ret;exact ⟨rfl,HZ.out⟩)
end Go.Proofs.YtbklfkpjoinofaaGreatDoor
