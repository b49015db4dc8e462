import Derived.Test.YtbklfkpjoinofaaGreatDoorA26
set_option linter.all false
set_option maxRecDepth 100000
set_option maxHeartbeats 8000000
namespace Go.Proofs.YtbklfkpjoinofaaGreatDoor
open Go.RowKit Go.Proofs.Tryz
structure l9 (rows:List (Nat×Nat×Nat)):Prop where
 len:rows.length<=10
 mem:∀ r∈rows,r.1<=2000/\r.2.1<=80/\r.2.2<=512
theorem iO (f p:Nat) (hf:f<=1000) (hp:p<=80):l9 (cR f p) where
 len:=by have:=(sr f p 1 hp).2;simp only [cR,ZX];omega
 mem:=by
  intro r hr;rcases Zl.1 hr with rfl | hr
  ·simp;omega
  ·have:=sS f p 1 hp r hr;omega
theorem l9.at {rows:List (Nat×Nat×Nat)} (h:l9 rows) (r:Nat):(rowAt rows r).1<=2000/\(rowAt rows r).2.1<=80/\(rowAt rows r).2.2<=512:=by
 by_cases hr:r < rows.length
 ·exact h.mem _ (YJ (dR hr))
 ·have e:rowAt rows r=(0,0,0):=by simp only [rowAt,ZJ];rw [XC (by omega)];rfl
  rw [e];simp
theorem ve {rows:List (Nat×Nat×Nat)} (h:l9 rows) (r i:Nat) (hi:i<=80):rR (rows.drop (r+1)) i<=3000:=by
 cases e:rows.drop (r+1) with
 | nil=>simp [rR]
 | cons q l=>
  have hq:q∈rows:=List.mem_of_mem_drop (by rw [e];simp:q∈rows.drop (r+1));have:=(h.mem q hq).1;simp only [rR];omega
theorem jR (p s i:Nat) (hp:p<=80) (hs:s<=512) (hi:i<=80):-100000<=bV p s i/\bV p s i<=100000:=by
 unfold bV;have h1:i*s<=80*512:=Xz hi hs;have h2:(i:Int)*(s:Int)=((i*s:Nat):Int):=by simp
 rw [h2];omega
theorem kZ (w:World) (rows:List (Nat×Nat×Nat)) (v:Value) (hs:l9 rows) (h:gP (rows.map nS) v w) (r i:Nat) (hr:r < rows.length) (hi:i<=80):
  QB 175 #[v,(r:Int),(i:Int)] w ((rR (rows.drop (r+1)) i:Nat):Int):=by
 by_cases ht:r+1=rows.length
 ·rw [YE (by omega)];refine (su w _ v h r (i:Int) (by rw [Yx];exact ht)).mono ?_;rintro e w' ⟨rfl,q,rfl⟩;exact ⟨rfl,ay w q⟩
 ·have hr1:r+1 < rows.length:=by omega
  have e:rows.drop (r+1)=rowAt rows (r+1)::rows.drop (r+2):=by rw [Zo hr1];simp [rowAt,hr1]
  rw [e];have hs1:=hs.at (r+1);refine (u_ w _ v h r i (nS (rowAt rows (r+1))) (by rw [YV,dR hr1];rfl) (by simp [nS]) (by simp [nS];omega) (by omega)).mono ?_;rintro e w' ⟨rfl,q,rfl⟩;exact ⟨by simp [nS,rR],ay w q⟩
theorem ur (w:World) (rows:List (Nat×Nat×Nat)) (v:Value) (p:Nat) (hs:l9 rows) (h:gP (rows.map nS) v w) (hp:(rowAt rows 0).2.1=p) (r i:Nat) (hr:r < rows.length) (hi:i<=80):
  QB 213 #[v,(r:Int),(i:Int)] w (bV p (rowAt rows r).2.2 i:Int):=by
 have hs1:=hs.at r;have hs0:=hs.at 0;refine (nN w _ v h r i (nS (rowAt rows r)) (nS (rowAt rows 0)) (by rw [YV,dR hr];rfl) (by rw [YV,dR (by omega)];rfl) (by simp [nS]) (by simp [nS];omega) (by simp [nS]) (by simp [nS];omega) (by omega)).mono ?_;rintro e w' ⟨rfl,q,rfl⟩;exact ⟨by simp [nS,bV,hp],ay w q⟩
theorem wj (B:Nat) (w:World) (rows:List (Nat×Nat×Nat)) (v:Value) (hB:B<=w.heap.size) (ht:bU B w) (hs:l9 rows) (h:gP (rows.map nS) v w) (r i:Nat) (hr1:1<=r) (hr:r < rows.length) (hi:i<=80):
  QB 212 #[v,(r:Int),(i:Int)] w (.string ⟨(gv (rowAt rows (r - 1)).1 (rowAt rows (r - 1)).2.1 i).toArray⟩):=by
 obtain ⟨k,rfl⟩:∃ k,r=k+1:=⟨r - 1,by omega⟩;obtain ⟨b,cap,rfl,hc,hcm,hb,hcell⟩:=h;obtain ⟨a1,a2,a3⟩:=hcell k (nS (rowAt rows k)) (by rw [YV,dR (by omega)];rfl);have hs1:=hs.at k;rw [Yx] at hc ⊢;have e1:((k+1:Nat):Int)=(k:Int)+1:=by omega
 rw [e1,Nat.add_sub_cancel];refine xb B w b rows.length cap k i (rowAt rows k).1 (rowAt rows k).2.1 (rowAt rows k).2.2 _ hB ht hr hc hcm (by omega) (by omega) (by omega) rfl hb a1 a2 a3 ?_;intro wr v' hv;refine zv B wr v' _ _ (jH _ _) (by have:=Nat.min_le_left 8 ((rowAt rows k).2.1 - 8*i);omega) (fun x hx=>?_) hv;obtain ⟨j,hj,rfl⟩:=nH _ _ _ hx;have:=dU ((rowAt rows k).1+8*i+j) (by omega);omega
theorem qh (w:World) (B E fi:Nat) (info cat:Int) (bodies:List (List UInt8)) (S:Bl) (v:Value) (f p:Nat) (hB:B<=w.heap.size) (ht:bU B w) (hf:f<=1000) (hp:p<=80) (hfi:fi<=1000) (hbl:bodies.length<=1000)
  (h:ah (ED B E (fi:Int) info cat bodies) (aW B 229 3 v (cR f p).length (eF (cR f p))) w S):
  CP 177 #[zp E,v] w fun e w'=>e=.returned ((fi+bodies.length+(bS p f p 1).length - 1:Nat):Int)/\∃ S',ah (ED B E (fi:Int) info cat (bodies++bS p f p 1)) (aW B 229 3 v (cR f p).length (eF (cR f p))) w' S'/\Mv S w S' w':=by
 have hs:=iO f p hf hp;have hp0:(rowAt (cR f p) 0).2.1=p:=rfl;have hnl:=ib p f p 1;have hfirst:iu p (cR f p) 1 0=bS p f p 1:=by rw [cR,vx,mj]
 have hne:cR f p≠[]:=by simp [cR]
 have hl1:1<=(cR f p).length:=by simp [cR]
 obtain ⟨rows,hrows⟩:∃ rows,cR f p=rows:=⟨_,rfl⟩;obtain ⟨nodes,hnodes⟩:∃ nodes,bS p f p 1=nodes:=⟨_,rfl⟩;rw [hnodes] at hfirst hnl ⊢;rw [hrows] at h hs hp0 hfirst hne hl1 ⊢;clear hrows hnodes;have hT:∀ d,aJ B (ah (ED B E (fi:Int) info cat d) (aW B 229 3 v rows.length (eF rows))):=fun d=>ah.thing (ED.thing _ _ _ _ _ _) (aW.thing _ _ _ _ _ _)
 have htr0:gP (rows.map nS) v w:=by
  obtain ⟨S1,S2,h1,h2,_⟩:=h;exact lW h2.2 hne
 obtain ⟨b,cap,hv,hc,hcm,hb,_⟩:=id htr0;rw [Yx] at hv hc;subst hv;have tre:∀ {d w1 S1},ah (ED B E (fi:Int) info cat d) (aW B 229 3 (.slice b rows.length cap) rows.length (eF rows)) w1 S1->gP (rows.map nS) (.slice b rows.length cap) w1:=by
  intro d w1 S1 h1;obtain ⟨_,_,_,h2,_⟩:=h1;exact lW h2.2 hne
 have gd:∀ r i,r < rows.length->i < (rowAt rows r).2.1->i<=80:=fun r i hr hi=>by have:=(hs.at r).2.1;omega
 have tb:∀ {S1 w1},Mv S w S1 w1->Below B w w1:=fun m=>m.below (fun _ e=>(hT bodies).ge h e) hB
 have tgt:∀ {d w1 S1},ah (ED B E (fi:Int) info cat d) (aW B 229 3 (.slice b rows.length cap) rows.length (eF rows)) w1 S1->∀ {w2},Below w1 w1 w2->gP (rows.map nS) (.slice b rows.length cap) w2:=fun {d w1 S1} h1 {w2} hb=>(tre h1).on hb
 let up:Nat->Nat->Int:=fun r i=>((rR (rows.drop (r+1)) i:Nat):Int)
 let bl:Nat->Nat->Int:=fun r i=>bV p (rowAt rows r).2.2 i
 let pe:Nat->Nat->List UInt8:=fun r i=>if i<=80 then bt [47,80,97,114,101,110,116] (up r i) else []
 let kd:Nat->Nat->List UInt8:=fun r i=>if i<=80 then gv (rowAt rows (r - 1)).1 (rowAt rows (r - 1)).2.1 i else []
 let it:Nat->Nat->List UInt8:=fun r i=>if i<=80 then Lib.itoa (bl r i) else []
 have hup:∀ r i,i<=80->up r i<=3000:=fun r i hi=>by have:=ve hs r i hi;show ((rR (rows.drop (r+1)) i:Nat):Int)<=3000;omega
 have hup0:∀ r i,0<=up r i:=fun r i=>by show (0:Int)<=((rR (rows.drop (r+1)) i:Nat):Int);omega
 have hpp:p<=80:=hp;have hbl2:∀ r i,i<=80->-100000<=bl r i/\bl r i<=100000:=fun r i hi=>jR p _ i hpp (hs.at r).2.2 hi
 refine oe w E b rows.length cap (fi+bodies.length+nodes.length - 1) (fun r=>(rowAt rows r).2.1) up bl pe kd it (fun r i=>[60,60,32,47,84,121,112,101,32,47,80,97,103,101,115,32]++pe r i++[47,75,105,100,115,32,91]++kd r i++[93,32,47,67,111,117,110,116,32]++it r i++[32,62,62])
  (fun r i w1=>1<=r/\∃ done S1,done++iu p rows r i=bodies++nodes/\ah (ED B E (fi:Int) info cat done) (aW B 229 3 (.slice b rows.length cap) rows.length (eF rows)) w1 S1/\Mv S w S1 w1)
  _ (by have:=hs.len;omega) hl1 hc hcm (fun r _=>by have:=(hs.at r).2.1;omega) ?_ ?_ ?_ ?_ (fun _ _=>rfl) ?_ ?_ ?_ ?_ ?_ ?_ ?_ ?_ ?_ ?_
 ·intro r i;show (if i<=80 then _ else _:List UInt8).length<=200
  by_cases hi:i<=80
  ·rw [ZM hi];have:=ww [47,80,97,114,101,110,116] (up r i) (by simp) (by have:=hup0 r i;omega) (by have:=hup r i hi;omega);omega
  ·rw [ZO hi];simp
 ·intro r i;show (if i<=80 then _ else _:List UInt8).length<=1000
  by_cases hi:i<=80
  ·rw [ZM hi];have:=(hs.at (r - 1)).1;exact oR _ _ _ (by omega) (by omega)
  ·rw [ZO hi];simp
 ·intro r i;show (if i<=80 then _ else _:List UInt8).length<=30
  by_cases hi:i<=80
  ·rw [ZM hi];have h1:=hbl2 r i hi;have:=ar (bl r i) (by omega) (by omega);omega
  ·rw [ZO hi];simp
 ·omega
 ·exact ⟨ZV _,bodies,S,by rw [hfirst],h,Mv.refl _ _⟩
 ·rintro r i w1 hr ⟨_,d,S1,_,h1,_⟩;obtain ⟨b',cap',hv',_,_,_,hcell⟩:=tre h1;have eb:b'=b:=by
   simp at hv';exact hv'.1.symm
  subst eb;exact (hcell r (nS (rowAt rows r)) (by rw [YV,dR hr];rfl)).2.1
 ·rintro r i w1 hr hi ⟨_,d,S1,_,h1,_⟩ w2 hb2;have:=kZ w2 rows _ hs (tgt h1 hb2) r i hr (gd r i hr hi);exact this
 ·rintro r i w1 hr hi ⟨_,d,S1,_,h1,m1⟩ w2 hb2;have hi80:=gd r i hr hi;have e:pe r i=bt [47,80,97,114,101,110,116] (up r i):=ZM hi80;rw [e];exact dF B w2 _ _ (by simp) (by have:=hup0 r i;omega) (by have:=hup r i hi80;omega) (ht.on ((tb m1).trans (hb2.mono (by have:=(tb m1).size;omega))))
 ·rintro r i w1 hr hi ⟨hr1,d,S1,_,h1,m1⟩ w2 hb2;have hi80:=gd r i hr hi;have e:kd r i=gv (rowAt rows (r - 1)).1 (rowAt rows (r - 1)).2.1 i:=ZM hi80;rw [e];have hz:=(tb m1).size;have:=wj B w2 rows _ (by have:=hb2.size;omega) (ht.on ((tb m1).trans (hb2.mono (by omega)))) hs (tgt h1 hb2) r i hr1 hr hi80;exact this
 ·rintro r i w1 hr hi ⟨_,d,S1,_,h1,_⟩ w2 hb2;have:=ur w2 rows _ p hs (tgt h1 hb2) hp0 r i hr (gd r i hr hi);exact this
 ·rintro r i w1 hr hi ⟨_,d,S1,_,h1,m1⟩ w2 hb2;have hi80:=gd r i hr hi;have e:it r i=Lib.itoa (bl r i):=ZM hi80;rw [e];have hz:=(tb m1).size;have h9:=hbl2 r i hi80;exact bp B w2 _ (by omega) (by omega) (ht.on ((tb m1).trans (hb2.mono (by omega))))
 ·rintro r i w1 hr hi ⟨hr1,d,S1,he,h1,m1⟩ w2 hb2;have hi80:=gd r i hr hi;have h2:=(hT d).grow h1 hb2;obtain ⟨S2,hE,_,back⟩:=ah.fst (aW.thing _ _ _ _ _ _) h2;have hz:=(tb m1).size;have hdl:d.length<=2000:=by
   have:=congrArg List.length he;simp only [ZY] at this;omega
  refine ⟨(fi:Int)+(d.length:Int),(lB w2 B E (fi:Int) info cat d S2 _ hE (by have:=hb2.size;omega) (by omega) (by omega) (by omega)).mono ?_⟩;rintro e w3 ⟨rfl,S3,hE3,m3⟩;obtain ⟨S4,h4,m4⟩:=back _ _ _ hE3 m3;refine ⟨rfl,hr1,_,S4,?_,h4,(m1.trans (Mv.grow hb2 _)).trans m4⟩;rw [ss p rows r i hi] at he;rw [ZT, <-he];congr 1;have e1:pe r i=bt [47,80,97,114,101,110,116] (up r i):=ZM hi80;have e2:kd r i=gv (rowAt rows (r - 1)).1 (rowAt rows (r - 1)).2.1 i:=ZM hi80;have e3:it r i=Lib.itoa (bl r i):=ZM hi80;rw [e1,e2,e3];rfl
 ·rintro r w1 hr ⟨hr1,d,S1,he,h1,m1⟩;exact ⟨by omega,d,S1,by rw [<-mR];exact he,h1,m1⟩
 ·rintro w1 ⟨_,d,S1,he,h1,m1⟩;rw [wT,YX] at he;subst he;obtain ⟨S2,hE,_,back⟩:=ah.fst (aW.thing _ _ _ _ _ _) h1;obtain ⟨vb,c0,c1,_,_,ow,_⟩:=hE.grown [];obtain ⟨ad,cap2,hform⟩:∃ ad cap,vb=.slice ad (bodies++nodes).length cap:=by
   rcases ow.2 with ⟨hu,hz⟩ | ⟨gg,cap,cur,hu,_⟩
   ·exact ⟨none,0,by rw [hu,hz]⟩
   ·exact ⟨_,_,hu⟩
  rw [hform] at c1;have hln:(bodies++nodes).length=bodies.length+nodes.length:=ZY;refine (kh w1 E (fi:Int) ad _ cap2 c0 c1 (by omega) (by omega) (by omega)).mono ?_;rintro e w2 ⟨rfl,q,rfl⟩;refine ⟨?_,rfl,S1,(hT _).drewN h1 q,m1.drewN q⟩;rw [hln];congr 2;omega
def fB (v:Value) (n:Nat) (xs:List Value) (w:World):Prop:=∃ ad cap,v=.slice ad n cap/\n<=cap/\cap<=9223372036854775807/\(0 < n->∃ b,ad=some ⟨b,0,none⟩/\b < w.heap.size/\∀ i x,xs[i]? =some x->w.cell? (zq b i)=some x)
theorem fB.on {v:Value} {n:Nat} {xs:List Value} {w w':World} (h:fB v n xs w) (g:Below w w w'):fB v n xs w':=by
 obtain ⟨ad,cap,hv,h1,h2,h3⟩:=h;refine ⟨ad,cap,hv,h1,h2,fun hn=>?_⟩;obtain ⟨b,ha,hb,hc⟩:=h3 hn;exact ⟨b,ha,ZK hb g.size,fun i x hx=>(g.cell (p:=zq b i) hb).trans (hc i x hx)⟩
theorem aW.lies {B:Nat} {e:TypeId} {z:Nat} {v:Value} {n:Nat} {xs:List Value} {w:World} {S:Bl} (h:aW B e z v n xs w S):fB v n xs w:=by
 by_cases hn:0 < n
 ·obtain ⟨g,cap,hv,h1,h2,hg⟩:=iF h.2 hn;refine ⟨some ⟨g,0,none⟩,cap,hv,h1,h2,fun _=>⟨g,rfl,hg,fun i x hx=>?_⟩⟩;have:=h.2.cells (g:=g) (by rw [hv];rfl) i x hx;have hadd:(⟨g,0,none⟩:Addr).add i=⟨g,i,none⟩:=by unfold Addr.add;split <;> simp_all
  rwa [hadd] at this
 ·rcases h.2.2 with ⟨hu,hz⟩ | ⟨g,cap,cur,hu,_,hg,h1,h2,_⟩
  ·exact ⟨none,0,by rw [hu,hz],by omega,by omega,fun h0=>absurd h0 hn⟩
  ·exact ⟨some ⟨g,0,none⟩,cap,hu,h1,by unfold maxLen at h2;omega,fun h0=>absurd h0 hn⟩
theorem s_:∀ (l:List (ByteArray×Nat)) (i:Nat) x,l[i]? =some x->(iz l)[i*2]? =some (.string x.1)/\(iz l)[i*2+1]? =some (.int .i64 (x.2:Int))
 | [],i,x,h=>by simp at h
 | a::l,0,x,h=>by simp at h;subst h;exact ⟨rfl,rfl⟩
 | a::l,i+1,x,h=>by
  obtain ⟨h1,h2⟩:=s_ l i x (by simpa using h);have e:(i+1)*2=i*2+2:=by omega
  rw [e];exact ⟨h1,h2⟩
theorem zm:∀ (l:List (Int×Int)) (i:Nat) x,l[i]? =some x->(rN l)[i*2]? =some (.int .i64 x.1)/\(rN l)[i*2+1]? =some (.int .i64 x.2)
 | [],i,x,h=>by simp at h
 | a::l,0,x,h=>by simp at h;subst h;exact ⟨rfl,rfl⟩
 | a::l,i+1,x,h=>by
  obtain ⟨h1,h2⟩:=zm l i x (by simpa using h);have e:(i+1)*2=i*2+2:=by omega
  rw [e];exact ⟨h1,h2⟩
theorem pL {w:World} {b o:Nat} {x y:Value} (h0:w.cell? (zq b o)=some x) (h1:w.cell? (zq b (o+1))=some y):w.rangeAt b o [x,y]:=by
 intro j v hv
 match j,hv with
 | 0,hv=>simp at hv;subst hv;exact h0
 | 1,hv=>simp at hv;subst hv;exact h1
 | (j+2),hv=>simp at hv
theorem gX (l:List UInt8):(bc l).length<=4*l.length+2:=by
 have:=ii l;simp only [bc,ZY,ZX,ZS];omega
theorem ED.cells {B E:Nat} {first info cat:Int} {bodies:List (List UInt8)} {w:World} {S:Bl} (h:ED B E first info cat bodies w S):∃ ad cap,w.cell? E=first/\w.cell? (zq E 1)=some (.slice ad bodies.length cap):=by
 obtain ⟨vb,c0,c1,_,_,ow,_⟩:=h.grown [];obtain ⟨ad,cap,rfl⟩:=eL ow;exact ⟨ad,cap,c0,c1⟩
def ax (ms:List (ByteArray×Nat)):List (List UInt8×Nat):=ms.map fun m=>(m.1.data.toList,m.2)
theorem pH (w:World) (B E fi fp:Nat) (info cat:Int) (bodies:List (List UInt8)) (S:Bl) (ad:Option Addr) (cap:Nat) (ms:List (ByteArray×Nat)) (hB:B<=w.heap.size) (ht:bU B w) (hfi:fi<=1000) (hfp:fp<=1000) (hbl:bodies.length<=1000) (hm:ms.length<=20) (hms:∀ m∈ms,m.1.size<=100/\m.2<=80)
  (hL:fB (.slice ad ms.length cap) ms.length (iz ms) w) (hlow:0 < ms.length->∀ b,ad=some ⟨b,0,none⟩->b < B) (h:ED B E (fi:Int) info cat bodies w S):
  CP 178 #[zp E,.slice ad ms.length cap,(fp:Int)] w fun e w'=>e=.returned ((if ax ms=[] then 0 else fi+bodies.length:Nat):Int)/\∃ S',ED B E (fi:Int) info cat (bodies++dd (fi+bodies.length) fp (ax ms)) w' S'/\Mv S w S' w':=by
 by_cases h0:ms=[]
 ·subst h0;refine (ol w E cap fp ad).mono ?_;rintro e w' ⟨rfl,rfl⟩;exact ⟨by simp [ax],S,by simpa [dd,ax] using h,Mv.refl _ _⟩
 have hl0:0 < ms.length:=Yp.2 h0;obtain ⟨_,_,hv,hcap,hcap2,hcell⟩:=hL;simp at hv;obtain ⟨rfl,rfl⟩:=hv;obtain ⟨b,had,hb,hcl⟩:=hcell hl0;clear hcell;subst had;have hbB:=hlow hl0 b rfl;have hne:ax ms≠[]:=by simp [ax,h0]
 rw [ZO hne];have hT:∀ d,aJ B (ED B E (fi:Int) info cat d):=fun d=>ED.thing _ _ _ _ _ _
 have tb:∀ {S1 w1},Mv S w S1 w1->Below B w w1:=fun m=>m.below (fun _ e=>(hT bodies).ge h e) hB
 have at_:∀ i,i < ms.length->∃ x,ms[i]? =some x/\ms.getD i (⟨#[]⟩,0)=x/\x.1.size<=100/\x.2<=80:=fun i hi=>by
  refine ⟨ms[i],ZN hi,by simp [hi],?_⟩;exact hms _ (Ys hi)
 have mm:(ax ms).length=ms.length:=by simp [ax]
 have hall:fi+bodies.length<=2000:=by omega
 obtain ⟨all,hall2⟩:∃ all,all=fi+bodies.length:=⟨_,rfl⟩;rw [<-hall2];rw [<-hall2] at hall;have adds:∀ (d:List (List UInt8)) (s:List UInt8) w1 S1,d.length<=2000->ED B E (fi:Int) info cat d w1 S1->Mv S w S1 w1->∀ w2,Below w1 w1 w2->∃ k,CP 171 #[zp E,.string ⟨s.toArray⟩] w2 fun e w'=>e=.returned (.int .i64 k)/\∃ S',ED B E (fi:Int) info cat (d++[s]) w' S'/\Mv S w S' w':=by
  intro d s w1 S1 hd h1 m1 w2 hb2;have hz:=(tb m1).size;refine ⟨(fi:Int)+(d.length:Int),(lB w2 B E (fi:Int) info cat d S1 s ((hT d).grow h1 hb2) (by have:=hb2.size;omega) (by omega) (by omega) (by omega)).mono ?_⟩;rintro e w3 ⟨rfl,S3,h3,m3⟩;exact ⟨rfl,S3,h3,(m1.trans (Mv.grow hb2 _)).trans m3⟩
 have tabs:∀ {S1 w1},Mv S w S1 w1->∀ {w2},Below w1 w1 w2->bU B w2:=fun {S1 w1} m1 {w2} hb2=>ht.on ((tb m1).trans (hb2.mono (by have:=(tb m1).size;omega)))
 refine oC w E b ms.length cap fp all (fun i=>(ms.getD i (⟨#[]⟩,0)).1) (fun i=>(ms.getD i (⟨#[]⟩,0)).2) (fun i=>bc (ms.getD i (⟨#[]⟩,0)).1.data.toList) (Lib.itoa (ms.length:Int)) (fun i=>iK all ms.length fp i (ms.getD i (⟨#[]⟩,0)).1.data.toList (ms.getD i (⟨#[]⟩,0)).2) (f_ all ms.length)
  (fun i w1=>∃ S1,ED B E (fi:Int) info cat (bodies++(f_ all ms.length::bK all ms.length fp 0 ((ax ms).take i))) w1 S1/\Mv S w S1 w1)
  (fun w1=>∃ q,w1=w.drewN q) _ hl0 hm hcap hcap2 (by omega) (by omega) ?_ ?_ ?_ rfl (fun _ _=>rfl) ?_ ?_ ?_ ?_ ?_ ?_ ?_ ?_ ?_ ?_
 ·intro i hi;obtain ⟨x,_,e,_,h2⟩:=at_ i hi;show (ms.getD i (⟨#[]⟩,0)).2<=1000
  rw [e];omega
 ·have:=ar (ms.length:Int) (by omega) (by omega);omega
 ·intro i hi;obtain ⟨x,_,e,h1,_⟩:=at_ i hi;show (bc (ms.getD i (⟨#[]⟩,0)).1.data.toList).length<=500
  rw [e];have:=gX x.1.data.toList;rw [aP] at this;omega
 ·obtain ⟨ad2,cap2,c0,c1⟩:=h.cells;refine (kh w E (fi:Int) ad2 _ cap2 c0 c1 (by omega) (by omega) (by omega)).mono ?_;rintro e w2 ⟨rfl,q,rfl⟩;exact ⟨by rw [hall2];congr 2,q,rfl⟩
 ·rintro w1 ⟨q,rfl⟩ key k hk hk2 w2 hb2;exact dF B w2 key _ hk (by omega) (by omega) (tabs ((Mv.refl S w).drewN q) hb2)
 ·rintro w1 ⟨q,rfl⟩ w2 hb2;exact bp B w2 _ (by omega) (by omega) (tabs ((Mv.refl S w).drewN q) hb2)
 ·rintro w1 ⟨q,rfl⟩ w2 hb2;obtain ⟨k,hk⟩:=adds bodies (f_ all ms.length) (w.drewN q) S (by omega) ((hT _).drewN h q) ((Mv.refl S w).drewN q) w2 hb2;refine ⟨k,hk.mono ?_⟩;rintro e w' ⟨rfl,S',h',m'⟩;exact ⟨rfl,S',by simpa [bK] using h',m'⟩
 ·rintro i w1 hi ⟨S1,h1,m1⟩;obtain ⟨x,hx,e,_⟩:=at_ i hi;show w1.rangeAt b (i*2) [.string (ms.getD i (⟨#[]⟩,0)).1,.int .i64 ((ms.getD i (⟨#[]⟩,0)).2:Int)]
  rw [e];obtain ⟨a1,a2⟩:=s_ ms i x hx;exact pL (((tb m1).cell (p:=⟨b,_,none⟩) hbB).trans (hcl _ _ a1)) (((tb m1).cell (p:=⟨b,_,none⟩) hbB).trans (hcl _ _ a2))
 ·rintro i w1 hi ⟨S1,h1,m1⟩ key k hk hk1 hk2 w2 hb2;exact dF B w2 key _ hk (by omega) (by omega) (tabs m1 hb2)
 ·rintro i w1 hi ⟨S1,h1,m1⟩ w2 hb2;obtain ⟨x,hx,e,hx1,_⟩:=at_ i hi;show CP _ #[.string (ms.getD i (⟨#[]⟩,0)).1] w2 fun e w'=>e=.returned (.string ⟨(bc (ms.getD i (⟨#[]⟩,0)).1.data.toList).toArray⟩)/\_
  rw [e];exact jK w2 x.1 (by omega)
 ·rintro i w1 hi ⟨S1,h1,m1⟩ k hk w2 hb2;exact jY B w2 _ (by omega) (by omega) (tabs m1 hb2)
 ·rintro i w1 hi ⟨S1,h1,m1⟩ w2 hb2;obtain ⟨x,hx,e,_⟩:=at_ i hi;obtain ⟨k,hk⟩:=adds _ (iK all ms.length fp i x.1.data.toList x.2) w1 S1 (by
   rw [ZY,ZX,dN,Zk];omega) h1 m1 w2 hb2
  refine ⟨k,?_⟩;show CP _ #[_,.string ⟨(iK all ms.length fp i (ms.getD i (⟨#[]⟩,0)).1.data.toList (ms.getD i (⟨#[]⟩,0)).2).toArray⟩] w2 _
  rw [e];refine hk.mono ?_;rintro e w' ⟨rfl,S',h',m'⟩;refine ⟨rfl,S',?_,m'⟩;have hil:i < (ax ms).length:=by omega
  have hxe:(ax ms)[i]=(x.1.data.toList,x.2):=by
   have:(ax ms)[i]? =some (x.1.data.toList,x.2):=by simp [ax,hx]
   rw [ZN hil] at this;exact YM this
  rw [Zv hil,l8,hxe,Zk,Yq (by omega),YH];simpa using h'
 ·rintro w1 ⟨S1,h1,m1⟩;refine ⟨rfl,S1,?_,m1⟩;rw [ZA (by omega)] at h1;rw [dd,ZO hne,mm];exact h1
theorem bm (key:List UInt8) (n:Int) (k:Nat) (hk:key.length<=k) (h0:-1000000000<=n) (h1:n<=1000000000):(bt key n).length<=k+27:=by
 have:=gJ n (by omega) (by omega);unfold bt;split
 ·simp
 ·simp only [ZY,ZX,ZS];omega
theorem ED.start {B:Nat} {w:World} (first:Int) (hB:B<=w.heap.size):∃ S,ED B w.heap.size first 0 0 [] (w.alloc (.cells #[first,.slice none 0 0,oz,oz] 185)) S:=by
 have h1:aS B w.heap.size [.int .i64 first,.slice none 0 0,.int .i64 0,.int .i64 0] (w.alloc (.cells #[first,.slice none 0 0,oz,oz] 185)) (cC w.heap.size):=aS.alloc hB;exact ⟨_,.slice none 0 0,cC w.heap.size,ob (.slice none 0 0),h1,aW.nil _ _ _ _,fun k _ h=>by simp [ob,Value.ownBlock] at h,rfl⟩
theorem ED.setInfo {B E:Nat} {first info cat:Int} {bodies:List (List UInt8)} {w:World} {S:Bl} (h:ED B E first info cat bodies w S) (k:Int):w.cell? (zq E 2)=info/\w.frozen? (zq E 2)=false/\∃ S',ED B E first k cat bodies (w.setCell (zq E 2) k) S'/\Mv S w S' (w.setCell (zq E 2) k):=by
 obtain ⟨vb,h⟩:=h;obtain ⟨S1,hc,_,back⟩:=ah.fst (aW.thing _ _ _ _ _ _) h;obtain ⟨h2,m2⟩:=hc.set 2 (.int .i64 k) (by simp);obtain ⟨S',h',m'⟩:=back _ _ _ h2 m2;exact ⟨hc.at 2 _ rfl,hc.fz 2,S',⟨vb,h'⟩,m'⟩
theorem ED.setCat {B E:Nat} {first info cat:Int} {bodies:List (List UInt8)} {w:World} {S:Bl} (h:ED B E first info cat bodies w S) (k:Int):w.cell? (zq E 3)=cat/\w.frozen? (zq E 3)=false/\∃ S',ED B E first info k bodies (w.setCell (zq E 3) k) S'/\Mv S w S' (w.setCell (zq E 3) k):=by
 obtain ⟨vb,h⟩:=h;obtain ⟨S1,hc,_,back⟩:=ah.fst (aW.thing _ _ _ _ _ _) h;obtain ⟨h2,m2⟩:=hc.set 3 (.int .i64 k) (by simp);obtain ⟨S',h',m'⟩:=back _ _ _ h2 m2;exact ⟨hc.at 3 _ rfl,hc.fz 3,S',⟨vb,h'⟩,m'⟩
theorem ij (n:Int) (h0:-100000000<=n) (h1:n<=100000000):(bJ n).length<=30:=ZU (eu n h0 h1) (by omega)
theorem qU {B B':Nat} {w:World} (h:bU B w) (hb:B<=B'):bU B' w:=fun w' h'=>h w' (h'.mono hb)
theorem pX (w:World) (B0 fi:Nat) (zs:List (Int×Int)) (ti:ByteArray) (ms:List (ByteArray×Nat)) (adz adm:Option Addr) (capz capm:Nat) (hB0:B0<=w.heap.size) (ht0:bU B0 w) (hfi:fi<=500) (hz:zs.length<=80) (hzs:∀ z∈zs,bG z.1 1 14400000/\bG z.2 1 14400000) (hti:ti.size<=100) (hm:ms.length<=20) (hms:∀ m∈ms,m.1.size<=100/\m.2<=80)
  (hLz:fB (.slice adz zs.length capz) zs.length (rN zs) w) (hLm:fB (.slice adm ms.length capm) ms.length (iz ms) w):
  CP 137 #[(fi:Int),.slice adz zs.length capz,ti,.slice adm ms.length capm] w fun e w'=>e=.returned (zp w.heap.size)/\Below w w w'/\∃ S',ED w.heap.size w.heap.size (fi:Int) (fo fi zs (ax ms) ti.data.toList:Nat) (l7 fi zs (ax ms) ti.data.toList:Nat) (cI fi zs (ax ms) ti.data.toList) w' S':=by
 obtain ⟨E,hE⟩:∃ E,E=w.heap.size:=⟨_,rfl⟩;have ht:bU E w:=qU ht0 (by omega);rw [<-hE];have hLz2:=hLz;have hLm2:=hLm;obtain ⟨_,_,hv,hcap,hcap2,hcellz⟩:=hLz2;simp at hv;obtain ⟨rfl,rfl⟩:=hv;have P0:∀ {d info cat w1 S1},ED E E (fi:Int) info cat d w1 S1->∀ {w2 S2},Below E w w1->Mv S1 w1 S2 w2->Below E w w2:=fun {d info cat w1 S1} h1 {w2 S2} hb m=>hb.trans (m.below (fun _ e=>(ED.thing _ _ _ _ _ _).ge h1 e) (by have:=hb.size;omega))
 have adds:∀ (info cat:Int) (d:List (List UInt8)) (s:List UInt8) w1 S1,d.length<=2000->ED E E (fi:Int) info cat d w1 S1->Below E w w1->∀ w2,Below w1 w1 w2->CP 171 #[zp E,.string ⟨s.toArray⟩] w2 fun e w'=>e=.returned ((fi+d.length:Nat):Int)/\∃ S',ED E E (fi:Int) info cat (d++[s]) w' S'/\Below E w w'/\Mv S1 w1 S' w':=by
  intro info cat d s w1 S1 hd h1 hb1 w2 hb2;have hz:=hb1.size;refine (lB w2 E E (fi:Int) info cat d S1 s ((ED.thing _ _ _ _ _ _).grow h1 hb2) (by have:=hb2.size;omega) (by omega) (by omega) (by omega)).mono ?_;rintro e w3 ⟨rfl,S3,h3,m3⟩;have m9:=(Mv.grow hb2 S1).trans m3;exact ⟨by congr 2,S3,h3,P0 h1 hb1 m9,m9⟩
 have tabs:∀ {w1},Below E w w1->∀ {w2},Below w1 w1 w2->bU E w2:=fun {w1} hb1 {w2} hb2=>ht.on (hb1.trans (hb2.mono (by have:=hb1.size;omega)))
 have hs:=iO (fi+1) zs.length (by omega) hz;have hrl:1<=(cR (fi+1) zs.length).length:=by simp [cR]
 have hne:cR (fi+1) zs.length≠[]:=by simp [cR]
 have hr0:rowAt (cR (fi+1) zs.length) 0=(fi+1,zs.length,1):=rfl;have hup:∀ i,rR ((cR (fi+1) zs.length).drop 1) i=fi+1+zs.length+i / 8:=fun i=>lv _ _ _ i
 obtain ⟨rows,hrows⟩:∃ rows,cR (fi+1) zs.length=rows:=⟨_,rfl⟩;rw [hrows] at hs hrl hne hr0 hup;have hat:∀ i,i < zs.length->∃ z,zs[i]? =some z/\zs.getD i (0,0)=z/\bG z.1 1 14400000/\bG z.2 1 14400000:=fun i hi=>⟨zs[i],ZN hi,by simp [hi],hzs _ (Ys hi)⟩
 have hnl:=ib zs.length (fi+1) zs.length 1;have hb1l:(b_ fi zs).length=1+zs.length+(bS zs.length (fi+1) zs.length 1).length:=by
  simp only [b_,ZX,ZY,dZ];omega
 have hmkl:(dd (fi+(b_ fi zs).length) (fi+1) (ax ms)).length<=21:=by
  unfold dd;split
  ·simp
  ·simp only [ZX,dN,ax,Yx];omega
 have hb2l:(eG fi zs (ax ms)).length<=300:=by
  simp only [eG,ZY];omega
 have hb3l:(dG fi zs (ax ms) ti.data.toList).length<=301:=by
  simp only [dG,ZY];split <;> simp <;> omega
 have hqt:=gX ti.data.toList;rw [aP] at hqt;have hrootl:fJ fi zs<=100000:=by unfold fJ;omega
 have houtl:pA fi zs (ax ms)<=100000:=by unfold pA;split <;> omega
 refine oG w E fi fi (fi+1) ((adz.getD ⟨0,0,none⟩).block) zs.length capz ms.length capm (fJ fi zs) (pA fi zs (ax ms)) (fo fi zs (ax ms) ti.data.toList) (l7 fi zs (ax ms) ti.data.toList) adm adz ti (fun i=>zs.getD i (0,0)) (fun i=>((fi+1+zs.length+i / 8:Nat):Int)) (fun i=>vO fi zs.length i (zs.getD i (0,0))) (bc ti.data.toList) (aD (fJ fi zs:Int)) (bt [47,79,117,116,108,105,110,101,115] (pA fi zs (ax ms):Int)) (vu (fJ fi zs) (pA fi zs (ax ms)))
  (fun w1=>∃ S1,ED E E (fi:Int) 0 0 [lH] w1 S1/\Below E w w1)
  (fun w1=>∃ S1,ED E E (fi:Int) 0 0 [lH] w1 S1/\Below E w w1)
  (fun rb rn rcap i w1=>∃ S1,ah (ED E E (fi:Int) 0 0 (lH::dI fi zs.length 0 (zs.take i))) (aW E 229 3 (.slice (zp rb) rn rcap) rows.length (eF rows)) w1 S1/\Below E w w1)
  (fun rb rn rcap w1=>∃ S1,ah (ED E E (fi:Int) 0 0 (b_ fi zs)) (aW E 229 3 (.slice (zp rb) rn rcap) rows.length (eF rows)) w1 S1/\Below E w w1)
  (fun w1=>∃ S1,ED E E (fi:Int) 0 0 (eG fi zs (ax ms)) w1 S1/\Below E w w1)
  (fun w1=>∃ S1,ED E E (fi:Int) 0 0 (dG fi zs (ax ms) ti.data.toList) w1 S1/\Below E w w1)
  (fun w1=>∃ S1,ED E E (fi:Int) (fo fi zs (ax ms) ti.data.toList:Nat) 0 (dG fi zs (ax ms) ti.data.toList) w1 S1/\Below E w w1)
  (fun w1=>∃ S1,ED E E (fi:Int) (fo fi zs (ax ms) ti.data.toList:Nat) 0 (cI fi zs (ax ms) ti.data.toList) w1 S1/\Below E w w1)
  _ hE (by omega) hcap hcap2 ?_ (by omega) ?_ ?_ ?_ ?_ ?_ ?_ ?_ ?_ ?_ ?_ ?_ ?_ ?_ ?_ ?_ ?_ ?_ ?_ ?_ ?_
 ·intro h0;obtain ⟨b,rfl,_⟩:=hcellz h0;rfl
 ·have:=gJ (fJ fi zs:Int) (by omega) (by omega);omega
 ·have:=bm [47,79,117,116,108,105,110,101,115] (pA fi zs (ax ms):Int) 9 (by simp) (by omega) (by omega);omega
 ·obtain ⟨S1,h1⟩:=ED.start (B:=E) (w:=w) (fi:Int) (by omega);rw [<-hE] at h1;have hb1:Below E w (w.alloc (.cells #[(fi:Int),.slice none 0 0,oz,oz] 185)):=(ZQ _ w).alloc (by omega) _;refine (adds 0 0 [] lH _ S1 (by simp) h1 hb1 _ (ZQ _ _)).mono ?_;rintro e w' ⟨rfl,S2,h2,hb2,_⟩;exact ⟨rfl,S2,h2,hb2⟩
 ·rintro w1 ⟨S1,h1,hb1⟩;obtain ⟨ad2,cap2,c0,c1⟩:=h1.cells;refine (kh w1 E (fi:Int) ad2 _ cap2 c0 c1 (by omega) (by omega) (by simp)).mono ?_;rintro e w2 ⟨rfl,q,rfl⟩;exact ⟨rfl,S1,(ED.thing _ _ _ _ _ _).drewN h1 q,cU hb1⟩
 ·rintro w1 ⟨S1,h1,hb1⟩;refine (tz w1 (fi+1) zs.length (by omega) hz).mono ?_;rintro e w2 ⟨v,rfl,ow,hb2⟩;rw [hrows] at ow;obtain ⟨g,cap,hv,_,_,_⟩:=iF ow (by omega);have hz1:=hb1.size;have hlt:=ow.lt;have h2:aW E 229 3 v rows.length (eF rows) w2 (ob v):=⟨rfl,World.ownsRow.mono ow (by omega)⟩;obtain ⟨h3,m3⟩:=ah.new (ED.thing _ _ _ _ _ _) h1 h2 hb2 (fun k hk=>by have:=(hlt k hk).1;omega);rw [hv] at h3;have h4:=ah.swap h3;refine ⟨g,rows.length,cap,by rw [hv],_,h4,hb1.trans (hb2.mono (by omega))⟩
 ·rintro rb rn rcap i w1 hi ⟨S1,h1,hb1⟩;obtain ⟨b,had,hb,hc⟩:=hcellz (by omega);subst had;obtain ⟨z,hzi,e,_⟩:=hat i hi;obtain ⟨a1,a2⟩:=zm zs i z hzi;have hbE:b < E:=by omega
  show w1.rangeAt b (i*2) [.int .i64 (zs.getD i (0,0)).1,.int .i64 (zs.getD i (0,0)).2]
  rw [e];exact pL ((hb1.cell (p:=⟨b,_,none⟩) hbE).trans (hc _ _ a1)) ((hb1.cell (p:=⟨b,_,none⟩) hbE).trans (hc _ _ a2))
 ·rintro rb rn rcap i w1 hi ⟨S1,⟨R1,R2,h1,h2,_⟩,hb1⟩ w2 hb2;have htr:=(lW h2.2 hne).on hb2;have:=kZ w2 rows _ hs htr 0 i (by omega) (by omega);rw [hup] at this;exact this
 ·rintro rb rn rcap i w1 hi ⟨S1,⟨R1,R2,h1,h2,_⟩,hb1⟩ w2 hb2;obtain ⟨z,hzi,e,hz1,hz2⟩:=hat i hi;have htw:=tabs hb1 hb2;have hzw:=hb1.size;have hzw2:=hb2.size;unfold bG at hz1 hz2;show CP _ #[.agg #[.int .i64 (zs.getD i (0,0)).1,.int .i64 (zs.getD i (0,0)).2],_,_,_] w2 fun e w'=>e=.returned (.string ⟨(vO fi zs.length i (zs.getD i (0,0))).toArray⟩)/\_
  rw [e];refine og w2 z.1 z.2 _ _ _ (bJ z.1) (bJ z.2) _ _ _ (ij _ (by omega) (by omega)) (ij _ (by omega) (by omega)) ?_ ?_ ?_ ?_ ?_ ?_ ?_ ?_
  ·have:=bm [47,80,97,114,101,110,116] ((fi+1+zs.length+i / 8:Nat):Int) 7 (by simp) (by omega) (by omega);omega
  ·have:=bm [47,67,111,110,116,101,110,116,115] ((2*i+1:Nat):Int) 9 (by simp) (by omega) (by omega);omega
  ·have:=bm [47,70,49] (fi:Int) 3 (by simp) (by omega) (by omega);omega
  ·intro wx hg;exact jz E wx z.1 (by omega) (by omega) (by have:=Below.size hg;omega) (htw.on (Zb hg (by omega)))
  ·intro wx hg;exact jz E wx z.2 (by omega) (by omega) (by have:=Below.size hg;omega) (htw.on (Zb hg (by omega)))
  ·intro wx hg;exact dF E wx [47,80,97,114,101,110,116] _ (by simp) (by omega) (by omega) (htw.on (Zb hg (by omega)))
  ·intro wx hg;exact dF E wx [47,67,111,110,116,101,110,116,115] _ (by simp) (by omega) (by omega) (htw.on (Zb hg (by omega)))
  ·intro wx hg;exact dF E wx [47,70,49] _ (by simp) (by omega) (by omega) (htw.on (Zb hg (by omega)))
 ·rintro rb rn rcap i w1 hi ⟨S1,h1,hb1⟩ w2 hb2;obtain ⟨z,hzi,e,_⟩:=hat i hi;have h2:=(ah.thing (ED.thing E E (fi:Int) 0 0 (lH::dI fi zs.length 0 (zs.take i))) (aW.thing E 229 3 (.slice rb rn rcap) rows.length (eF rows))).grow h1 hb2;have hbw2:Below E w w2:=hb1.trans (hb2.mono (by have:=hb1.size;omega));obtain ⟨S2,hE2,_,back⟩:=ah.fst (aW.thing _ _ _ _ _ _) h2;refine ⟨((fi+(lH::dI fi zs.length 0 (zs.take i)).length:Nat):Int),(adds 0 0 _ (vO fi zs.length i (zs.getD i (0,0))) w2 S2 (by simp only [ZX,dZ,Zk];omega) hE2 hbw2 w2 (ZQ _ _)).mono ?_⟩;rintro e9 w3 ⟨rfl,S3,h3,hb3,m3⟩;obtain ⟨S4,h4,m4⟩:=back _ _ _ h3 m3;refine ⟨rfl,S4,?_,hb3⟩;have hil:i < zs.length:=hi;rw [Zv hil,pV,Zk,Yq (by omega),YH];have ez:zs[i]=zs.getD i (0,0):=by simp [hil]
  rw [ez];simpa using h4
 ·rintro rb rn rcap w1 ⟨S1,h1,hb1⟩;rw [ZA (ZV _)] at h1;have hz1:=hb1.size;rw [<-hrows] at h1;refine (qh w1 E E fi 0 0 _ S1 _ (fi+1) zs.length (by omega) (ht.on hb1) (by omega) hz (by omega) (by simp only [ZX,dZ];omega) h1).mono ?_;rintro e w2 ⟨rfl,S2,h2,m2⟩;refine ⟨?_,S2,?_,?_⟩
  ·simp only [ZX,dZ];unfold fJ;rw [hb1l];congr 2;omega
  ·rw [<-hrows];simpa [b_] using h2
  ·exact hb1.trans (m2.below (fun _ e=>(ah.thing (ED.thing _ _ _ _ _ _) (aW.thing _ _ _ _ _ _)).ge h1 e) (by omega))
 ·rintro rb rn rcap w1 ⟨S1,⟨R1,R2,h1,h2,_⟩,hb1⟩;obtain ⟨b,cap,hv,hc,hcm,_,hcell⟩:=lW h2.2 hne;rw [Yx] at hv hc;simp at hv;obtain ⟨rfl,rfl,rfl⟩:=hv;refine ⟨by omega,hc,hcm,?_⟩;have:=(hcell 0 (nS (rowAt rows 0)) (by rw [YV,dR (by omega)];rfl)).1;rw [hr0] at this;simpa [nS] using this
 ·rintro rb rn rcap w1 ⟨S1,⟨R1,R2,h1,h2,_⟩,hb1⟩ q;have hb1':Below E w (w1.drewN q):=cU hb1;have hz1:=hb1'.size;refine (pH (w1.drewN q) E E fi (fi+1) 0 0 (b_ fi zs) R1 adm capm ms (by omega) (ht.on hb1') (by omega) (by omega) (by omega) hm hms (hLm.on (hb1'.mono (by omega))) ?_ ((ED.thing _ _ _ _ _ _).drewN h1 q)).mono ?_
  ·intro hm0 b hb;obtain ⟨_,_,hv,_,_,hc⟩:=hLm;simp at hv;obtain ⟨rfl,rfl⟩:=hv;obtain ⟨b',hb',hlt,_⟩:=hc hm0;rw [hb] at hb';simp at hb';subst hb';omega
  ·rintro e w2 ⟨rfl,S2,h3,m3⟩;exact ⟨rfl,S2,h3,hb1'.trans (m3.below (fun _ e=>(ED.thing _ _ _ _ _ _).ge h1 e) (by omega))⟩
 ·rintro h0 w1 ⟨S1,h1,hb1⟩;have h0':ti.data.toList=[]:=by rw [<-Zn];exact h0
  refine ⟨S1,?_,hb1⟩;rw [fo,dG,ZM h0',ZM h0',YX];exact h1
 ·rintro h0 w1 ⟨S1,h1,hb1⟩;exact jK w1 ti (by omega)
 ·rintro h0 w1 ⟨S1,h1,hb1⟩ w2 hb2;have h0':¬ ti.data.toList=[]:=by rw [<-Zn];exact h0
  refine (adds 0 0 _ (gx ti.data.toList) w1 S1 (by omega) h1 hb1 w2 hb2).mono ?_;rintro e w3 ⟨rfl,S3,h3,hb3,_⟩;refine ⟨?_,S3,?_,hb3⟩
  ·rw [fo,ZO h0']
  ·rw [dG,ZO h0'];exact h3
 ·rintro w1 ⟨S1,h1,hb1⟩;obtain ⟨c2,f2,S2,h2,m2⟩:=h1.setInfo (fo fi zs (ax ms) ti.data.toList:Nat);exact ⟨⟨_,c2⟩,f2,S2,h2,P0 h1 hb1 m2⟩
 ·rintro w1 ⟨S1,h1,hb1⟩ w2 hb2;exact jY E w2 _ (by omega) (by omega) (tabs hb1 hb2)
 ·rintro w1 ⟨S1,h1,hb1⟩ w2 hb2;exact dF E w2 [47,79,117,116,108,105,110,101,115] _ (by simp) (by omega) (by omega) (tabs hb1 hb2)
 ·rintro w1 ⟨S1,h1,hb1⟩ w2 hb2;refine (adds _ 0 _ (vu (fJ fi zs) (pA fi zs (ax ms))) w1 S1 (by omega) h1 hb1 w2 hb2).mono ?_;rintro e w3 ⟨rfl,S3,h3,hb3,_⟩;exact ⟨rfl,S3,h3,hb3⟩
 ·rintro w1 ⟨S1,h1,hb1⟩;obtain ⟨c2,f2,S2,h2,m2⟩:=h1.setCat (l7 fi zs (ax ms) ti.data.toList:Nat);exact ⟨⟨_,c2⟩,f2,rfl,P0 h1 hb1 m2,S2,h2⟩
theorem oH (p:Nat) (hp:p<=80):∀ (ups:List (Nat×Nat×Nat)) (b0:Nat×Nat×Nat),(∀ r∈b0::ups,r.1<=2000/\r.2.1<=80/\r.2.2<=512)->∀ b∈dJ p b0 ups,b.length<=2000:=by
 intro ups;induction ups with
 | nil=>intro b0 _ b hb;simp [dJ] at hb
 | cons r rest ih=>
  intro b0 h b hb;rw [dJ,Zu] at hb;rcases hb with hb | hb
  ·obtain ⟨i,hi,rfl⟩:=YC.1 hb;rw [Yy] at hi;have h0:=h b0 (by simp);have h1:=h r (by simp);have hu:rR rest i<=3000:=by
    cases rest with
    | nil=>simp [rR]
    | cons q l=>have:=(h q (by simp)).1;simp only [rR];omega
   have l1:=bm [47,80,97,114,101,110,116] ((rR rest i:Nat):Int) 7 (by simp) (by omega) (by omega);have l2:=oR b0.1 b0.2.1 i (by omega) (by omega);have h3:=jR p r.2.2 i hp h1.2.2 (by omega);have l3:=ar (bV p r.2.2 i) (by omega) (by omega);simp only [jN,ZY,ZX,ZS];omega
  ·exact ih r (fun q hq=>h q (by rcases Zl.1 hq with rfl | hq <;> simp [*])) b hb
theorem pP (p f:Nat) (hf:f<=1000) (hp:p<=80):∀ b∈bS p f p 1,b.length<=2000:=by
 rw [<-mj];exact oH p hp _ _ (iO f p hf hp).mem
theorem jv (font p:Nat) (hf:font<=1000) (hp:p<=80):∀ (zs:List (Int×Int)) (i:Nat),i+zs.length<=80->(∀ z∈zs,bG z.1 1 14400000/\bG z.2 1 14400000)->∀ b∈dI font p i zs,b.length<=2000
 | [],_,_,_,b,hb=>by simp [dI] at hb
 | z::l,i,hi,hz,b,hb=>by
  simp only [ZX] at hi;rcases Zl.1 hb with rfl | hb
  ·obtain ⟨h1,h2⟩:=hz z (by simp);unfold bG at h1 h2;have l1:=ij z.1 (by omega) (by omega);have l2:=ij z.2 (by omega) (by omega);have l3:=bm [47,80,97,114,101,110,116] ((font+1+p+i / 8:Nat):Int) 7 (by simp) (by omega) (by omega);have l4:=bm [47,67,111,110,116,101,110,116,115] ((2*i+1:Nat):Int) 9 (by simp) (by omega) (by omega);have l5:=bm [47,70,49] (font:Int) 3 (by simp) (by omega) (by omega);simp only [vO,pn,ZY,ZX,ZS];omega
  ·exact jv font p hf hp l (i+1) (by omega) (fun y hy=>hz y (by simp [hy])) b hb
theorem iv (all m fp:Nat) (ha:all<=10000) (hf:fp<=10000):∀ (l:List (List UInt8×Nat)) (i:Nat),i+l.length<=100->(∀ x∈l,x.1.length<=100/\x.2<=80)->∀ b∈bK all m fp i l,b.length<=2000
 | [],_,_,_,b,hb=>by simp [bK] at hb
 | x::l,i,hi,hz,b,hb=>by
  simp only [ZX] at hi;rcases Zl.1 hb with rfl | hb
  ·obtain ⟨h1,h2⟩:=hz x (by simp);have l1:=gX x.1;have l2:=bm [47,80,97,114,101,110,116] (all:Int) 7 (by simp) (by omega) (by omega);have l3:=bm [47,80,114,101,118] (if i=0 then 0 else ((all+i:Nat):Int)) 5 (by simp) (by split <;> omega) (by split <;> omega);have l4:=bm [47,78,101,120,116] (if i+1=m then 0 else ((all+i+2:Nat):Int)) 5 (by simp) (by split <;> omega) (by split <;> omega);have l5:=dU (fp+x.2) (by omega);simp only [iK,ZY,ZX,ZS];omega
  ·exact iv all m fp ha hf l (i+1) (by omega) (fun y hy=>hz y (by simp [hy])) b hb
theorem qV (all m:Nat) (ha:all<=10000) (hm:m<=100):(f_ all m).length<=2000:=by
 have l2:=bm [47,70,105,114,115,116] ((all+1:Nat):Int) 6 (by simp) (by omega) (by omega);have l3:=bm [47,76,97,115,116] ((all+m:Nat):Int) 5 (by simp) (by omega) (by omega);have l4:=ar (m:Int) (by omega) (by omega);simp only [f_,ZY,ZX,ZS];omega
theorem fW (fi:Nat) (zs:List (Int×Int)) (ms:List (List UInt8×Nat)) (t:List UInt8) (hfi:fi<=500) (hz:zs.length<=80) (hzs:∀ z∈zs,bG z.1 1 14400000/\bG z.2 1 14400000) (ht:t.length<=100) (hm:ms.length<=20) (hms:∀ m∈ms,m.1.length<=100/\m.2<=80):(cI fi zs ms t).length<=310/\1<=(cI fi zs ms t).length/\(∀ b∈cI fi zs ms t,b.length<=2000)/\l7 fi zs ms t<=1000/\fo fi zs ms t<=1000:=by
 have hnl:=ib zs.length (fi+1) zs.length 1;have hb1l:(b_ fi zs).length=1+zs.length+(bS zs.length (fi+1) zs.length 1).length:=by
  simp only [b_,ZX,ZY,dZ];omega
 have hmkl:(dd (fi+(b_ fi zs).length) (fi+1) ms).length<=21:=by
  unfold dd;split
  ·simp
  ·simp only [ZX,dN];omega
 have hb2l:(eG fi zs ms).length<=300:=by
  simp only [eG,ZY];omega
 have hb3l:(dG fi zs ms t).length<=301:=by
  simp only [dG,ZY];split <;> simp <;> omega
 have hrootl:fJ fi zs<=1000:=by unfold fJ;omega
 have houtl:pA fi zs ms<=1000:=by unfold pA;split <;> omega
 refine ⟨by simp only [cI,ZY,ZX,ZS];omega,by simp only [cI,ZY,ZX,ZS];omega,?_,by unfold l7;omega,by unfold fo;split <;> omega⟩;intro b hb;simp only [cI,dG,eG,b_,Zu,Zl,YU,or_false] at hb;rcases hb with (((rfl | hb | hb) | hb) | hb) | rfl
 ·simp [lH]
 ·exact jv fi zs.length (by omega) hz zs 0 (by omega) hzs b hb
 ·exact pP zs.length (fi+1) (by omega) hz b hb
 ·unfold dd at hb;split at hb
  ·simp at hb
  ·rcases Zl.1 hb with rfl | hb
   ·exact qV _ _ (by have:=hb1l;unfold b_ at this;omega) (by omega)
   ·refine iv _ ms.length (fi+1) (by have:=hb1l;unfold b_ at this;omega) (by omega) ms 0 (by omega) hms b hb
 ·split at hb
  ·simp at hb
  ·simp at hb;subst hb;have:=gX t;simp only [gx,ZY,ZX,ZS];omega
 ·have l1:=dU (fJ fi zs) (by omega);have l2:=bm [47,79,117,116,108,105,110,101,115] (pA fi zs ms:Int) 9 (by simp) (by omega) (by omega);simp only [vu,ZY,ZX,ZS];omega
theorem fK:∀ (l:List (List UInt8)) (n:Nat),n+l.length<=100000->(∀ b∈l,b.length<=2000)->(aF n l).length<=2040*l.length
 | [],_,_,_=>by simp [aF]
 | b::l,n,hn,h=>by
  simp only [ZX] at hn;have h1:=eK n (by omega);have h2:=h b (by simp);have h3:=fK l (n+1) (by omega) (fun y hy=>h y (by simp [hy]));simp only [aF,aK,eh,ZY,ZX,ZS];omega
theorem iT:∀ (l:List (List UInt8)) (a n:Nat),∀ x∈aO a n l,x<=a+(aF n l).length
 | [],_,_,x,h=>by simp [aO] at h
 | b::l,a,n,x,h=>by
  rcases Zl.1 h with rfl | h
  ·omega
  ·have:=iT l _ _ x h;simp only [aF,ZY];omega
theorem jk:∀ (l:List (List UInt8)) (a i:Nat),∀ x∈be a i l,x<=a+(bW i l).length
 | [],_,_,x,h=>by simp [be] at h
 | Z::l,a,i,x,h=>by
  rw [be,Zu] at h;rcases h with h | h
  ·simp only [pT,Zl,YU,or_false] at h;rcases h with rfl | rfl
   ·omega
   ·simp only [bW,d_,ZY];omega
  ·have:=jk l _ _ x h;simp only [bW,ZY];omega
end Go.Proofs.YtbklfkpjoinofaaGreatDoor
