import Derived.Test.YtbklfkpjoinofaaGreatDoorA44
import Derived.Test.YtbklfkpjoinofaaGreatDoorA46
set_option linter.all false
set_option maxRecDepth 100000
set_option maxHeartbeats 8000000
namespace Go.Proofs.YtbklfkpjoinofaaGreatDoor
open Go.RowKit Go.Proofs.Tryz
theorem BB (n:Nat) (a z:List UInt8) (L2 L3 L4 L5:List (List UInt8)):aF n (a::(L2++L3)++L4++L5++[z])=aK n a++(aF (n+1) L2++(aF (n+1+L2.length) L3++(aF (n+1+L2.length+L3.length) L4++(aF (n+1+L2.length+L3.length+L4.length) L5++aK (n+1+L2.length+L3.length+L4.length+L5.length) z)))):=by
 rw [ZQ,ZQ,Zy,ZQ,aF,dX,dX,dX,dX];simp only [aF,Zm]
theorem BD (q n:Nat) (a z:List UInt8) (L2 L3 L4 L5:List (List UInt8)):aO q n (a::(L2++L3)++L4++L5++[z])=[q]++(aO (q+(aK n a).length) (n+1) L2++(aO (q+(aK n a).length+(aF (n+1) L2).length) (n+1+L2.length) L3++(aO (q+(aK n a).length+(aF (n+1) L2).length+(aF (n+1+L2.length) L3).length) (n+1+L2.length+L3.length) L4++(aO (q+(aK n a).length+(aF (n+1) L2).length+(aF (n+1+L2.length) L3).length+(aF (n+1+L2.length+L3.length) L4).length) (n+1+L2.length+L3.length+L4.length) L5++[q+(aK n a).length+(aF (n+1) L2).length+(aF (n+1+L2.length) L3).length+(aF (n+1+L2.length+L3.length) L4).length+(aF (n+1+L2.length+L3.length+L4.length) L5).length])))):=by
 rw [ZQ,ZQ,Zy,ZQ,aO,gu,gu,gu,gu];simp only [aO,List.singleton_append]
theorem ah.addNil {P:As} {w:World} {S:Bl} (B:Nat) (e:TypeId) (z:Nat) (h:P w S):ah P (aW B e z (.slice none 0 0) 0 []) w S:=
 ⟨S,ob (.slice none 0 0),h,aW.nil _ _ _ _,pU S,funext fun k=>propext ⟨.inl,fun e=>e.elim id (fun e=>by simp [ob,Value.ownBlock] at e)⟩⟩
def ya (B:Nat) (vp vm:Value) (pages:List (Int×Int×List bj)) (ms:List (ByteArray×Nat)):As:=fun w S=>∃ ps,ps.map (·.2)=pages/\lQ B ps ms vp vm w S
theorem ya.thing (B:Nat) (vp vm:Value) (pages:List (Int×Int×List bj)) (ms:List (ByteArray×Nat)):aJ B (ya B vp vm pages ms) where
 keep:=by rintro w w' S ⟨ps,hp,h⟩ hk hz;exact ⟨ps,hp,(lQ.thing _ _ _ _ _).keep h hk hz⟩
 lt:=by rintro w S k ⟨ps,hp,h⟩ hk;exact (lQ.thing _ _ _ _ _).lt h hk
 ge:=by rintro w S k ⟨ps,hp,h⟩ hk;exact (lQ.thing _ _ _ _ _).ge h hk
theorem xn (w:World) (B:Nat) (s:ByteArray) (xs:List iB) (ms:List (ByteArray×Nat)) (t:ByteArray) (hB:B<=w.heap.size) (ht:bU B w) (hse:s.data.toList=fO (aA xs) (aQ xs) (ax ms) t.data.toList) (hs:s.size<=2000000000) (hx:∀ x∈xs,kx x) (hxl:xs.length<=80) (hti:t.size<=100) (hm:ms.length<=20) (hms:∀ m∈ms,0 < m.1.size/\m.1.size<=100/\m.2 < xs.length) (hup:ms.Pairwise (fun a b=>a.2<=b.2)):
  CP 30 #[s] w fun e w'=>∃ vp vm:Value,e=.returned (.tuple #[.agg #[t,vp,vm],oz])/\vp.oneCell'=true/\vm.oneCell'=true/\∃ S',ya B vp vm (xs.map (·.2)) ms w' S'/\Mv (fun _=>False) w S' w':=by
 have hzl:(aA xs).length=xs.length:=by simp [aA]
 have hsl:(aQ xs).length=xs.length:=by simp [aQ]
 have hzs:∀ z∈aQ xs,bG z.1 1 14400000/\bG z.2 1 14400000:=by
  intro z hz;simp only [aQ,YN,Yv] at hz;obtain ⟨x,hxm,rfl⟩:=hz;exact ⟨(hx x hxm).2.2.2.2.1,(hx x hxm).2.2.2.2.2⟩
 have hms2:∀ m∈ax ms,m.1.length<=100/\m.2<=80:=by
  intro m hmm;simp only [ax,YN] at hmm;obtain ⟨y,hy,rfl⟩:=hmm;have:=hms y hy;exact ⟨by show y.1.data.toList.length<=100;rw [aP];omega,by show y.2<=80;omega⟩
 have hfont:cK (aA xs)=2*xs.length+1:=by rw [cK,hzl]
 obtain ⟨hbl,hbl1,hbs,hcat,hinfo⟩:=fW (cK (aA xs)) (aQ xs) (ax ms) t.data.toList (by omega) (by omega) hzs (by rw [aP];omega) (by simp [ax];omega) hms2;obtain ⟨fi,hfi⟩:∃ fi,cK (aA xs)=fi:=⟨_,rfl⟩;have hupl:=cN hx hxl;obtain ⟨U,hU⟩:∃ U,aC (aA xs)=U:=⟨_,rfl⟩;obtain ⟨L2,hL2⟩:∃ L,cA fi (aQ xs).length 0 (aQ xs)=L:=⟨_,rfl⟩;obtain ⟨L3,hL3⟩:∃ L,bS (aQ xs).length (fi+1) (aQ xs).length 1=L:=⟨_,rfl⟩;have hL2l:L2.length=xs.length:=by rw [<-hL2,dZ,hsl]
 have hL3l:=ib (aQ xs).length (fi+1) (aQ xs).length 1;rw [hL3] at hL3l;have hb1:b_ fi (aQ xs)=ej::(L2++L3):=by rw [b_,hL2,hL3]
 have hb1l:(b_ fi (aQ xs)).length=1+xs.length+L3.length:=by rw [hb1];simp only [ZY,ZZ];omega
 obtain ⟨n4,hn4⟩:∃ n,fi+(b_ fi (aQ xs)).length=n:=⟨_,rfl⟩;obtain ⟨L4,hL4⟩:∃ L,dd n4 (fi+1) (ax ms)=L:=⟨_,rfl⟩;have hb2:eG fi (aQ xs) (ax ms)=ej::(L2++L3)++L4:=by rw [eG,hn4,hL4,hb1]
 obtain ⟨L5,hL5⟩:∃ L,(if t.data.toList=[] then [] else [gx t.data.toList]:List (List UInt8))=L:=⟨_,rfl⟩;have hb3:dG fi (aQ xs) (ax ms) t.data.toList=ej::(L2++L3)++L4++L5:=by rw [dG,hL5,hb2]
 obtain ⟨cat,hcat2⟩:∃ b,l7 fi (aQ xs) (ax ms) t.data.toList=b:=⟨_,rfl⟩;obtain ⟨inf,hinf2⟩:∃ b,fo fi (aQ xs) (ax ms) t.data.toList=b:=⟨_,rfl⟩;obtain ⟨root,hroot⟩:∃ b,fJ fi (aQ xs)=b:=⟨_,rfl⟩;obtain ⟨out,hout⟩:∃ b,kL fi (aQ xs) (ax ms)=b:=⟨_,rfl⟩;obtain ⟨ct,hct⟩:∃ b,vu root out=b:=⟨_,rfl⟩;have hbB:cI fi (aQ xs) (ax ms) t.data.toList=ej::(L2++L3)++L4++L5++[ct]:=by rw [cI,hb3,hroot,hout,hct]
 have hctl:ct.length<=2000:=by
  rw [hfi] at hbs;exact hbs ct (by rw [hbB];simp)
 rw [hfi,hcat2] at hcat;rw [hfi,hinf2] at hinfo;obtain ⟨O1,hO1⟩:∃ O,aK fi ej=O:=⟨_,rfl⟩;obtain ⟨O2,hO2⟩:∃ O,aF (fi+1) L2=O:=⟨_,rfl⟩;obtain ⟨O3,hO3⟩:∃ O,aF (fi+1+xs.length) L3=O:=⟨_,rfl⟩;obtain ⟨O4,hO4⟩:∃ O,aF n4 L4=O:=⟨_,rfl⟩;obtain ⟨n5,hn5⟩:∃ n,n4+L4.length=n:=⟨_,rfl⟩;obtain ⟨O5,hO5⟩:∃ O,aF n5 L5=O:=⟨_,rfl⟩;obtain ⟨n6,hn6⟩:∃ n,n5+L5.length=n:=⟨_,rfl⟩;obtain ⟨O6,hO6⟩:∃ O,aK n6 ct=O:=⟨_,rfl⟩;have hn4':fi+1+L2.length+L3.length=n4:=by omega
 have hobjs:aF fi (ej::(L2++L3)++L4++L5++[ct])=O1++(O2++(O3++(O4++(O5++O6)))):=by
  rw [BB,hO1,hO2,hL2l,hO3, <-hL2l,hn4',hO4,hn5,hO5,hn6,hO6]
 have hbegs:aO U.length fi (ej::(L2++L3)++L4++L5++[ct])=[U.length]++(aO (U.length+O1.length) (fi+1) L2++(aO (U.length+O1.length+O2.length) (fi+1+xs.length) L3++(aO (U.length+O1.length+O2.length+O3.length) n4 L4++(aO (U.length+O1.length+O2.length+O3.length+O4.length) n5 L5++[U.length+O1.length+O2.length+O3.length+O4.length+O5.length])))):=by
  rw [BD,hO1,hO2,hL2l,hO3, <-hL2l,hn4',hO4,hn5,hO5]
 obtain ⟨cb9,hcb9⟩:∃ c,be 9 0 (aA xs)=c:=⟨_,rfl⟩;have hcbl:cb9.length=2*xs.length:=by rw [<-hcb9,dy,hzl]
 have hcble:∀ x∈cb9,x<=U.length:=by
  intro x hxm;rw [<-hcb9] at hxm;have:=jk _ _ _ x hxm;rw [<-hU,aC,cm,ZZ];simpa using this
 obtain ⟨st,hst⟩:∃ st,eH (aA xs) (aQ xs) (ax ms) t.data.toList=st:=⟨_,rfl⟩;have hst2:st=cb9++aO U.length fi (ej::(L2++L3)++L4++L5++[ct]):=by
  rw [<-hst,eH,hcb9,hU,hfi,hbB]
 have hobB:dv (aA xs) (aQ xs) (ax ms) t.data.toList=O1++(O2++(O3++(O4++(O5++O6)))):=by rw [dv,hfi,hbB,hobjs]
 obtain ⟨q7,hq7⟩:∃ q,U.length+O1.length+O2.length+O3.length+O4.length+O5.length+O6.length=q:=⟨_,rfl⟩;obtain ⟨T,hT⟩:∃ T,iE st cat inf q7=T:=⟨_,rfl⟩;have hfile:s.data.toList=U++(O1++(O2++(O3++(O4++(O5++(O6++T)))))):=by
  rw [hse,fO,xS,hobB,hst,hfi,hcat2,hinf2,hU];have e7:U.length+(O1++(O2++(O3++(O4++(O5++O6))))).length=q7:=by
   simp only [ZZ];omega
  rw [e7,hT];simp only [ZQ]
 have hsz:s.size=q7+T.length:=by
  have:=congrArg List.length hfile;rw [aP] at this;rw [this];simp only [ZZ];omega
 have g1:au s U.length (O1++(O2++(O3++(O4++(O5++(O6++T)))))):=au.of_eq (R:=[]) (by rw [hfile];simp);have g2:=g1.right;have g3:=g2.right;have g4:=g3.right;have g5:=g4.right;have g6:=g5.right;have g7:=g6.right;rw [hq7] at g7;have hstl:st.length=2*xs.length+1+xs.length+L3.length+L4.length+L5.length+1:=by
  rw [hst2,hbegs];simp only [ZZ,ZY,ZW,ck];omega
 have hstle:∀ x∈st,x < 4000000000:=by
  intro x hxm;rw [hst2] at hxm;rcases YB.1 hxm with hxm | hxm
  ·have:=hcble x hxm;omega
  ·have h1:=iT _ _ _ x hxm;rw [hobjs] at h1;simp only [ZZ] at h1;omega
 have hL4l:L4.length<=21:=by
  rw [<-hL4];unfold dd;split
  ·simp
  ·simp only [ZY,dN,ax,YG];omega
 have hL5l:L5.length<=1:=by rw [<-hL5];split <;> simp
 have hrootv:root=2*xs.length+1+xs.length+L3.length:=by rw [<-hroot,fJ,hn4];omega
 have houtv:out=if ax ms=[] then 0 else n4:=by rw [<-hout,kL,hn4]
 have houtl:out<=1000:=by rw [houtv];split <;> omega
 have hcatv:cat=n6:=by rw [<-hcat2,l7,hb3];simp only [ZZ,ZY];omega
 have hinfv:inf=if t.data.toList=[] then 0 else n5:=by
  rw [<-hinf2,fo,hb2];split
  ·rfl
  ·simp only [ZZ,ZY];omega
 have hct2:ct=[60,60,32,47,84,121,112,101,32,47,67,97,116,97,108,111,103,32,47,80,97,103,101,115,32]++aD (root:Int)++[32]++(if 0 < out then [47,79,117,116,108,105,110,101,115,32]++aD (out:Int)++[32] else [])++[62,62]:=by
  rw [<-hct,vu,bt];by_cases h0:out=0
  ·subst h0;simp
  ·rw [ZU (by omega),ZO (by omega)];simp
 obtain ⟨ys,hys⟩:∃ ys:List (List UInt8×List bj),xs.reverse.map (fun x=>(x.1,x.2.2.2))=ys:=⟨_,rfl⟩;have hysl:ys.length=xs.length:=by rw [<-hys];simp
 have hys1:ys.map (·.1)=aA xs:=by rw [<-hys,aA,Ym];rfl
 have hys2:(ys.map (·.2)).reverse=xs.map (·.2.2.2):=by
  rw [<-hys,Ym, <-List.map_reverse,List.reverse_reverse];rfl
 obtain ⟨wd,hwd⟩:∃ wd,w.alloc (.cells #[.string ⟨#[]⟩,.slice none 0 0,.slice none 0 0] 29)=wd:=⟨_,rfl⟩;have hbd:Below w w wd:=by rw [<-hwd];exact (ZV _ w).alloc (ZX _) _
 have hzd:wd.heap.size=w.heap.size+1:=by rw [<-hwd];simp
 have hkd:wd.heap[w.heap.size]? =some (.cells #[.string ⟨#[]⟩,.slice none 0 0,.slice none 0 0] 29 (0,0)):=by rw [<-hwd];exact ZE w _
 have htd:bU B wd:=ht.on (hbd.mono hB);have hBd:B<=wd.heap.size:=by omega
 have hbel:∀ {S' w'},Mv (fun _=>False) wd S' w'->Below wd wd w':=fun m=>m.below (fun k e=>e.elim) (ZX _)
 have tabs:∀ {S1 w1},Mv (fun _=>False) wd S1 w1->bU B w1/\B<=w1.heap.size:=fun m=>⟨htd.on ((hbel m).mono hBd),ZN hBd m.size⟩
 have hq7':q7=U.length+O1.length+O2.length+O3.length+O4.length+O5.length+O6.length:=hq7.symm;obtain ⟨q2,hq2⟩:∃ q,U.length+O1.length=q:=⟨_,rfl⟩;obtain ⟨q3,hq3⟩:∃ q,q2+O2.length=q:=⟨_,rfl⟩;obtain ⟨q4,hq4⟩:∃ q,q3+O3.length=q:=⟨_,rfl⟩;obtain ⟨q5,hq5⟩:∃ q,q4+O4.length=q:=⟨_,rfl⟩;obtain ⟨q6,hq6⟩:∃ q,q5+O5.length=q:=⟨_,rfl⟩;rw [hq2] at g2 g3 g4 g5 g6 hbegs;rw [hq3] at g3 g4 g5 g6 hbegs;rw [hq4] at g4 g5 g6 hbegs;rw [hq5] at g5 g6 hbegs;rw [hq6] at g6 hbegs;have hq67:q6+O6.length=q7:=by omega
 obtain ⟨s2,hs2⟩:∃ l,cb9++[U.length]=l:=⟨_,rfl⟩;obtain ⟨s3,hs3⟩:∃ l,s2++aO q2 (fi+1) L2=l:=⟨_,rfl⟩;obtain ⟨s4,hs4⟩:∃ l,s3++aO q3 (fi+1+xs.length) L3=l:=⟨_,rfl⟩;obtain ⟨s5,hs5⟩:∃ l,s4++aO q4 n4 L4=l:=⟨_,rfl⟩;obtain ⟨s6,hs6⟩:∃ l,s5++aO q5 n5 L5=l:=⟨_,rfl⟩;have hst7:s6++[q6]=st:=by
  rw [hst2,hbegs, <-hs6, <-hs5, <-hs4, <-hs3, <-hs2];simp only [ZQ]
 have hs2l:s2.length=2*xs.length+1:=by rw [<-hs2,ZZ,hcbl];rfl
 have hs3l:s3.length=2*xs.length+1+xs.length:=by rw [<-hs3,ZZ,ck,hs2l,hL2l]
 have hs4l:s4.length+1=n4:=by rw [<-hs4,ZZ,ck,hs3l];omega
 have hs5l:s5.length+1=n5:=by rw [<-hs5,ZZ,ck];omega
 have hs6l:s6.length+1=n6:=by rw [<-hs6,ZZ,ck];omega
 have hle2:q2<=s.size:=by omega
 have hle4:q4<=s.size:=by omega
 have hle5:q5<=s.size:=by omega
 have hno1:¬ au s U.length (aL (2*xs.length+1)++[60,60,32,47,70,105,108,116,101,114]):=by
  have g:au s U.length (aL (2*xs.length+1)++(ej++eh)):=by
   have:=g1.left;rw [<-hO1, <-hfi,hfont] at this;exact this
  exact g.noAt _ _ _ 4 84 70 (by rfl) (by rfl) (by decide)
 have gct:au s q6 (aL n6++(ct++eh)):=by
  have:=g6.left;rw [<-hO6] at this;exact this
 have hct5:(ct++eh)[5]? =some 121:=by rw [hct2];rfl
 have hct10:(ct++eh)[10]? =some 67:=by rw [hct2];rfl
 have htl:t.data.toList.length=t.size:=aP t;have gti:t.data.toList≠[]->au s q5 (aK n5 (gx t.data.toList)):=by
  intro h0;have:=g5.left;rw [<-hO5, <-hL5,ZU h0] at this;simpa [aF] using this
 have h5nil:t.data.toList=[]->q6=q5/\n6=n5/\s6=s5/\L5=[]:=by
  intro h0;have h5:L5=[]:=by rw [<-hL5,ZO h0]
  have e5:O5=[]:=by rw [<-hO5,h5];rfl
  refine ⟨by rw [<-hq6,e5];rfl,by rw [<-hn6,h5];rfl,by rw [<-hs6,h5];simp [aO],h5⟩
 have hno3:t.data.toList=[]->¬ au s q5 (aL (s5.length+1)++[60,60,32,47,84,105,116,108,101,32]):=by
  intro h0;obtain ⟨e1,e2,e3,_⟩:=h5nil h0;rw [hs5l, <-e1, <-e2];exact gct.noAt _ _ _ 5 121 105 hct5 (by rfl) (by decide)
 have hno2:ms=[]->¬ au s q4 (aL (s4.length+1)++[60,60,32,47,84,121,112,101,32,47,79,117,116,108,105,110,101,115]):=by
  intro h0;have h4:L4=[]:=by rw [<-hL4,h0];rfl
  have e4:q5=q4:=by rw [<-hq5, <-hO4,h4];rfl
  have e5:n5=n4:=by rw [<-hn5,h4];rfl
  rw [hs4l, <-e4, <-e5];by_cases ht0:t.data.toList=[]
  ·obtain ⟨e1,e2,e3,_⟩:=h5nil ht0;rw [<-e1, <-e2];exact gct.noAt _ _ _ 10 67 79 hct10 (by rfl) (by decide)
  ·have g:au s q5 (aL n5++(gx t.data.toList++eh)):=gti ht0;refine g.noAt _ _ _ 5 105 121 ?_ (by rfl) (by decide);rfl
 obtain ⟨r,hr⟩:∃ r,r=w.heap.size+2:=⟨_,rfl⟩;obtain ⟨c,hc⟩:∃ c,c=w.heap.size+1:=⟨_,rfl⟩
 let A:List (Value×List bj)->Value->List (Value×(Int×Int×List bj))->As:=fun l vp q=>ah (dh B l) (aW B 100 3 vp xs.length (iy q))
 have hAT:∀ l vp q,aJ B (A l vp q):=fun l vp q=>ah.thing (dh.thing _ _) (aW.thing _ _ _ _ _ _)
 have toP:∀ {l vp q vm p st w1 S1},ah (A l vp q) (dq B r c s p ⟨#[]⟩ vp vm st) w1 S1->ah (dh B l) (fZ B r c s p ⟨#[]⟩ vp vm st xs.length (iy q)) w1 S1:=by
  intro l vp q vm p st w1 S1 h;obtain ⟨R1,R2,h1,h2,h3,h4⟩:=ah.assoc h;exact ⟨R1,R2,h1,ah.swap h2,h3,h4⟩
 have ofP:∀ {l vp q vm p st w1 S1},ah (dh B l) (fZ B r c s p ⟨#[]⟩ vp vm st xs.length (iy q)) w1 S1->ah (A l vp q) (dq B r c s p ⟨#[]⟩ vp vm st) w1 S1:=by
  intro l vp q vm p st w1 S1 ⟨R1,R2,h1,h2,h3,h4⟩;exact ah.assocR ⟨R1,R2,h1,ah.swap h2,h3,h4⟩
 have hok:∀ x∈ys,Pm.bP x.1=some (bE x.2,x.1.length)/\(bE x.2).length<=1048576/\∀ o∈x.2,o.is:=by
  intro x hxm;rw [<-hys] at hxm;simp only [YN,Yv] at hxm;obtain ⟨y,hy,rfl⟩:=hxm;obtain ⟨a1,a2,a3,_⟩:=hx y hy;exact ⟨a1,a2,a3⟩
 have hPG:=nC wd B s ys (O1++(O2++(O3++(O4++(O5++(O6++T)))))) hBd htd hs (by omega) (by rw [hys1,hU];exact hfile) hok (by rw [hys1,hU,hysl];exact hno1);rw [hzd] at hPG;have hl2:L2.length<=80:=by omega
 refine vV w s r c fi xs.length root out inf cat t (aD (root:Int)) (aD (out:Int)) ct
  (fun w1=>∃ vp l q S1,ah (dh B l) (fZ B r c s U.length ⟨#[]⟩ vp (.slice none 0 0) cb9 xs.length (iy q)) w1 S1/\l.map (·.2)=xs.map (·.2.2.2)/\fy xs l 0 q/\Mv (fun _=>False) wd S1 w1)
  (fun w1=>∃ vp l q S1,ah (dh B l) (fZ B r c s q4 ⟨#[]⟩ vp (.slice none 0 0) s4 xs.length (iy q)) w1 S1/\l.map (·.2)=xs.map (·.2.2.2)/\fy xs l xs.length q/\Mv (fun _=>False) wd S1 w1)
  (fun w1=>∃ vp vm l q S1,ah (A l vp q) (kQ B r c s q5 ⟨#[]⟩ vp vm s5 ms.length (iz ms)) w1 S1/\l.map (·.2)=xs.map (·.2.2.2)/\fy xs l xs.length q/\Mv (fun _=>False) wd S1 w1)
  (fun w1=>∃ vp vm l q S1,ah (A l vp q) (kQ B r c s q6 t vp vm s6 ms.length (iz ms)) w1 S1/\l.map (·.2)=xs.map (·.2.2.2)/\fy xs l xs.length q/\Mv (fun _=>False) wd S1 w1)
  (fun w1=>∃ vp vm l q S1,ah (A l vp q) (kQ B r c s q7 t vp vm st ms.length (iz ms)) w1 S1/\l.map (·.2)=xs.map (·.2.2.2)/\fy xs l xs.length q/\Mv (fun _=>False) wd S1 w1)
  (fun w1=>∃ vp vm l q S1,ah (A l vp q) (kQ B r c s s.size t vp vm st ms.length (iz ms)) w1 S1/\l.map (·.2)=xs.map (·.2.2.2)/\fy xs l xs.length q/\Mv (fun _=>False) wd S1 w1)
  (fun i w1=>∃ vp l q S1,ah (dh B l) (fZ B r c s (q2+(aF (fi+1) (L2.take i)).length) ⟨#[]⟩ vp (.slice none 0 0) (s2++aO q2 (fi+1) (L2.take i)) xs.length (iy q)) w1 S1/\l.map (·.2)=xs.map (·.2.2.2)/\fy xs l i q/\Mv (fun _=>False) wd S1 w1)
  _ (by omega) hxl (by omega) ?_ ?_ ?_ ?_ ?_ ?_ ?_ ?_ ?_ ?_ ?_ hct2 ?_ ?_ ?_
 ·exact dU root (by omega)
 ·exact dU out (by omega)
 ·rw [hwd];refine hPG.mono ?_;rintro e w1 ⟨rfl,vp,l,S1,h1,hl,m1⟩;rw [hysl] at h1 hl;have etk:(ys.map (·.1)).take xs.length=aA xs:=by rw [hys1,ZF (by omega)]
  have etk2:(ys.take xs.length).map (·.2)=ys.map (·.2):=by rw [ZF (by omega)]
  rw [etk,hU,hcb9] at h1;rw [etk2,hys2] at hl;have ec:w.heap.size+1=c:=hc.symm;have er:w.heap.size+1+1=r:=by omega
  rw [hzd,er,ec] at h1;rw [er];refine ⟨rfl,vp,l,_,S1,?_,hl,fy.start xs l,m1⟩;rw [<-pI];exact h1
 ·rintro w1 ⟨vp,l,q,S1,h1,hl,hq,m1⟩;obtain ⟨ht1,hB1⟩:=tabs m1;obtain ⟨S2,h2,_,back⟩:=ah.snd (dh.thing _ _) h1;obtain ⟨S3,h3,_,back3⟩:=ah.fst (aW.thing _ _ _ _ _ _) h2;have hg9:au s U.length (aK (cb9.length+1) ej):=by
   rw [hcbl, <-hfont,hfi,hO1];exact g1.left
  have hW:=g_ w1 B r c U.length s ⟨#[]⟩ vp _ cb9 S3 ej (by decide) h3 hB1 ht1 hs (by omega) hg9;rw [hcbl, <-hfont,hfi,hO1,hq2,hs2] at hW;refine hW.mono ?_;rintro e w2 ⟨rfl,S4,h4,m4⟩;obtain ⟨S5,h5,m5⟩:=back3 _ _ _ h4 m4;obtain ⟨S6,h6,m6⟩:=back _ _ _ h5 m5;refine ⟨rfl,vp,l,q,S6,?_,hl,hq,m1.trans m6⟩;rw [List.take_zero,aF,aO,ZW,Yp,Zm];exact h6
 ·rintro i w1 ⟨vp,l,q,S1,h1,hl,hq,m1⟩;obtain ⟨S2,h2,_,_⟩:=ah.snd (dh.thing _ _) h1;obtain ⟨S3,h3,_,_⟩:=ah.fst (aW.thing _ _ _ _ _ _) h2;obtain ⟨S4,h4,_,_⟩:=ah.snd (dq.thing _ _ _ _ _ _ _ _ _) h2;obtain ⟨ad,cap,rfl⟩:=h4.form;obtain ⟨_,_,c0,_,c2,_⟩:=h3.read;obtain ⟨S5,h5⟩:=h3.cur;exact ⟨c0,h5.at 2 _ rfl,ad,cap,c2⟩
 ·rintro i w1 hi ⟨vp,l,q,S1,h1,hl,hq,m1⟩;obtain ⟨ht1,hB1⟩:=tabs m1;obtain ⟨S2,h2,_,back⟩:=ah.snd (dh.thing _ _) h1;obtain ⟨S4,h4,_,_⟩:=ah.snd (dq.thing _ _ _ _ _ _ _ _ _) h2;obtain ⟨g,cap,rfl,hcap,hcap2,_⟩:=iF h4.2 (by omega);have hil:i < L2.length:=by omega
  have hlq:q.length=xs.length:=by
   have e1:=congrArg List.length hq.1;have e2:=congrArg List.length hl;simp [kg] at e1 e2;omega
  have hstl2:(s2++aO q2 (fi+1) (L2.take i)).length+1=fi+1+i:=by
   rw [ZZ,ck,Zx,Zr (by omega)];omega
  obtain ⟨z,hz⟩:∃ z,z=xs[xs.length - 1 - i]'(by omega):=⟨_,rfl⟩;have hzi:∀ h,(aQ xs)[i]'h=(z.2.1,z.2.2.1):=by
   intro h;have e:(aQ xs)[i]? =some (z.2.1,z.2.2.1):=by
    rw [aQ,YT,List.getElem?_reverse (by omega),hz,ZK (by omega)];rfl
   rw [ZK h] at e;exact Zd e
  have hLi:L2[i]=vO fi xs.length i (z.2.1,z.2.2.1):=by
   have e:=mO fi (aQ xs).length (aQ xs) 0 i (by omega);rw [hL2,hzi,Zc,hsl,ZK hil] at e;exact Zd e
  have hgo:au s (q2+(aF (fi+1) (L2.take i)).length) (aK ((s2++aO q2 (fi+1) (L2.take i)).length+1) (vO fi xs.length i (z.2.1,z.2.2.1))):=by
   rw [hstl2, <-hLi];have gg:=g2.left;rw [<-hO2] at gg;exact gg.obj i hil
  have hzm:z∈xs:=by rw [hz];exact YK _
  obtain ⟨_,_,_,_,hW,hH⟩:=hx z hzm;have hP:=vZ w1 B r c _ i fi s ⟨#[]⟩ (.slice none 0 0) _ xs.length g cap (iy q) S2 z.2.1 z.2.2.1 h2 hB1 ht1 hs (by omega) hi hcap hcap2 (by omega) (by omega) (by omega) (by rw [eT];omega) hW hH hgo;refine hP.mono ?_;rintro e w2 ⟨rfl,S5,h5,m5⟩;obtain ⟨S6,h6,m6⟩:=back _ _ _ h5 m5;have hq1:=hq.step hl hi z hz;refine ⟨rfl,.slice g xs.length cap,l,_,S6,?_,hl,hq1,m1.trans m6⟩;rw [hstl2, <-hLi,qZ i _ _ q (by omega)] at h6;rw [ZH hil,fj,il,Zx,Zr (by omega),ZZ, <-Zn, <-ZQ];exact h6
 ·rintro w1 ⟨vp,l,q,S1,h1,hl,hq,m1⟩;obtain ⟨ht1,hB1⟩:=tabs m1;rw [ZF (by omega),hO2,hq3,hs3] at h1;obtain ⟨S2,h2,_,back⟩:=ah.snd (dh.thing _ _) h1;have hgo:au s q3 (aF (fi+1+xs.length) (bS xs.length (fi+1) xs.length 1)):=by
   rw [<-hsl,hL3,hsl,hO3];exact g3.left
  have hN:=sR xs.length w1 B r c q3 s ⟨#[]⟩ vp (.slice none 0 0) s3 xs.length (iy q) S2 (fi+1) 1 h2 hB1 ht1 hs (by omega) (by omega) (by omega) (by omega) (.inl ⟨hxl,ZX _⟩) hgo;have eL3:bS xs.length (fi+1) xs.length 1=L3:=by rw [<-hL3,hsl]
  rw [eL3,hO3,hq4,hs4,hs3l] at hN;have ef:((fi+1:Nat):Int)=(fi:Int)+1:=by omega
  rw [ef] at hN;refine hN.mono ?_;rintro e w2 ⟨rfl,S5,h5,m5⟩;obtain ⟨S6,h6,m6⟩:=back _ _ _ h5 m5;exact ⟨by rw [hrootv],vp,l,q,S6,h6,hl,hq,m1.trans m6⟩
 ·rintro w1 ⟨vp,l,q,S1,h1,hl,hq,m1⟩;obtain ⟨ht1,hB1⟩:=tabs m1;have h2:=ofP h1;obtain ⟨S2,h3,_,back⟩:=ah.snd (hAT l vp q) h2;have hvp:∃ ad cap,vp=.slice ad xs.length cap:=by
   obtain ⟨_,_,⟨_,_,_,h9,_⟩,_⟩:=h2;exact h9.form
  have h4:kQ B r c s q4 ⟨#[]⟩ vp (.slice none 0 0) s4 0 [] w1 S2:=ah.addNil B 98 2 h3;have hgo:au s q4 (aF (s4.length+1) (dd (s4.length+1) (fi+1) (ax ms))):=by
   rw [hs4l,hL4,hO4];exact g4.left
  have hM:=vn w1 B r c q4 (fi+1) xs.length s ⟨#[]⟩ vp s4 S2 ms hvp hxl (by omega) h4 hB1 ht1 hs (by omega) hle4 hm hms hup hno2 hgo;rw [hs4l,hL4,hO4,hq5,hs5] at hM;have ef:((fi+1:Nat):Int)=(fi:Int)+1:=by omega
  rw [ef] at hM;refine hM.mono ?_;rintro e w2 ⟨rfl,vm,S5,h5,m5⟩;obtain ⟨S6,h6,m6⟩:=back _ _ _ h5 m5;exact ⟨by rw [houtv],vp,vm,l,q,S6,h6,hl,hq,m1.trans m6⟩
 ·rintro w1 ⟨vp,vm,l,q,S1,h1,hl,hq,m1⟩;obtain ⟨ht1,hB1⟩:=tabs m1;obtain ⟨S2,h2,_,back⟩:=ah.snd (hAT l vp q) h1;obtain ⟨S3,h3,_,back3⟩:=ah.fst (aW.thing _ _ _ _ _ _) h2;by_cases ht0:t.data.toList=[]
  ·obtain ⟨e1,e2,e3,_⟩:=h5nil ht0;refine (wJ w1 B r c q5 s ⟨#[]⟩ vp vm s5 S3 h3 hB1 ht1 hs (by omega) hle5 (hno3 ht0)).mono ?_;rintro e w2 ⟨rfl,S4,h4,m4⟩;obtain ⟨S5,h5,m5⟩:=back3 _ _ _ h4 m4;obtain ⟨S6,h6,m6⟩:=back _ _ _ h5 m5;have et:(⟨#[]⟩:ByteArray)=t:=by
    refine Zj (YF ?_);simpa using ht0.symm
   refine ⟨by rw [hinfv,ZO ht0];rfl,vp,vm,l,q,S6,?_,hl,hq,m1.trans m6⟩;rw [e1,e3, <-et];exact h6
  ·have hgo:au s q5 (aK (s5.length+1) (gx t.data.toList)):=by rw [hs5l];exact gti ht0
   have htl1:1<=t.data.toList.length:=Xw.2 ht0;refine (sU w1 B r c q5 s ⟨#[]⟩ vp vm s5 S3 h3 hB1 ht1 hs (by omega) t.data.toList htl1 (by omega) hgo).mono ?_;rintro e w2 ⟨rfl,S4,h4,m4⟩;obtain ⟨S5,h5,m5⟩:=back3 _ _ _ h4 m4;obtain ⟨S6,h6,m6⟩:=back _ _ _ h5 m5;have eO5:O5=aK n5 (gx t.data.toList):=by rw [<-hO5, <-hL5,ZU ht0];simp [aF]
   have es6:s6=s5++[q5]:=by rw [<-hs6, <-hL5,ZU ht0];rfl
   refine ⟨by rw [hinfv,ZU ht0,hs5l],vp,vm,l,q,S6,?_,hl,hq,m1.trans m6⟩;rw [es6, <-hq6,eO5, <-hs5l];exact h6
 ·rintro w1 ⟨vp,vm,l,q,S1,h1,hl,hq,m1⟩ w2 hb2;obtain ⟨ht1,hB1⟩:=tabs m1;exact cE B w2 _ (by omega) (by omega) (ht1.on (hb2.mono hB1))
 ·rintro w1 ⟨vp,vm,l,q,S1,h1,hl,hq,m1⟩ w2 hb2;obtain ⟨ht1,hB1⟩:=tabs m1;exact cE B w2 _ (by omega) (by omega) (ht1.on (hb2.mono hB1))
 ·rintro w1 ⟨vp,vm,l,q,S1,h1,hl,hq,m1⟩ w2 hb2;obtain ⟨ht1,hB1⟩:=tabs m1;have h1':=(ah.thing (hAT l vp q) (kQ.thing _ _ _ _ _ _ _ _ _ _ _)).grow h1 hb2;obtain ⟨S2,h2,_,back⟩:=ah.snd (hAT l vp q) h1';obtain ⟨S3,h3,_,back3⟩:=ah.fst (aW.thing _ _ _ _ _ _) h2;have hgo:au s q6 (aK (s6.length+1) ct):=by rw [hs6l];exact gct
  have hW:=g_ w2 B r c q6 s t vp vm s6 S3 ct (by omega) h3 (by have:=hb2.size;omega) (ht1.on (hb2.mono hB1)) hs (by omega) hgo;rw [hs6l,hO6,hq67,hst7] at hW;refine hW.mono ?_;rintro e w3 ⟨rfl,S4,h4,m4⟩;obtain ⟨S5,h5,m5⟩:=back3 _ _ _ h4 m4;obtain ⟨S6,h6,m6⟩:=back _ _ _ h5 m5;exact ⟨by rw [hcatv],vp,vm,l,q,S6,h6,hl,hq,(m1.trans (Mv.grow hb2 _)).trans m6⟩
 ·rintro w1 ⟨vp,vm,l,q,S1,h1,hl,hq,m1⟩;obtain ⟨ht1,hB1⟩:=tabs m1;obtain ⟨S2,h2,_,back⟩:=ah.snd (hAT l vp q) h1;obtain ⟨S3,h3,_,back3⟩:=ah.fst (aW.thing _ _ _ _ _ _) h2;have hgo:au s q7 (iE st cat inf q7):=by rw [hT];exact g7
  refine (wq w1 B r c q7 cat inf s t vp vm st S3 h3 hB1 ht1 hs (by omega) (by omega) hstle (by omega) (by omega) (by omega) hgo).mono ?_;rintro e w3 ⟨rfl,S4,h4,m4⟩;obtain ⟨S5,h5,m5⟩:=back3 _ _ _ h4 m4;obtain ⟨S6,h6,m6⟩:=back _ _ _ h5 m5;refine ⟨rfl,vp,vm,l,q,S6,?_,hl,hq,m1.trans m6⟩;rw [hT, <-hsz] at h6;exact h6
 ·rintro w1 ⟨vp,vm,l,q,S1,h1,hl,hq,m1⟩;obtain ⟨S2,h2,_,_⟩:=ah.snd (hAT l vp q) h1;obtain ⟨S3,h3,_,_⟩:=ah.fst (aW.thing _ _ _ _ _ _) h2;obtain ⟨_,_,c0,c1,c2,c3,_⟩:=h3.read;obtain ⟨S5,h5⟩:=h3.cur;have fvp:vp.oneCell'=true:=by
   obtain ⟨_,_,⟨_,_,_,h9,_⟩,_⟩:=h1;obtain ⟨a,b,rfl⟩:=h9.form;rfl
  have fvm:vm.oneCell'=true:=by
   obtain ⟨_,_,_,h9,_⟩:=h2;obtain ⟨a,b,rfl⟩:=h9.form;rfl
  have hkb:w1.heap[w.heap.size]? =some (.cells #[.string ⟨#[]⟩,.slice none 0 0,.slice none 0 0] 29 (0,0)):=(m1.keep (k:=w.heap.size) (by omega) (fun e=>e)).trans hkd;refine ⟨vp,vm,fvp,fvm,c0,h5.at 2 _ rfl,h5.at 1 _ rfl,?_,hkb,vp,vm,rfl,fvp,fvm,?_⟩
  ·intro j v hv
   match j,hv with
   | 0,hv=>simp at hv;subst hv;exact c1
   | 1,hv=>simp at hv;subst hv;exact c2
   | 2,hv=>simp at hv;subst hv;exact c3
   | (j+3),hv=>simp at hv
  ·have hge:∀ k,S1 k->w.heap.size < k:=fun k hk=>by
    rcases m1.new k hk with e | e
    ·exact e.elim
    ·omega
   obtain ⟨S4,h4,e4⟩:=ah.sub h1 (P':=A l vp q) (Q':=aW B 98 2 vm ms.length (iz ms)) (fun S h=>⟨S,h,fun _ e=>e⟩) (fun S h=>by
    obtain ⟨X1,X2,_,h9,_,rfl⟩:=h;exact ⟨X2,h9,fun k e=>.inr e⟩)
   have h6:lQ B q ms vp vm w1 S4:=by
    obtain ⟨X1,X2,h7,h8,h9,h10⟩:=h4;have h11:ah (ah (aW B 100 3 vp xs.length (iy q)) (dh B l)) (aW B 98 2 vm ms.length (iz ms)) w1 S4:=⟨X1,X2,ah.swap h7,h8,h9,h10⟩;have hlq:q.length=xs.length:=by
     have e1:=congrArg List.length hq.1;have e2:=congrArg List.length hl;simp [kg] at e1 e2;omega
    unfold lQ;rw [hlq,hq.1];exact ah.assoc h11
   have hqd:q.map (·.2)=xs.map (·.2):=hq.done (by have e2:=congrArg List.length hl;simpa using e2);have hzw:w.heap.size < w1.heap.size:=by have:=m1.size;omega
   have hsr:(w1.setRow w.heap.size #[t,vp,vm]).heap.size=w1.heap.size:=by simp
   have hD:ya B vp vm (xs.map (·.2)) ms (w1.setRow w.heap.size #[t,vp,vm]) S4:=by
    refine (ya.thing B vp vm (xs.map (·.2)) ms).keep ⟨q,hqd,h6⟩ (fun k hk=>?_) (by rw [hsr];exact ZX _);exact World.setRow_other9 _ _ _ _ (by have:=hge k (e4 k hk);omega)
   refine ⟨S4,hD,⟨⟨?_,?_,?_,?_,?_⟩,fun k hk=>.inr (by have:=hge k (e4 k hk);omega)⟩⟩
   ·exact (m1.fr.os).trans hbd.os
   ·exact (m1.fr.tape).trans hbd.tape
   ·exact (m1.fr.output).trans hbd.output
   ·rw [hsr];have:=m1.size;omega
   ·intro k hk _;rw [World.setRow_other9 _ _ _ _ (by omega),m1.keep (by omega) (fun e=>e)];exact hbd.block k hk
theorem oy (w:World) (a b:Option Addr) (ca cb:Nat):QB 68 #[.slice a 0 ca,.slice b 0 cb] w true:=by
 go_enter func68,ntmps68
 go_wp2;go_loopg [5] 1 (fun g x wr=>x=.int .i64 0/\Below w w wr)
 case atStart=>exact ⟨rfl,ZV _ _⟩
 case round=>
  obtain ⟨rfl,hb⟩:=hrel;go_wp2;go_ret;exact ⟨rfl,hb⟩
theorem pR:∀ (ps:List (Value×(Int×Int×List bj))) (i:Nat) y,ps.reverse[i]? =some y->(iy ps)[i*3]? =some (.int .i64 y.2.1)/\(iy ps)[i*3+1]? =some (.int .i64 y.2.2.1)/\(iy ps)[i*3+2]? =some y.1
 | [],i,y,h=>by simp at h
 | x::l,i,y,h=>by
  have hl:=eT l;rw [List.reverse_cons] at h;simp only [iy];by_cases hi:i < l.length
  ·rw [Za (by simpa using hi)] at h;obtain ⟨a1,a2,a3⟩:=pR l i y h;rw [Za (by omega),Za (by omega),Za (by omega)];exact ⟨a1,a2,a3⟩
  ·have hi2:i=l.length:=by
    have:=(Zv.1 h).1;simp at this;omega
   subst hi2;rw [YQ (by simp)] at h;simp at h;subst h;rw [YQ (by omega),YQ (by omega),YQ (by omega)];have e0:l.length*3 - (iy l).length=0:=by omega
   have e1:l.length*3+1 - (iy l).length=1:=by omega
   have e2:l.length*3+2 - (iy l).length=2:=by omega
   rw [e0,e1,e2];exact ⟨rfl,rfl,rfl⟩
def bj.cs9 (o:bj):List Value:=[.int .i64 o.k,.int .i64 o.a,.int .i64 o.b,.int .i64 o.c,.int .i64 o.d,.int .i64 o.e,.int .i64 o.co,.int .i64 o.ro,.string o.s]
theorem ue:∀ (l:List bj) (k:Nat) o,l[k]? =some o->∀ j v,o.cs9[j]? =some v->(k_ l)[k*9+j]? =some v
 | [],k,o,h=>by simp at h
 | x::l,0,o,h=>by
  intro j v hv;simp at h;subst h;have hj:j < 9:=by
   have:=(Zv.1 hv).1;simpa [bj.cs9] using this
  have e:k_ (x::l)=x.cs9++k_ l:=rfl;rw [e,Nat.zero_mul,Zc,Za (by simpa [bj.cs9] using hj)];exact hv
 | x::l,k+1,o,h=>by
  intro j v hv;have e:k_ (x::l)=x.cs9++k_ l:=rfl;have h9:x.cs9.length=9:=rfl;rw [e,YQ (by omega)];have e2:(k+1)*9+j - x.cs9.length=k*9+j:=by omega
  rw [e2];exact ue l k o (by simpa using h) j v hv
def yy (v:Value) (ps:List (Value×(Int×Int×List bj))) (w:World):Prop:=fB v ps.length (iy ps) w/\∀ x∈ps,fB x.1 x.2.2.2.length (k_ x.2.2.2) w
theorem yy.on {v:Value} {ps:List (Value×(Int×Int×List bj))} {w w':World} (h:yy v ps w) (g:Below w w w'):yy v ps w':=⟨h.1.on g,fun x hx=>(h.2 x hx).on g⟩
theorem dh.lies {B:Nat}:∀ {l:List (Value×List bj)} {w:World} {S:Bl},dh B l w S->∀ x∈l,fB x.1 x.2.length (k_ x.2) w
 | [],_,_,_,x,hx=>by simp at hx
 | y::l,w,S,h,x,hx=>by
  obtain ⟨S1,S2,h1,h2,_⟩:=h;rcases YJ.1 hx with rfl | hx
  ·exact h2.lies
  ·exact dh.lies h1 x hx
theorem lQ.pgl {B:Nat} {ps:List (Value×(Int×Int×List bj))} {ms:List (ByteArray×Nat)} {vp vm:Value} {w:World} {S:Bl} (h:lQ B ps ms vp vm w S):yy vp ps w/\fB vm ms.length (iz ms) w:=by
 obtain ⟨S1,S2,h1,⟨S3,S4,h3,h4,_⟩,_⟩:=h;refine ⟨⟨h1.lies,fun x hx=>?_⟩,h4.lies⟩;exact dh.lies h3 (x.1,x.2.2.2) (YN.2 ⟨x,hx,rfl⟩)
theorem js (w:World) (v1 v2:Value) (p1 p2:List (Value×(Int×Int×List bj))) (h1:yy v1 p1 w) (h2:yy v2 p2 w) (he:p1.map (·.2)=p2.map (·.2)) (hl:p1.length<=80) (hop:∀ x∈p1,x.2.2.2.length<=1000000000):
  QB 68 #[v1,v2] w true:=by
 have hll:p2.length=p1.length:=by have:=congrArg List.length he;simpa using this.symm
 obtain ⟨⟨ad1,c1,rfl,b1,d1,f1⟩,l1⟩:=h1;obtain ⟨⟨ad2,c2,rfl,b2,d2,f2⟩,l2⟩:=h2;rw [hll] at b2 f2 ⊢;by_cases h0:p1.length=0
 ·rw [h0];exact oy w ad1 ad2 c1 c2
 have hp:0 < p1.length:=Nat.pos_of_ne_zero h0;have hp1:p1.length<=1000:=ZN hl (by decide);obtain ⟨ga,rfl,hga,ca⟩:=f1 hp;obtain ⟨gb,rfl,hgb,cb⟩:=f2 hp;refine nL w ga gb p1.length c1 c2 hp hp1 b1 b2 d1 d2 hga hgb ?_;intro i hi;obtain ⟨y,hy⟩:∃ y,p1.reverse[i]? =some y:=⟨_,ZK (by simpa using hi)⟩;obtain ⟨z,hz⟩:∃ z,p2.reverse[i]? =some z:=⟨_,ZK (by simp;omega)⟩;have hyz:y.2=z.2:=by
  have e1:(p1.map (·.2)).reverse[i]? =some y.2:=by rw [<-List.map_reverse,YT,hy];rfl
  have e2:(p2.map (·.2)).reverse[i]? =some z.2:=by rw [<-List.map_reverse,YT,hz];rfl
  rw [he,e2] at e1;exact (Zd e1).symm
 have my:y∈p1:=Yv.1 (Ys hy);have mz:z∈p2:=Yv.1 (Ys hz);obtain ⟨a1,a2,a3⟩:=pR p1 i y hy;obtain ⟨e1,e2,e3⟩:=pR p2 i z hz;obtain ⟨oa,ka,hva,ha1,ha2,ha3⟩:=l1 y my;obtain ⟨ob,kb,hvb,hb1,hb2,hb3⟩:=l2 z mz;rw [<-hyz] at e1 e2 hvb hb1 hb3;refine ⟨y.2.1,y.2.2.1,y.2.2.2.length,ka,kb,oa,ob,ca _ _ a1,ca _ _ a2,?_,cb _ _ e1,cb _ _ e2,?_,hop y my,ha1,hb1,ha2,hb2,?_⟩
 ·rw [<-hva];exact ca _ _ a3
 ·rw [<-hvb];exact cb _ _ e3
 ·intro hn;obtain ⟨g1,rfl,hg1,k1⟩:=ha3 hn;obtain ⟨g2,rfl,hg2,k2⟩:=hb3 hn;refine ⟨g1,g2,rfl,rfl,hg1,hg2,fun k hk=>?_⟩;obtain ⟨o,ho⟩:∃ o,y.2.2.2[k]? =some o:=⟨_,ZK hk⟩;exact ⟨o.k,o.a,o.b,o.c,o.d,o.e,o.co,o.ro,o.s,fun j v hv=>k1 _ _ (ue _ k o ho j v hv),fun j v hv=>k2 _ _ (ue _ k o ho j v hv)⟩
theorem xO (w:World) (t:ByteArray) (v1 v2 m1 m2:Value) (p1 p2:List (Value×(Int×Int×List bj))) (ms:List (ByteArray×Nat)) (h1:yy v1 p1 w) (h2:yy v2 p2 w) (he:p1.map (·.2)=p2.map (·.2)) (hl:p1.length<=80) (hop:∀ x∈p1,x.2.2.2.length<=1000000000) (hm:ms.length<=20) (g1:fB m1 ms.length (iz ms) w) (g2:fB m2 ms.length (iz ms) w):
  QB 31 #[.agg #[t,v1,m1],.agg #[t,v2,m2]] w true:=by
 obtain ⟨ad1,c1,rfl,b1,d1,f1⟩:=g1;obtain ⟨ad2,c2,rfl,b2,d2,f2⟩:=g2;refine vH w v1 v2 ms.length c1 c2 ad1 ad2 t (by omega) b1 b2 d1 d2 (fun wx hb=>js wx v1 v2 p1 p2 (h1.on hb) (h2.on hb) he hl hop) ?_;intro hn;obtain ⟨ga,rfl,hga,ca⟩:=f1 hn;obtain ⟨gb,rfl,hgb,cb⟩:=f2 hn;refine ⟨ga,gb,rfl,rfl,hga,hgb,fun i hi=>?_⟩;obtain ⟨x,hx⟩:∃ x,ms[i]? =some x:=⟨_,ZK hi⟩;obtain ⟨a1,a2⟩:=s_ ms i x hx;exact ⟨x.1,(x.2:Int),pL (ca _ _ a1) (ca _ _ a2),pL (cb _ _ a1) (cb _ _ a2)⟩
def qr (ps:List (Value×(Int×Int×List bj))) (i:Nat):Value:=((ps.reverse.map (·.1))[i]?).getD undef
theorem oP (f g:Nat->Value):∀ n,(∀ i,i < n->f i=g i)->qx f n=qx g n
 | 0,_=>rfl
 | n+1,h=>by rw [qx,qx,oP f g n (fun i hi=>h i (by omega)),h n (by omega)]
def jF (ps:List (Value×(Int×Int×List bj))):List (Value×(Int×Int×List bj)):=ps.map fun x=>(x.1,((0:Int),(0:Int),x.2.2.2))
theorem xz:∀ ps:List (Value×(Int×Int×List bj)),qx (qr ps) ps.length=iy (jF ps)
 | []=>rfl
 | x::l=>by
  have e1:qx (qr (x::l)) l.length=qx (qr l) l.length:=oP _ _ _ fun i hi=>by
   unfold qr;rw [List.reverse_cons,XQ,Za (by simpa using hi)]
  have e2:qr (x::l) l.length=x.1:=by
   unfold qr;rw [List.reverse_cons,XQ,YQ (by simp)];simp
  rw [ZY,qx,e1,e2,xz l];rfl
theorem uZ {xs:List iB} (ms:List (ByteArray×Nat)) (t:ByteArray) (hx:∀ x∈xs,kx x) (hxl:xs.length<=80) (hti:t.size<=100) (hm:ms.length<=20) (hms:∀ m∈ms,m.1.size<=100/\m.2<=80):(fO (aA xs) (aQ xs) (ax ms) t.data.toList).length<=200000000:=by
 have hzl:(aA xs).length=xs.length:=by simp [aA]
 have hsl:(aQ xs).length=xs.length:=by simp [aQ]
 have hup:=cN hx hxl;have hzs:∀ z∈aQ xs,bG z.1 1 14400000/\bG z.2 1 14400000:=by
  intro z hz;simp only [aQ,YN,Yv] at hz;obtain ⟨x,hxm,rfl⟩:=hz;exact ⟨(hx x hxm).2.2.2.2.1,(hx x hxm).2.2.2.2.2⟩
 have hfont:cK (aA xs)=2*xs.length+1:=by rw [cK,hzl]
 have hms2:∀ m∈ax ms,m.1.length<=100/\m.2<=80:=by
  intro m hmm;simp only [ax,YN] at hmm;obtain ⟨y,hy,rfl⟩:=hmm;have:=hms y hy;exact ⟨by show y.1.data.toList.length<=100;rw [aP];omega,this.2⟩
 obtain ⟨hbl,hbl1,hbs,hcat,hinfo⟩:=fW (cK (aA xs)) (aQ xs) (ax ms) t.data.toList (by omega) (by omega) hzs (by rw [aP];omega) (by simp [ax];omega) hms2;have hob:(dv (aA xs) (aQ xs) (ax ms) t.data.toList).length<=2040*310:=by
  have:=fK (cI (cK (aA xs)) (aQ xs) (ax ms) t.data.toList) (cK (aA xs)) (by omega) hbs;unfold dv;omega
 have hbgl:(eH (aA xs) (aQ xs) (ax ms) t.data.toList).length<=500:=by
  unfold eH;rw [ZZ,ck,dy,hzl];omega
 have hbgx:∀ x∈eH (aA xs) (aQ xs) (ax ms) t.data.toList,x<=4000000000:=by
  intro x hxm;unfold eH at hxm;rcases YB.1 hxm with hxm | hxm
  ·have h1:=jk _ _ _ x hxm;have h2:(aC (aA xs)).length=9+(bW 0 (aA xs)).length:=by rw [aC,cm,ZZ];rfl
   omega
  ·have h1:=iT _ _ _ x hxm;unfold dv at hob;omega
 have gen:∀ l:List Nat,(∀ x∈l,x<=4000000000)->(bR l).length<=20*l.length:=by
  intro l;induction l with
  | nil=>intro _;simp [bR]
  | cons a r ih=>
   intro h;have h1:=ih (fun x hx=>h x (by simp [hx]));have h2:=kP a (by have:=h a (by simp);omega);simp only [bR,ux,ZZ,ZY,ZW];omega
 have hrw:=gen _ hbgx;obtain ⟨bg,hbg⟩:∃ b,eH (aA xs) (aQ xs) (ax ms) t.data.toList=b:=⟨_,rfl⟩;obtain ⟨cat,hc⟩:∃ b,l7 (cK (aA xs)) (aQ xs) (ax ms) t.data.toList=b:=⟨_,rfl⟩;obtain ⟨inf,hi⟩:∃ b,fo (cK (aA xs)) (aQ xs) (ax ms) t.data.toList=b:=⟨_,rfl⟩;obtain ⟨O,hO⟩:∃ b,dv (aA xs) (aQ xs) (ax ms) t.data.toList=b:=⟨_,rfl⟩;obtain ⟨U,hU⟩:∃ b,aC (aA xs)=b:=⟨_,rfl⟩;rw [fO,xS,hbg,hc,hi,hO,hU];rw [hbg] at hrw hbgl;rw [hc] at hcat;rw [hi] at hinfo;rw [hO] at hob;rw [hU] at hup;have l1:=av ((bg.length+1:Nat):Int) (by omega) (by omega);have l2:=bm [47,82,111,111,116] (cat:Int) 5 (by simp) (by omega) (by omega);have l3:=bm [47,73,110,102,111] (inf:Int) 5 (by simp) (by omega) (by omega);have l4:=av ((U.length+O.length:Nat):Int) (by omega) (by omega);simp only [iE,fu,iL,ZZ,ZY,ZW];omega
theorem we.thing (n:Wn) (s:St) (xs:List iB):aJ n.B (we n s xs) where
 keep:=by
  rintro w w' S ⟨a,b,c,d,h⟩ hk hz;exact ⟨a,b,c,d,(Wn.idle_thing n s xs _).keep h hk hz⟩
 lt:=by
  rintro w S k ⟨a,b,c,d,h⟩ hk;exact (Wn.idle_thing n s xs _).lt h hk
 ge:=by
  rintro w S k ⟨a,b,c,d,h⟩ hk;exact (Wn.idle_thing n s xs _).ge h hk
def Av (n:Wn) (s:St):As:=fun w S=>∃ xs,we n s xs w S
theorem Av.thing (n:Wn) (s:St):aJ n.B (Av n s) where
 keep:=by rintro w w' S ⟨xs,h⟩ hk hz;exact ⟨xs,(we.thing n s xs).keep h hk hz⟩
 lt:=by rintro w S k ⟨xs,h⟩ hk;exact (we.thing n s xs).lt h hk
 ge:=by rintro w S k ⟨xs,h⟩ hk;exact (we.thing n s xs).ge h hk
theorem RW.open {B y:Nat} {s:St} {w:World} {S:Bl} (h:RW B y s w S):∃ ps vp vm,ps.map (·.2)=s.pages/\y < w.heap.size/\(∀ (j:Nat) u,(jP s vp vm)[j]? =some u->w.cell? (zq y j)=some u)/\yy vp ps w/\fB vm s.marks.length (iz s.marks) w:=by
 obtain ⟨ps,vp,vm,hp,S1,S2,h1,h2,_⟩:=h;obtain ⟨a,b⟩:=h2.pgl;exact ⟨ps,vp,vm,hp,h1.2.2.1,fun j u hj=>h1.at j u hj,a,b⟩
theorem vU (n:Wn) (y:Nat) (s:St) (xs:List iB) (w:World) (S:Bl) (hxl:xs.length<=80) (hB:n.B<=w.heap.size) (ht:bU n.B w) (h:ah (we n s xs) (RW n.B y s) w S):
  QB 29 #[.agg #[zp n.Wb,zp y]] w true:=by
 obtain ⟨S1,S2,hW,hR,_,_⟩:=h;obtain ⟨ps,vp,vm,hps,hy,hcell,hPg,_⟩:=hR.open;have hxp:xs.map (·.2)=s.pages:=hW.2.2.2.1;have hx:=hW.1;have hpl:ps.length=xs.length:=by
  have e1:=congrArg List.length hps;have e2:=congrArg List.length hxp;simp at e1 e2;omega
 obtain ⟨⟨ady,capy,hvp,hc1,hc2,hc3⟩,hlo⟩:=id hPg;have hup:=cN hx hxl;obtain ⟨bs,hbs⟩:∃ b:ByteArray,b=⟨(aC (aA xs)).toArray⟩:=⟨_,rfl⟩;have hbd:bs.data.toList=aC (aA xs):=by rw [hbs]
 have hbz:bs.size=(aC (aA xs)).length:=by rw [<-aP,hbd]
 obtain ⟨ys,hys⟩:∃ ys:List (List UInt8×List bj),xs.reverse.map (fun x=>(x.1,x.2.2.2))=ys:=⟨_,rfl⟩;have hysl:ys.length=xs.length:=by rw [<-hys];simp
 have hys1:ys.map (·.1)=aA xs:=by rw [<-hys,aA,Ym];rfl
 have hys2:(ys.map (·.2)).reverse=xs.map (·.2.2.2):=by
  rw [<-hys,Ym, <-List.map_reverse,List.reverse_reverse];rfl
 have hok:∀ x∈ys,Pm.bP x.1=some (bE x.2,x.1.length)/\(bE x.2).length<=1048576/\∀ o∈x.2,o.is:=by
  intro x hxm;rw [<-hys] at hxm;simp only [YN,Yv] at hxm;obtain ⟨z,hz,rfl⟩:=hxm;obtain ⟨a1,a2,a3,_⟩:=hx z hz;exact ⟨a1,a2,a3⟩
 have hat:∀ i,i < ps.length->∃ z,ps.reverse[i]? =some z/\z∈ps/\qr ps i=z.1:=by
  intro i hi;have hz:ps.reverse[i]? =some (ps.reverse[i]'(by simpa using hi)):=ZK (by simpa using hi);refine ⟨_,hz,Yv.1 (Ys hz),?_⟩;unfold qr;rw [YT,hz];rfl
 refine ul w (zp n.Wb) y ps.length capy ady ((ady.getD ⟨0,0,none⟩).block) rfl bs (qr ps) ?_ (by omega) ?_ hc1 hc2
  (fun r c w1=>∃ wx,Below w w wx/\r=wx.heap.size+1/\c=wx.heap.size/\uq n.B wx bs ys ys.length w1)
  _ hy ?_ ?_ ?_ ?_ ?_ ?_ (by omega) ?_
 ·intro i hi;obtain ⟨z,_,hz,e⟩:=hat i hi;obtain ⟨a,b,hv,_⟩:=hlo z hz;rw [e,hv];exact ⟨rfl,_,_,_,rfl⟩
 ·intro h0;obtain ⟨b,rfl,_⟩:=hc3 h0;rfl
 ·intro h0;obtain ⟨b,rfl,hb,_⟩:=hc3 h0;exact hb
 ·have:=hcell 1 vp rfl;rw [hvp] at this;exact this
 ·intro i hi;obtain ⟨b,rfl,hb,hcc⟩:=hc3 (by omega);obtain ⟨z,hz,_,e⟩:=hat i hi;rw [e];exact hcc _ _ (pR ps i z hz).2.2
 ·intro wx hbx;have:=rZ n s xs wx S1 hxl ((we.thing n s xs).grow hW hbx);rw [<-hbs] at this;exact this
 ·intro wx hbx;refine (nC wx n.B bs ys [] (ZN hB hbx.size) (ht.on (hbx.mono hB)) (by omega) (by omega) (by rw [hys1,hbd,Zm]) hok ?_).mono ?_
  ·refine au.none ?_;rw [hys1, <-hbz];simp only [ZZ,ZY,ZW];omega
  ·rintro e w1 ⟨rfl,hP⟩;obtain ⟨_,_,S3,_,_,m3⟩:=id hP;exact ⟨_,_,rfl,⟨wx,hbx,rfl,rfl,hP⟩,m3.below (fun k e=>e.elim) (ZX _)⟩
 ·rintro r c w1 ⟨wx,hbx,rfl,rfl,vp9,l,S3,h3,hl,m3⟩;obtain ⟨S4,h4,_,_⟩:=ah.snd (dh.thing _ _) h3;obtain ⟨S5,h5,_,_⟩:=ah.fst (aW.thing _ _ _ _ _ _) h4;obtain ⟨S6,h6,_,_⟩:=ah.snd (dq.thing _ _ _ _ _ _ _ _ _) h4;obtain ⟨ad,cap,rfl⟩:=h6.form;obtain ⟨_,_,d0,_,d2,_,_,_,hr⟩:=h5.read;obtain ⟨S7,h7⟩:=h5.cur;have e9:(aC ((ys.map (·.1)).take ys.length)).length=bs.size:=by
   rw [ZF (by simp),hys1,hbz]
  have d1:=h7.at 1 _ rfl;rw [e9] at d1;rw [hysl, <-hpl] at d2;exact ⟨d0,d1,h7.at 0 _ rfl,hr,ad,cap,d2⟩
 ·rintro r c w1 wx v ad cap ⟨wu,hbu,rfl,rfl,vp9,l,S3,h3,hl,m3⟩ hcr hbx ow;have bw1:Below w w w1:=hbu.trans ((m3.below (fun k e=>e.elim) (ZX _)).mono hbu.size);have bwx:Below w w wx:=bw1.trans (hbx.mono bw1.size);obtain ⟨R1,R2,hO,hRP,_⟩:=h3;obtain ⟨R3,R4,hRd,hRow,_⟩:=hRP;obtain ⟨_,_,_,_,d2,_⟩:=hRd.read;rw [hcr] at d2;have ev:Value.slice ad ps.length cap=vp9:=Zd d2;subst ev;have hll:l.length=ps.length:=by
   have e:=congrArg List.length hl;simp at e;omega
  have hlx:l.map (·.2)=xs.map (·.2.2.2):=by
   rw [hl,ZF (ZX _),hys2]
  have hL1:yy (.slice ad ps.length cap) (l.map fun x=>(x.1,((0:Int),(0:Int),x.2))) w1:=by
   refine ⟨?_,fun x hx=>?_⟩
   ·rw [<-pI,YG,hll];have:=hRow.lies;rw [hysl, <-hpl] at this;exact this
   ·obtain ⟨z,hz,rfl⟩:=YN.1 hx;exact dh.lies hO z hz
  have hL2:yy v (jF ps) wx:=by
   refine ⟨?_,fun x hx=>?_⟩
   ·rw [<-xz];have hlz:(jF ps).length=ps.length:=by simp [jF]
    rw [hlz];exact aW.lies (S:=ob v) ⟨rfl,ow⟩
   ·obtain ⟨z,hz,rfl⟩:=YN.1 hx;exact (hlo z hz).on bwx
  have he:(l.map fun x=>(x.1,((0:Int),(0:Int),x.2))).map (·.2)=(jF ps).map (·.2):=by
   have e1:(l.map fun x=>(x.1,((0:Int),(0:Int),x.2))).map (·.2)=(l.map (·.2)).map fun o=>((0:Int),(0:Int),o):=by simp only [Ym];rfl
   have e2:(jF ps).map (·.2)=(ps.map (·.2)).map fun o=>((0:Int),(0:Int),o.2.2):=by simp only [jF,Ym];rfl
   rw [e1,e2,hlx,hps, <-hxp];simp only [Ym];rfl
  refine (js wx _ v _ _ (hL1.on hbx) hL2 he (by rw [YG];omega) (fun x hx9=>?_)).mono ?_
  ·obtain ⟨z,hz,rfl⟩:=YN.1 hx9;have hzm:z.2∈l.map (·.2):=YN.2 ⟨z,hz,rfl⟩;rw [hlx] at hzm;obtain ⟨u,hu,e⟩:=YN.1 hzm;have h1:=nE z.2;have h2:=(hx u hu).2.1;rw [e] at h2;show z.2.length<=1000000000
   omega
  ·rintro e w9 ⟨rfl,b9⟩;exact ⟨rfl,rfl,bwx.trans (b9.mono bwx.size)⟩
def Pr (n:Wn) (y:Nat) (s:St):As:=ah (WD n s) (RW n.B y s)
theorem Pr.thing (n:Wn) (y:Nat) (s:St):aJ n.B (Pr n y s):=ah.thing (WD.thing n s) (RW.thing n.B y s)
def yU (n:Wn) (y:Nat) (w:World) (S:Bl) (e:Ending) (w':World):Prop:=e=.returned true/\∃ s' S',s'.ok/\s'.fine/\Pr n y s' w' S'/\Mv S w S' w'
theorem Pr.flags {n:Wn} {y:Nat} {s:St} {P:As} {w:World} {S:Bl} (h:ah P (RW n.B y s) w S):w.cell? (zq y 3)=s.op/\w.cell? (zq y 15)=s.cl:=by
 obtain ⟨S1,S2,_,hR,_⟩:=h;obtain ⟨ps,vp,vm,_,_,hc,_⟩:=hR.open;exact ⟨hc 3 _ rfl,hc 15 _ rfl⟩
theorem jY (n:Wn) (y:Nat) (s:St) (w0 w:World) (S:Bl) (b:Nat) (Z:Ending->World->Prop) (hok:s.ok) (hfine:s.fine) (hcl:s.cl=true) (hB:n.B<=w.heap.size) (ht:bU n.B w) (h:Pr n y s w S)
  (HZ:∀ w9,Below w w w9->Z (.returned true) w9):
  ∃ (bs ti:ByteArray) (up um:Value),Hid (QE 20 #[zp n.Wb] w bs)/\Hid (CP 30 #[bs] w fun e w'=>∃ vp vm:Value,e=.returned (.tuple #[.agg #[ti,vp,vm],oz])/\vp.oneCell'=true/\vm.oneCell'=true/\w'.rangeAt y 0 [.string ti,up,um]/\y < w'.heap.size/\aM b w w'/\∀ wx,Below w' w' wx->CP 31 #[.agg #[ti,vp,vm],.agg #[ti,up,um]] wx fun e w9=>e=.returned true/\Z (.returned true) w9):=by
 obtain ⟨S1,S2,hW,hR,_,_⟩:=h;obtain ⟨ps,vp,vm,hps,hy,hcell,hPg,hMk⟩:=hR.open;obtain ⟨xs,hx,⟨_,hxp,hcd⟩ | ⟨a,_⟩ | ⟨a,_⟩⟩:=hW
 case inr.inl=>exact absurd (hcl.symm.trans a) (by simp)
 case inr.inr=>exact absurd (hcl.symm.trans a) (by simp)
 have hpl:s.pages.length=xs.length:=by rw [<-hxp];simp
 have hp80:=hok.pages;have hmm:∀ m∈s.marks,m.1.size<=100/\m.2<=80:=fun m hm=>by have:=hfine.marks m hm;omega
 have hfl:=uZ s.marks s.title hx (by omega) hfine.title hok.marks hmm;have hmk:s.mks=ax s.marks:=rfl;obtain ⟨bs,hbs⟩:∃ b:ByteArray,b=⟨(fO (aA xs) (aQ xs) (ax s.marks) s.title.data.toList).toArray⟩:=⟨_,rfl⟩;have hbd:bs.data.toList=fO (aA xs) (aQ xs) (ax s.marks) s.title.data.toList:=by rw [hbs]
 have hbz:bs.size<=2000000000:=by rw [<-aP,hbd];omega
 refine ⟨bs,s.title,vp,vm,?_,?_⟩
 ·have:=oE n s xs w S1 (by rw [hmk];omega) hcd;rw [hmk, <-hbs] at this;exact this
 ·refine (xn w n.B bs xs s.marks s.title hB ht hbd hbz hx (by omega) hfine.title hok.marks (fun m hm=>by have:=hfine.marks m hm;omega) hfine.up).mono ?_;rintro e w1 ⟨up,um,rfl,o1,o2,S3,⟨qs,hqs,hD⟩,m3⟩;have hb:Below w w w1:=m3.below (fun k e=>e.elim) (ZX _);obtain ⟨hPq,hMq⟩:=hD.pgl;refine ⟨up,um,rfl,o1,o2,?_,ZR hy hb.size,m3.keepB (fun k e=>e.elim),?_⟩
  ·intro j v hv;rw [Zc];refine (hb.cell (p:=zq y j) hy).trans (hcell j v ?_)
   match j,hv with
   | 0,hv=>exact hv
   | 1,hv=>exact hv
   | 2,hv=>exact hv
   | (j+3),hv=>simp at hv
  ·intro wx hbx;refine (xO wx s.title up vp um vm qs ps s.marks (hPq.on hbx) (hPg.on (hb.trans (hbx.mono hb.size))) (by rw [hqs,hps,hxp]) ?_ ?_ hok.marks (hMq.on hbx) (hMk.on (hb.trans (hbx.mono hb.size)))).mono ?_
   ·have e:=congrArg List.length hqs;simp at e;omega
   ·intro x hxm;have hm:x.2∈qs.map (·.2):=YN.2 ⟨x,hxm,rfl⟩;rw [hqs] at hm;obtain ⟨u,hu,e⟩:=YN.1 hm;have h1:=nE x.2.2.2;have h2:=(hx u hu).2.1;rw [e] at h2;omega
   ·rintro e w9 ⟨rfl,b9⟩;have bx:=hb.trans (hbx.mono hb.size);exact ⟨rfl,HZ w9 (bx.trans (b9.mono bx.size))⟩
end Go.Proofs.YtbklfkpjoinofaaGreatDoor
