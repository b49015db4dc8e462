import Derived.Test.YtbklfkpjoinofaaGreatDoorA40
import Derived.Test.YtbklfkpjoinofaaGreatDoorA41
import Derived.Test.YtbklfkpjoinofaaGreatDoorA42
import Derived.Test.YtbklfkpjoinofaaGreatDoorA43
set_option linter.all false
set_option maxRecDepth 100000
set_option maxHeartbeats 8000000
namespace Go.Proofs.YtbklfkpjoinofaaGreatDoor
open Go.RowKit Go.Proofs.Tryz
theorem au.noAt {s:ByteArray} {a:Nat} (p x y:List UInt8) (j:Nat) (u v:UInt8) (h:au s a (p++x)) (hx:x[j]? =some u) (hy:y[j]? =some v) (hne:u≠v):¬ au s a (p++y):=by
 intro g;obtain ⟨lx,ex⟩:=Zv.1 hx;obtain ⟨ly,ey⟩:=Zv.1 hy;obtain ⟨_,e1⟩:=h.right.get j lx;obtain ⟨_,e2⟩:=g.right.get j ly;exact hne (by rw [<-ex, <-ey, <-e1, <-e2])
def ja (i:Nat) (W H:Int):List (Value×(Int×Int×List bj))->List (Value×(Int×Int×List bj))
 | []=>[]
 | x::l=>if l.length=i then (x.1,(W,H,x.2.2.2))::l else x::ja i W H l
theorem jG (W H:Int) (x:Value×(Int×Int×List bj)) (q:List (Value×(Int×Int×List bj))):∀ A,ja q.length W H (A++x::q)=A++(x.1,(W,H,x.2.2.2))::q
 | []=>by simp [ja]
 | a::A=>by
  rw [Zy,ja,ZU (by simp;omega),jG W H x q A];rfl
theorem qZ (i:Nat) (W H:Int):∀ q:List (Value×(Int×Int×List bj)),i < q.length->((iy q).set (i*3) (.int .i64 W)).set (i*3+1) (.int .i64 H)=iy (ja i W H q)
 | [],h=>by simp at h
 | x::l,h=>by
  have hl:=eT l;by_cases hi:l.length=i
  ·subst hi;rw [ja,ZO rfl];simp only [iy];rw [XH _ _ (by omega),XH _ _ (by omega)];have e1:l.length*3 - (iy l).length=0:=by omega
   have e2:l.length*3+1 - (iy l).length=1:=by omega
   rw [e1,e2];rfl
  ·have hil:i < l.length:=by simp at h;omega
   rw [ja,ZU hi];simp only [iy];rw [List.set_append_left _ _ (by omega),List.set_append_left _ _ (by rw [List.length_set];omega),qZ i W H l hil]
theorem pI:∀ l:List (Value×List bj),xR l=iy (l.map fun x=>(x.1,((0:Int),(0:Int),x.2)))
 | []=>rfl
 | x::l=>by simp only [xR,YC,iy,pI l]
theorem mO (font p:Nat):∀ (l:List (Int×Int)) (i k:Nat) (hk:k < l.length),(cA font p i l)[k]? =some (vO font p (i+k) l[k])
 | [],_,_,hk=>by simp at hk
 | x::l,i,0,_=>by simp [cA]
 | x::l,i,k+1,hk=>by
  have:=mO font p l (i+1) k (by simpa using hk);simp only [cA,List.getElem?_cons_succ,List.getElem_cons_succ];rw [this];congr 2;omega
def fy (xs:List iB) (l:List (Value×List bj)) (i:Nat) (q:List (Value×(Int×Int×List bj))):Prop:=kg q=l/\∃ A Q,q=A++Q/\Q.length=i/\Q.map (·.2)=(xs.drop (xs.length - i)).map (·.2)
theorem fy.start (xs:List iB) (l:List (Value×List bj)):fy xs l 0 (l.map fun x=>(x.1,((0:Int),(0:Int),x.2))):=by
 refine ⟨?_,_,[],(Zm _).symm,rfl,by simp⟩;simp only [kg,Ym]
 conv=>rhs;rw [<-List.map_id l]
 exact Yi fun a _=>rfl
theorem fy.step {xs:List iB} {l:List (Value×List bj)} {i:Nat} {q:List (Value×(Int×Int×List bj))} (h:fy xs l i q) (hl:l.map (·.2)=xs.map (·.2.2.2)) (hi:i < xs.length) (z:iB) (hz:z=xs[xs.length - 1 - i]'(by omega)):fy xs l (i+1) (ja i z.2.1 z.2.2.1 q):=by
 obtain ⟨ho,A,Q,hq,hQ,hm⟩:=h;have hll:l.length=xs.length:=by have:=congrArg List.length hl;simpa using this
 have hql:q.length=xs.length:=by have:=congrArg List.length ho;simp [kg] at this;omega
 have hAl:A.length=xs.length - i:=by
  have:=congrArg List.length hq;simp at this;omega
 have hA0:A≠[]:=fun e=>by subst e;simp at hAl;omega
 obtain ⟨A',x,rfl⟩:∃ A' x,A=A'++[x]:=⟨A.dropLast,A.getLast hA0,(List.dropLast_concat_getLast hA0).symm⟩;have hA':A'.length=xs.length - 1 - i:=by simp at hAl;omega
 have hq2:q=A'++x::Q:=by rw [hq];simp
 have hzi:xs[xs.length - 1 - i]? =some z:=by rw [ZK (by omega),hz]
 have hxo:x.2.2.2=z.2.2.2:=by
  have h1:(l.map (·.2))[A'.length]? =some x.2.2.2:=by
   rw [<-ho,hq2];simp [kg]
  rw [hl] at h1;rw [YT,hA',hzi] at h1;simpa using h1.symm
 have hdr:xs.drop (xs.length - 1 - i)=z::xs.drop (xs.length - 1 - i+1):=by rw [YZ (by omega),hz]
 clear hz hzi;refine ⟨?_,A',(x.1,(z.2.1,z.2.2.1,x.2.2.2))::Q,?_,by simp [hQ],?_⟩
 ·rw [<-ho,hq2, <-hQ,jG];simp [kg]
 ·rw [hq2, <-hQ,jG]
 ·have e1:xs.length - (i+1)=xs.length - 1 - i:=by omega
  have e2:xs.length - i=xs.length - 1 - i+1:=by omega
  rw [e1,hdr,YC,YC,hm,e2];congr 1;rw [hxo]
theorem fy.done {xs:List iB} {l:List (Value×List bj)} {q:List (Value×(Int×Int×List bj))} (h:fy xs l xs.length q) (hl:l.length=xs.length):q.map (·.2)=xs.map (·.2):=by
 obtain ⟨ho,A,Q,hq,hQ,hm⟩:=h;have hql:q.length=xs.length:=by have:=congrArg List.length ho;simp [kg] at this;omega
 have hA:A=[]:=by
  have:=congrArg List.length hq;simp at this;exact Zh (by omega)
 subst hA;rw [hq,Yx,hm];simp
def Wn.at (B b:Nat) (lim:Int):Wn:=⟨B,b,b+1,b+2,b+3,b+4,lim⟩
theorem i6 (k:Nat):¬ ob (.slice none 0 0) k:=fun e=>by simp [ob,Value.ownBlock] at e
theorem WD.new (B:Nat) (w:World) (lim:Int) (hB:B<=w.heap.size) (hl:lim < 0) (hl2:-9223372036854775808<=lim):∃ S,WD (Wn.at B w.heap.size lim) St.new (fU w lim) S/\∀ k,S k->w.heap.size<=k:=by
 obtain ⟨u1,hu1⟩:∃ u,u=w.alloc (.cells #[lim,.slice none 0 0,false] 153):=⟨_,rfl⟩;have z1:u1.heap.size=w.heap.size+1:=by rw [hu1];simp
 have k1:jp B w.heap.size lim u1 (cC w.heap.size) []:=by
  have hc:aS B w.heap.size [.int .i64 lim,.slice none 0 0,.bool false] u1 (cC w.heap.size):=by rw [hu1];exact aS.alloc hB
  refine ⟨.slice none 0 0,⟨hc.at 0 _ rfl,hc.at 1 _ rfl,hc.at 2 _ rfl,hc.fz,Yq _ _ _ _,by simp [Value.ownBlock],by omega,by omega,?_,hl2,by omega⟩,?_,hB⟩
  ·first
    | exact .inl hl
    | (unfold uU;omega)
    | (unfold uU;simp;omega)
  ·funext k
   exact propext ⟨.inl,fun e=>e.elim id (fun e=>(i6 k e).elim)⟩
 obtain ⟨u2,hu2⟩:∃ u,u=u1.alloc (.cells #[.iface 89 (zp w),oz] 208):=⟨_,rfl⟩;have z2:u2.heap.size=w.heap.size+2:=by rw [hu2];simp [z1]
 have g2:af u1 u2:=by rw [hu2];exact aN _ _
 have c2:aS B (w.heap.size+1) [.iface 89 (zp w),.int .i64 0] u2 (cC (w.heap.size+1)):=by rw [hu2, <-z1];exact aS.alloc (by omega)
 have k2:CK (jp B w.heap.size lim) B (w.heap.size+1) 0 89 (zp w) u2 (cT (cC (w.heap.size+1)) (cC w.heap.size)) []:=by
  refine ⟨cC w.heap.size,(jp.thing B w.heap.size lim []).keep k1 (fun k hk=>g2.block k ((jp.thing B w.heap.size lim []).lt k1 hk)) g2.size,rfl,by omega,fun e=>by have:w.heap.size+1=w.heap.size:=e;omega,by omega,ZX _,c2.at 0 _ rfl,c2.at 1 _ rfl,c2.fz⟩
 have T2:=CK.thing (jp.thing B w.heap.size lim) (w.heap.size+1) 0 89 (zp w) [];obtain ⟨u3,hu3⟩:∃ u,u=u2.alloc (.cells #[zp (w.heap.size+1),.slice none 0 0,.slice none 0 0] 166):=⟨_,rfl⟩;have z3:u3.heap.size=w.heap.size+3:=by rw [hu3];simp [z2]
 have g3:af u2 u3:=by rw [hu3];exact aN _ _
 have c3:aS B (w.heap.size+2) [.pointer (some ⟨w.heap.size+1,0,none⟩),.slice none 0 0,.slice none 0 0] u3 (cC (w.heap.size+2)):=by rw [hu3, <-z2];exact aS.alloc (by omega)
 have f3:FB B (w.heap.size+2) (w.heap.size+1) [] [] u3 (cT (cC (w.heap.size+2)) (cT (ob (.slice none 0 0)) (ob (.slice none 0 0)))):=⟨.slice none 0 0,.slice none 0 0,_,_,c3,⟨_,_,aW.nil _ _ _ _,aW.nil _ _ _ _,fun k e=>(i6 k e).elim,rfl⟩,fun k _ e=>e.elim (i6 k) (i6 k),rfl⟩;obtain ⟨h3,m3⟩:=ah.new T2 k2 f3 g3 (fun k e=>e.elim (fun e=>by have:k=w.heap.size+2:=e;omega) (fun e=>(e.elim (i6 k) (i6 k)).elim));have T3:=aX.thing (jp.thing B w.heap.size lim) (w.heap.size+2) (w.heap.size+1) 89 (zp w) [] [] [];obtain ⟨u4,hu4⟩:∃ u,u=u3.alloc (.cells #[zp w.heap.size,zp (w.heap.size+2),.pointer none,oz,.string ⟨#[]⟩,.slice none 0 0] 93):=⟨_,rfl⟩;have z4:u4.heap.size=w.heap.size+4:=by rw [hu4];simp [z3]
 have g4:af u3 u4:=by rw [hu4];exact aN _ _
 have c4:aS B (w.heap.size+3) [.pointer (some ⟨w,0,none⟩),.pointer (some ⟨w.heap.size+2,0,none⟩),.pointer none,.int .i64 0,.string ⟨#[]⟩,.slice none 0 0] u4 (cC (w.heap.size+3)):=by rw [hu4, <-z3];exact aS.alloc (by omega)
 have r4:de B (w.heap.size+3) w.heap.size (w.heap.size+2) (.pointer none) 0 ⟨#[]⟩ 0 [] u4 (cT (cC (w.heap.size+3)) (ob (.slice none 0 0))):=⟨.slice none 0 0,_,_,c4,aW.nil _ _ _ _,fun k _ e=>i6 k e,rfl⟩;obtain ⟨h4,m4⟩:=ah.new T3 h3 r4 g4 (fun k e=>e.elim (fun e=>by have:k=w.heap.size+3:=e;omega) (fun e=>(i6 k e).elim));have T4:=ah.thing (de.thing B (w.heap.size+3) w.heap.size (w.heap.size+2) (.pointer none) 0 ⟨#[]⟩ 0 []) T3;obtain ⟨u5,hu5⟩:∃ u,u=u4.alloc (.cells #[zp (w.heap.size+3)] 72):=⟨_,rfl⟩;have g5:af u4 u5:=by rw [hu5];exact aN _ _
 have c5:aS B (w.heap.size+4) [.pointer (some ⟨w.heap.size+3,0,none⟩)] u5 (cC (w.heap.size+4)):=by rw [hu5, <-z4];exact aS.alloc (by omega)
 obtain ⟨h5,m5⟩:=ah.new T4 h4 c5 g5 (fun k e=>by have:k=w.heap.size+4:=e;omega);have hu:fU w lim=u5:=by rw [hu5,hu4,hu3,hu2,hu1];rfl
 rw [hu];refine ⟨_,⟨[],fun x hx=>by simp at hx,.inr (.inl ⟨rfl,rfl,rfl,[],.inl ⟨rfl,rfl⟩,h5⟩)⟩,?_⟩;rintro k (e | (e | e) | (e | e | e) | e | e)
 ·have:k=w.heap.size+4:=e;omega
 ·have:k=w.heap.size+3:=e;omega
 ·exact (i6 k e).elim
 ·have:k=w.heap.size+2:=e;omega
 ·exact (i6 k e).elim
 ·exact (i6 k e).elim
 ·have:k=w.heap.size+1:=e;omega
 ·have:k=w.heap.size:=e;omega
def we (n:Wn) (s:St) (xs:List iB):As:=fun w S=>(∀ x∈xs,kx x)/\s.cl=false/\s.op=false/\xs.map (·.2)=s.pages/\n.idle s xs (aC (aA xs)) w S
theorem we.wd {n:Wn} {s:St} {xs:List iB} {w:World} {S:Bl} (h:we n s xs w S):WD n s w S:=⟨xs,h.1,.inr (.inl ⟨h.2.1,h.2.2.1,h.2.2.2.1,_,.inr rfl,h.2.2.2.2⟩)⟩
theorem rZ (n:Wn) (s:St) (xs:List iB) (w:World) (S:Bl) (hl:xs.length<=80) (h:we n s xs w S):QE 20 #[zp n.Wb] w (.string ⟨(aC (aA xs)).toArray⟩):=by
 obtain ⟨c0,r0,_,_,_,_,_,_,_,R,hk⟩:=Wn.idle_read h.2.2.2.2;have:=cN h.1 hl;exact pd w n.B n.Wb n.Rb n.T n.lim R _ c0 r0 hk (by omega)
theorem oE (n:Wn) (s:St) (xs:List iB) (w:World) (S:Bl) (hl:(fO (aA xs) (aQ xs) s.mks s.title.data.toList).length<=2000000000) (h:n.closed s xs w S):QE 20 #[zp n.Wb] w (.string ⟨(fO (aA xs) (aQ xs) s.mks s.title.data.toList).toArray⟩):=by
 obtain ⟨c0,r0,_,_,_,R,hk⟩:=Wn.closed_read h;exact pd w n.B n.Wb n.Rb n.T n.lim R _ c0 r0 hk hl
theorem qI (n:Wn) (s:St) (w:World) (S:Bl) (hlim:n.lim < 0) (hok:s.ok) (hc:s.cl=false) (hop:s.op=false) (h:WD n s w S):CP 38 #[zp n.Wb] w fun e w'=>e=.returned (0:Int)/\∃ xs S',we n s xs w' S'/\Mv S w S' w':=by
 have HR:=dV n s w S h;obtain ⟨xs,X,hx,c,d,h⟩:=h.rests hc hop;obtain ⟨_,_,_,r1,_⟩:=Wn.idle_read h;have hxl:xs.length=s.pages.length:=by rw [<-c];simp
 have hp80:=hok.pages;have hbeg:=fX d;have hup:=cN hx (by omega);have hXl:X.length<=100000000:=by
  have h2:(X++eW X).length<=100000000:=by rw [hbeg];exact hup
  simp at h2;omega
 refine jD w _ n.Rb n.Fb _ r1 HR (et:=0) (ev:=.int .i64 0) ?_;intro qn;have hiq:=(Wn.idle_thing n s xs X).drewN h qn;obtain ⟨Sf,hf,_,backf⟩:=ah.third (aS.thing _ _ _) (de.thing _ _ _ _ _ _ _ _ _) hiq;refine (jj (n.down hlim) (ZX _) (w.drewN qn) Sf n.Fb n.C _ _ X hf (by omega)).mono ?_;rintro e w' (⟨_,rfl,S',hf',m⟩ | ⟨hno,_⟩)
 ·rw [hbeg] at hf';obtain ⟨S2,h2,m2⟩:=backf _ _ _ hf' m;exact .inl ⟨rfl,rfl,xs,S2,⟨hx,hc,hop,c,h2⟩,m2.undrew⟩
 ·exact absurd trivial hno
theorem Aq (n:Wn) (s:St) (w:World) (S:Bl) (hlim:n.lim < 0) (hok:s.ok) (hB:n.B<=w.heap.size) (ht:bU n.B w) (hd:s.drawing=true) (h:WD n s w S):CP 33 #[zp n.Wb] w fun e w'=>e=.returned (0:Int)/\∃ xs S',we n {s with op:=false} xs w' S'/\Mv S w S' w':=by
 have HR:=em n s w S hok h;rw [hd] at HR;obtain ⟨hop,hl0⟩:=St.drawing_of hd;obtain ⟨xs,hx,⟨a,_,h⟩ | ⟨a,b,c,X,d,h⟩ | ⟨hc,b,W,H,ops,l,Pg,Cd,P,Cp,st,Y,hpl,hxl,hW,hH,hfit,hPI,h261,h⟩⟩:=h
 ·exact absurd (hop.symm.trans (hok.shut a)) (by simp)
 ·exact absurd (hop.symm.trans b) (by simp)
 have hpart:s.part=[]:=by simp [St.part,hl0]
 have hsz:s.size=(bE ops).length:=by have:=hfit.2;rw [ZO hl0] at this;exact this
 have hxn:xs.length+1<=80:=by
  have:=hok.pages;rw [hpl] at this;have e:xs.length=l.length:=by rw [<-hxl];simp
  simp at this;omega
 have hup:=cN hx (by omega);refine jW w _ n.Rb _ HR ?_;intro qn;have hiq:=(Wn.drawn_thing n s xs W H ops Pg Cd P Cp st Y).drewN h qn;obtain ⟨_,_,_,_,r2,_⟩:=Wn.drawn_read hiq;obtain ⟨Sp,hp,_,backp⟩:=ah.third (aS.thing _ _ _) (de.thing _ _ _ _ _ _ _ _ _) hiq;have ho1:=eK (2*xs.length+1) (by omega);have ho2:=gn (2*xs.length+2) (by omega);have hcl:(be 9 0 (aA xs)++[(aC (aA xs)).length]).length=2*xs.length+1:=by rw [ZZ,dy,jS];rfl
 have hPE:=ll (n.down hlim) (ZX _) (w.drewN qn) Sp n.Fb n.C Pg Cd P Cp _ _ st _ Y _ hp hPI hB (ht.on (cU (ZV _ w))) (by omega) (by simp only [ZZ];omega);rw [hcl] at hPE;refine iq (w.drewN qn) n.Rb Pg (fun w1=>∃ S',aX n.K n.B n.Fb n.C 89 n.sk (be 9 0 (aA ((Y++aV st,(W,H,ops))::xs))) (aQ ((Y++aV st,(W,H,ops))::xs)) (aC (aA ((Y++aV st,(W,H,ops))::xs))) w1 S'/\kx (Y++aV st,(W,H,ops))/\Mv Sp (w.drewN qn) S' w1) (fun _=>False) _ r2 (et:=0) (ev:=.int .i64 0) ?_ ?_ ?_
 ·refine hPE.mono ?_;rintro e w' (⟨_,rfl,S',⟨hf,hu,h8,_⟩,m⟩ | ⟨hno,_⟩)
  ·refine .inl ⟨rfl,S',?_,⟨?_,by show (bE ops).length<=1048576;rw [<-hsz];exact hok.size,hfit.1,?_,hW,hH⟩,m⟩
   ·rw [o9,pf,nI,oZ,jS];have e1:be 9 0 (aA xs)++[(aC (aA xs)).length,(aC (aA xs)).length+(aL (2*xs.length+1)++cX (2*xs.length+2)).length+(Y++aV st).length+18]=be 9 0 (aA xs)++[(aC (aA xs)).length]++[(aC (aA xs)++(aL (2*xs.length+1)++cX (2*xs.length+2))).length+(Y++aV st).length+18]:=by
     have hlen:(aC (aA xs)++(aL (2*xs.length+1)++cX (2*xs.length+2))).length=(aC (aA xs)).length+(aL (2*xs.length+1)++cX (2*xs.length+2)).length:=ZZ;rw [hlen,ZQ];rfl
    have e2:aC (aA xs)++d_ xs.length (Y++aV st)=aC (aA xs)++(aL (2*xs.length+1)++cX (2*xs.length+2))++(Y++l0 (2*xs.length+1+1) st Y):=by
     simp only [d_,l0,ZQ]
    rw [e1,e2];exact hf
   ·simpa [hpart] using hu
   ·simpa [hpart] using h8
  ·exact absurd trivial hno
 ·rintro w1 ⟨S',hf,hgx,m⟩;obtain ⟨S2,h2,m2⟩:=backp _ _ _ hf m;obtain ⟨S3,hr3,_,back3⟩:=ah.mid (aS.thing _ _ _) (aX.thing (jp.thing _ _ _) _ _ _ _ _ _ _) h2;obtain ⟨_,_,q2,_,_,qz,_⟩:=hr3.read;refine ⟨q2,qz 2,_,rfl,rfl,?_⟩;obtain ⟨S4,hr4,m4⟩:=hr3.page (.pointer none);obtain ⟨S5,h5,m5⟩:=back3 _ _ _ hr4 m4;rw [hl0] at h5;refine ⟨(Y++aV st,(W,H,ops))::xs,S5,⟨?_,hc,rfl,by simp [hpl,hxl],h5⟩,(m2.trans m5).undrew⟩;intro x hxm;rcases YJ.1 hxm with rfl | hxm
  ·exact hgx
  ·exact hx x hxm
 ·intro w1 hf;exact hf.elim
structure St.fine (s:St):Prop where
 title:s.title.size<=100
 marks:∀ m∈s.marks,0 < m.1.size/\m.1.size<=100/\m.2 < s.pages.length
 up:s.marks.Pairwise (fun a b=>a.2<=b.2)
theorem St.new_fine:St.new.fine:=⟨by decide,fun m hm=>by simp [St.new] at hm,by simp [St.new]⟩
theorem St.fine.ended {s:St} (h:s.fine):s.endPage.2.fine:=by
 unfold St.endPage;split
 ·exact ⟨h.title,h.marks,h.up⟩
 ·exact h
theorem St.fine.closed {s:St} (h:s.fine):s.close.2.fine:=by
 unfold St.close;split
 ·exact h
 ·exact ⟨h.title,h.marks,h.up⟩
theorem St.fine.titled {s:St} (h:s.fine) (t:ByteArray):(s.titled t).2.fine:=by
 unfold St.titled;split
 ·exact h
 ·split
  ·exact h
  ·exact ⟨by simp only;omega,h.marks,h.up⟩
theorem St.fine.paged {s:St} (h:s.fine) (W H:Int):(s.page W H).2.fine:=by
 unfold St.page;split
 ·exact h
 ·split
  ·exact h
  ·split
   ·exact h
   ·refine ⟨h.title,fun m hm=>?_,h.up⟩;have:=h.marks m hm;simp only [ZY];omega
theorem St.fine.marked {s:St} (h:s.fine) (hok:s.ok) (t:ByteArray):(s.mark t).2.fine:=by
 unfold St.mark;split
 ·exact h
 ·rename_i hop
  split
  ·exact h
  ·rename_i ht
   split
   ·exact h
   ·refine ⟨h.title,fun m hm=>?_,?_⟩
    ·rcases YB.1 hm with hm | hm
     ·exact h.marks m hm
     ·simp at hm;subst hm;obtain ⟨p,l,hp,_⟩:=hok.some (by simpa using hop);have hl:s.pages.length=l.length+1:=by rw [hp];rfl
      simp only;omega
    ·refine List.pairwise_append.2 ⟨h.up,by simp,fun a ha b hb=>?_⟩;simp at hb;subst hb;have:=(h.marks a ha).2.2;simp only;omega
theorem St.fine.drawn {s:St} (h:s.fine) (o:bj):(s.draw o).2.fine:=by
 unfold St.draw;split
 ·exact h
 ·split
  ·exact h
  ·split
   ·exact h
   ·exact ⟨h.title,fun m hm=>by simp only [St.put_len];exact h.marks m hm,h.up⟩
theorem St.fine.began {s:St} (h:s.fine) (o:bj):(s.begin o).2.fine:=by
 unfold St.begin;split
 ·exact h
 ·split
  ·exact h
  ·split
   ·exact h
   ·exact ⟨h.title,h.marks,h.up⟩
theorem St.fine.fed {s:St} (h:s.fine) (t:ByteArray):(s.data t).2.fine:=by
 unfold St.data;split
 ·exact h
 ·split
  ·exact h
  ·split
   ·exact ⟨h.title,h.marks,h.up⟩
   ·exact ⟨h.title,fun m hm=>by simp only [St.put_len];exact h.marks m hm,h.up⟩
theorem ah.sub {P Q P' Q':As} {w w':World} {S:Bl} (h:ah P Q w S) (hP:∀ S1,P w S1->∃ S1',P' w' S1'/\∀ k,S1' k->S1 k) (hQ:∀ S2,Q w S2->∃ S2',Q' w' S2'/\∀ k,S2' k->S2 k):∃ S',ah P' Q' w' S'/\∀ k,S' k->S k:=by
 obtain ⟨S1,S2,h1,h2,ho,rfl⟩:=h;obtain ⟨S1',h1',e1⟩:=hP S1 h1;obtain ⟨S2',h2',e2⟩:=hQ S2 h2;exact ⟨_,⟨S1',S2',h1',h2',fun k a b=>ho k (e1 k a) (e2 k b),rfl⟩,fun k e=>e.elim (fun a=>.inl (e1 k a)) (fun b=>.inr (e2 k b))⟩
theorem Mv.less {S S':Bl} {w:World} (h:∀ k,S' k->S k):Mv S w S' w:=⟨Fr.refl _ _,fun k hk=>.inl (h k hk)⟩
theorem aS.six {B b:Nat} {a0 a1 a2 a3 a4 a5:Value} {w:World} {S:Bl} (h:aS B b [a0,a1,a2,a3,a4,a5] w S) (v0 v1 v2 v3 v4 v5:Value):w.there b 0 6/\aS B b [v0,v1,v2,v3,v4,v5] (w.setCells b 0 [v0,v1,v2,v3,v4,v5]) S/\Mv S w S (w.setCells b 0 [v0,v1,v2,v3,v4,v5]):=by
 obtain ⟨h0,m0⟩:=h.set 0 v0 (by simp);obtain ⟨h1,m1⟩:=h0.set 1 v1 (by simp);obtain ⟨h2,m2⟩:=h1.set 2 v2 (by simp);obtain ⟨h3,m3⟩:=h2.set 3 v3 (by simp);obtain ⟨h4,m4⟩:=h3.set 4 v4 (by simp);obtain ⟨h5,m5⟩:=h4.set 5 v5 (by simp);refine ⟨fun j hj=>⟨?_,h.fz _⟩,h5,((((m0.trans m1).trans m2).trans m3).trans m4).trans m5⟩;rw [Zc]
 match j,hj with
 | 0,_=>rw [h.at 0 _ rfl];rfl
 | 1,_=>rw [h.at 1 _ rfl];rfl
 | 2,_=>rw [h.at 2 _ rfl];rfl
 | 3,_=>rw [h.at 3 _ rfl];rfl
 | 4,_=>rw [h.at 4 _ rfl];rfl
 | 5,_=>rw [h.at 5 _ rfl];rfl
 | (j+6),hj=>omega
theorem tv (n:Wn) (s:St) (w:World) (S:Bl) (hlim:n.lim < 0) (hok:s.ok) (hfine:s.fine) (hB:n.B<=w.heap.size) (ht:bU n.B w) (h:WD n s w S):CP 18 #[zp n.Wb] w (dp n w S s.close):=by
 have HR:=dV n s w S h;unfold St.close;by_cases hcl:s.cl=true
 ·rw [ZO (.inr hcl)];obtain ⟨r1,r2⟩:=h.gone hcl;refine (pu w r1 r2 HR).mono ?_;rintro e w' ⟨rfl,q,rfl⟩;exact dp.same h (ay w q)
 have hc:s.cl=false:=by cases e:s.cl with | false=>rfl | true=>exact absurd e hcl
 by_cases hop:s.op=true
 ·rw [ZO (.inl hop)];obtain ⟨Pg,r2⟩:=h.opened hc hop;refine (uw w Pg r2 HR).mono ?_;rintro e w' ⟨rfl,q,rfl⟩;exact dp.same h (ay w q)
 have hop':s.op=false:=by cases e:s.op with | false=>rfl | true=>exact absurd e hop
 rw [ZU (fun e=>e.elim hop hcl)];obtain ⟨xs,X,hx,hxs,hX,hi⟩:=h.rests hc hop';obtain ⟨c0,r0,t2,r1,r2,r3,r4,fz,hRl,_⟩:=Wn.idle_read hi;have hxl:xs.length=s.pages.length:=by rw [<-hxs];simp
 have hp80:=hok.pages;refine uv w n.Fb _ r1 r2 HR ?_;intro qn;have hiq:=(Wn.idle_thing n s xs X).drewN hi qn;obtain ⟨S1,hrf,_,back1⟩:=ah.snd (aS.thing _ _ _) hiq;obtain ⟨S3,S4,hr,hf,ho34,_,back2⟩:=ah.two2 (de.thing _ _ _ _ _ _ _ _ _) hrf;have hr0:=hr;obtain ⟨vm,Sc,Sm,hcel,hrow,_,hS3⟩:=hr;have hLm:=hrow.lies;obtain ⟨adm,capm,hvm⟩:=hrow.form;subst hvm;have hoff:0 < s.marks.length->∀ b,adm=some ⟨b,0,none⟩->¬ S4 b:=by
  rintro _ b rfl hb;refine ho34 b ?_ hb;rw [hS3,show Sm=_ from hrow.1];exact .inr rfl
 refine (qu (w.drewN qn) n.Rb n.T n.Fb s.marks.length capm adm s.title 0 (0:Int)
  (fun w1=>∃ bg S',ah (aS n.B n.Wb [.pointer (some ⟨n.Rb,0,none⟩)]) (ah (de n.B n.Rb n.T n.Fb (.pointer none) 0 s.title s.marks.length (iz s.marks)) (aX n.K n.B n.Fb n.C 89 n.sk bg (aQ xs) (fO (aA xs) (aQ xs) s.mks s.title.data.toList))) w1 S'/\Mv S w S' w1) (fun _=>False) (fun e w'=>∃ v,e=.returned v/\dp n w S (0,{s with cl:=true}) (.returned v) w') hRl r1 r4 (hcel.at 5 _ rfl) ?_ ?_ ?_)
 ·intro wx hg;have hz:(w.drewN qn).heap.size<=wx.heap.size:=Below.size hg;have hf2:=(aX.thing (jp.thing n.B n.T n.lim) n.Fb n.C 89 n.sk (be 9 0 (aA xs)) (aQ xs) X).grow hf hg;have hzn:n.B<=wx.heap.size:=ZN hB hz;have htw:bU n.B wx:=ht.on ((cU (ZV _ w)).trans (YY hg hB));refine (zt n hlim wx S4 xs X s.title s.marks adm capm hx hX (by omega) hfine.title hok.marks (fun m hm=>by have:=hfine.marks m hm;omega) hzn htw (hLm.on hg) hoff hf2).mono ?_;rintro e w1 ⟨rfl,bg,S5,h5,m5⟩;obtain ⟨S6,h6,m6⟩:=back2 _ _ _ h5 ((Mv.grow hg S4).trans m5);obtain ⟨S7,h7,m7⟩:=back1 _ _ _ h6 m6;exact .inl ⟨rfl,bg,S7,h7,m7.undrew⟩
 ·rintro w1 ⟨bg,S1,h1,m1⟩;obtain ⟨S2,hr2,_,back⟩:=ah.mid (aS.thing _ _ _) (aX.thing (jp.thing _ _ _) _ _ _ _ _ _ _) h1;obtain ⟨vm,hr2⟩:=hr2;obtain ⟨S3,hc3,_,back3⟩:=ah.fst (aW.thing _ _ _ _ _ _) hr2;obtain ⟨hth,hc4,m4⟩:=hc3.six (zp n.T) (.pointer none) (.pointer none) (0:Int) (.string ⟨#[]⟩) (.slice none 0 0);obtain ⟨S5,h5,m5⟩:=back3 _ _ _ hc4 m4;obtain ⟨S6,h6,m6⟩:=back _ _ _ h5 m5;refine ⟨hc3.at 0 _ rfl,hth,_,rfl,rfl,?_⟩;obtain ⟨S7,h7,e7⟩:=ah.sub h6 (P':=aS n.B n.Wb [.pointer (some ⟨n.Rb,0,none⟩)]) (Q':=ah (aS n.B n.Rb [.pointer (some ⟨n.T,0,none⟩),.pointer none,.pointer none,.int .i64 0,.string ⟨#[]⟩,.slice none 0 0]) (fun w S=>n.K w S (fO (aA xs) (aQ xs) s.mks s.title.data.toList))) (fun S1 h=>⟨S1,h,fun _ e=>e⟩) (fun S2 h2=>ah.sub h2 (fun S1 h=>by
   obtain ⟨A1,A2,ha,_,_,rfl⟩:=h;exact ⟨A1,ha,fun k e=>.inl e⟩) (fun S1 h=>by
   obtain ⟨A1,A2,_,hck,_,rfl⟩:=h;obtain ⟨R,hk,hR⟩:=hck;exact ⟨R,hk,fun k e=>.inr (by first | exact hR.2.1 k e | (rw [hR.2.1];exact .inr e) | (rw [hR.1];exact .inr e))⟩))
  exact ⟨S7,⟨xs,hx,.inl ⟨rfl,hxs,h7⟩⟩,(m1.trans m6).trans (Mv.less e7)⟩
 ·intro w1 hf;exact hf.elim
end Go.Proofs.YtbklfkpjoinofaaGreatDoor
