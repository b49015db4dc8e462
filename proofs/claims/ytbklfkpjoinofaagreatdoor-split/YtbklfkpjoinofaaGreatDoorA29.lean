import Derived.Test.YtbklfkpjoinofaaGreatDoorA26
import Derived.Test.YtbklfkpjoinofaaGreatDoorA27
import Derived.Test.YtbklfkpjoinofaaGreatDoorA28
set_option linter.all false
set_option maxRecDepth 100000
set_option maxHeartbeats 8000000
namespace Go.Proofs.YtbklfkpjoinofaaGreatDoor
open Go.RowKit Go.Proofs.Tryz
structure Wn where
 (B T C Fb Rb Wb:Nat)
 (lim:Int)
def Wn.K (n:Wn):World->Bl->List UInt8->Prop:=jp n.B n.T n.lim
def Wn.sk (n:Wn):Value:=.pointer (some ⟨n.T,0,none⟩)
abbrev iB:=List UInt8×(Int×Int×List bj)
def aA (xs:List iB):List (List UInt8):=xs.reverse.map (·.1)
def aQ (xs:List iB):List (Int×Int):=xs.reverse.map fun x=>(x.2.1,x.2.2.1)
def kx (x:iB):Prop:=Pm.bP x.1=some (bE x.2.2.2,x.1.length)/\(bE x.2.2.2).length<=1048576/\(∀ o∈x.2.2.2,o.is)/\8*x.1.length<=80+9*(bE x.2.2.2).length/\bG x.2.1 1 14400000/\bG x.2.2.1 1 14400000
def St.part (s:St):List UInt8:=if s.left=0 then [] else s.img.headB++s.img.s.data.toList
def St.mks (s:St):List (List UInt8×Nat):=s.marks.map fun m=>(m.1.data.toList,m.2)
def St.fits (s:St) (ops:List bj):Prop:=(∀ o∈ops,o.is)/\(if s.left=0 then s.size=(bE ops).length else s.size=(bE ops).length+s.img.headB.length+s.img.s.size+s.left+6/\s.img.k=4/\s.img.e=0/\bG s.img.a (-14400000) 14400000/\bG s.img.b (-14400000) 14400000/\bG s.img.c 1 14400000/\bG s.img.d 1 14400000/\bG s.img.co 1 64/\bG s.img.ro 1 64/\((s.img.s.size+s.left:Nat):Int)=s.img.co*s.img.ro)
def Wn.closed (n:Wn) (s:St) (xs:List iB):As:=
 ah (aS n.B n.Wb [.pointer (some ⟨n.Rb,0,none⟩)]) (ah (aS n.B n.Rb [.pointer (some ⟨n.T,0,none⟩),.pointer none,.pointer none,.int .i64 0,.string ⟨#[]⟩,.slice none 0 0]) (fun w S=>n.K w S (fO (aA xs) (aQ xs) s.mks s.title.data.toList)))
def Wn.idle (n:Wn) (s:St) (xs:List iB) (X:List UInt8):As:=
 ah (aS n.B n.Wb [.pointer (some ⟨n.Rb,0,none⟩)]) (ah (de n.B n.Rb n.T n.Fb (.pointer none) 0 s.title s.marks.length (iz s.marks)) (aX n.K n.B n.Fb n.C 89 n.sk (be 9 0 (aA xs)) (aQ xs) X))
def Wn.drawn (n:Wn) (s:St) (xs:List iB) (W H:Int) (ops:List bj) (Pg Cd P Cp:Nat) (st:dE) (Y:List UInt8):As:=
 ah (aS n.B n.Wb [.pointer (some ⟨n.Rb,0,none⟩)]) (ah (de n.B n.Rb n.T n.Fb (zp Pg) (s.left:Int) s.title s.marks.length (iz s.marks)) (cG n.K n.B n.Fb n.C Pg Cd P Cp 89 n.sk (be 9 0 (aA xs)++[(aC (aA xs)).length]) (aQ xs++[(W,H)]) st (aC (aA xs)++(aL (2*xs.length+1)++cX (2*xs.length+2))) Y (bE ops++s.part)))
theorem Wn.closed_thing (n:Wn) (s:St) (xs:List iB):aJ n.B (n.closed s xs):=ah.thing (aS.thing _ _ _) (ah.thing (aS.thing _ _ _) (jp.thing _ _ _ _))
theorem Wn.idle_thing (n:Wn) (s:St) (xs:List iB) (X:List UInt8):aJ n.B (n.idle s xs X):=ah.thing (aS.thing _ _ _) (ah.thing (de.thing _ _ _ _ _ _ _ _ _) (aX.thing (jp.thing _ _ _) _ _ _ _ _ _ _))
theorem Wn.drawn_thing (n:Wn) (s:St) (xs:List iB) (W H:Int) (ops:List bj) (Pg Cd P Cp:Nat) (st:dE) (Y:List UInt8):aJ n.B (n.drawn s xs W H ops Pg Cd P Cp st Y):=ah.thing (aS.thing _ _ _) (ah.thing (de.thing _ _ _ _ _ _ _ _ _) (cG.thing (jp.thing _ _ _) _ _ _ _ _ _ _ _ _ _ _ _))
def WD (n:Wn) (s:St):As:=fun w S=>∃ xs:List iB,((∀ x∈xs,kx x)/\xs.map (·.1)=s.zs)/\
 ((s.cl=true/\xs.map (·.2)=s.pages/\n.closed s xs w S)\/
  (s.cl=false/\s.op=false/\xs.map (·.2)=s.pages/\∃ X,((X=[]/\xs=[])\/X=aC (aA xs))/\n.idle s xs X w S)\/
  (s.cl=false/\s.op=true/\∃ W H ops l Pg Cd P Cp st Y,s.pages=(W,H,ops)::l/\xs.map (·.2)=l/\bG W 1 14400000/\bG H 1 14400000/\s.fits ops/\PI st Y (bE ops++s.part)/\(st.W.length - st.at_ < 261/\(st,Y)=s.g)/\n.drawn s xs W H ops Pg Cd P Cp st Y w S))
theorem WD.thing (n:Wn) (s:St):aJ n.B (WD n s) where
 keep:=by
  rintro w w' S ⟨xs,hx,⟨a,b,h⟩ | ⟨a,b,c,X,d,h⟩ | ⟨a,b,W,H,ops,l,Pg,Cd,P,Cp,st,Y,c1,c2,c3,c4,c5,c6,c7,h⟩⟩ hk hz
  ·exact ⟨xs,hx,.inl ⟨a,b,(Wn.closed_thing n s xs).keep h hk hz⟩⟩
  ·exact ⟨xs,hx,.inr (.inl ⟨a,b,c,X,d,(Wn.idle_thing n s xs X).keep h hk hz⟩)⟩
  ·exact ⟨xs,hx,.inr (.inr ⟨a,b,W,H,ops,l,Pg,Cd,P,Cp,st,Y,c1,c2,c3,c4,c5,c6,c7,(Wn.drawn_thing n s xs W H ops Pg Cd P Cp st Y).keep h hk hz⟩)⟩
 lt:=by
  rintro w S k ⟨xs,hx,⟨a,b,h⟩ | ⟨a,b,c,X,d,h⟩ | ⟨a,b,W,H,ops,l,Pg,Cd,P,Cp,st,Y,c1,c2,c3,c4,c5,c6,c7,h⟩⟩ hk
  ·exact (Wn.closed_thing n s xs).lt h hk
  ·exact (Wn.idle_thing n s xs X).lt h hk
  ·exact (Wn.drawn_thing n s xs W H ops Pg Cd P Cp st Y).lt h hk
 ge:=by
  rintro w S k ⟨xs,hx,⟨a,b,h⟩ | ⟨a,b,c,X,d,h⟩ | ⟨a,b,W,H,ops,l,Pg,Cd,P,Cp,st,Y,c1,c2,c3,c4,c5,c6,c7,h⟩⟩ hk
  ·exact (Wn.closed_thing n s xs).ge h hk
  ·exact (Wn.idle_thing n s xs X).ge h hk
  ·exact (Wn.drawn_thing n s xs W H ops Pg Cd P Cp st Y).ge h hk
def dp (n:Wn) (w:World) (S:Bl) (r:Int×St) (e:Ending) (w':World):Prop:=e=.returned (.int .i64 r.1)/\∃ S',WD n r.2 w' S'/\Mv S w S' w'
theorem dp.same {n:Wn} {w w':World} {S:Bl} {s:St} {i:Int} (h:WD n s w S) (hb:Below w w w'):dp n w S (i,s) (.returned i) w':=
 ⟨rfl,S,(WD.thing n s).keep h (fun k hk=>hb.block k ((WD.thing n s).lt h hk)) hb.size,Mv.grow hb S⟩
theorem Wn.closed_read {n:Wn} {s:St} {xs:List iB} {w:World} {S:Bl} (h:n.closed s xs w S):w.cell? n.Wb=zp n.Rb/\w.cell? n.Rb=zp n.T/\w.cell? (zq n.T 2)=false/\w.cell? (zq n.Rb 1)=some (.pointer none)/\w.cell? (zq n.Rb 2)=some (.pointer none)/\∃ R,n.K w R (fO (aA xs) (aQ xs) s.mks s.title.data.toList):=by
 obtain ⟨S1,S2,hc,⟨S3,S4,hr,hk,_,_⟩,_,_⟩:=h;have hk2:=hk;obtain ⟨vt,sl,_⟩:=hk;exact ⟨hc.at 0 _ rfl,hr.at 0 _ rfl,sl.c2,hr.at 1 _ rfl,hr.at 2 _ rfl,S4,hk2⟩
theorem Wn.idle_read {n:Wn} {s:St} {xs:List iB} {X:List UInt8} {w:World} {S:Bl} (h:n.idle s xs X w S):w.cell? n.Wb=zp n.Rb/\w.cell? n.Rb=zp n.T/\w.cell? (zq n.T 2)=false/\w.cell? (zq n.Rb 1)=zp n.Fb/\w.cell? (zq n.Rb 2)=some (.pointer none)/\w.cell? (zq n.Rb 3)=(0:Int)/\w.cell? (zq n.Rb 4)=s.title/\(∀ o,w.frozen? (zq n.Rb o)=false)/\n.Rb < w.heap.size/\∃ R,n.K w R X:=by
 obtain ⟨S1,S2,hc,⟨S3,S4,hr,hf,_,_⟩,_,_⟩:=h;obtain ⟨r0,r1,r2,r3,r4,fz,hl⟩:=hr.read;obtain ⟨S5,S6,_,hck,_,_⟩:=hf;obtain ⟨R,hk,_⟩:=hck;have hk2:=hk;obtain ⟨vt,sl,_⟩:=hk;exact ⟨hc.at 0 _ rfl,r0,sl.c2,r1,r2,r3,r4,fz,hl,R,hk2⟩
theorem Wn.drawn_read {n:Wn} {s:St} {xs:List iB} {W H:Int} {ops:List bj} {Pg Cd P Cp:Nat} {st:dE} {Y:List UInt8} {w:World} {S:Bl} (h:n.drawn s xs W H ops Pg Cd P Cp st Y w S):w.cell? n.Wb=zp n.Rb/\w.cell? n.Rb=zp n.T/\w.cell? (zq n.T 2)=false/\w.cell? (zq n.Rb 1)=zp n.Fb/\w.cell? (zq n.Rb 2)=zp Pg/\w.cell? (zq n.Rb 3)=(s.left:Int)/\w.cell? (zq n.Rb 4)=s.title/\(∀ o,w.frozen? (zq n.Rb o)=false)/\n.Rb < w.heap.size:=by
 obtain ⟨S1,S2,hc,⟨S3,S4,hr,hp,_,_⟩,_,_⟩:=h;obtain ⟨r0,r1,r2,r3,r4,fz,hl⟩:=hr.read;obtain ⟨S5,S6,_,⟨S7,S8,_,⟨S9,S10,_,hpd,_,_⟩,_,_⟩,_,_⟩:=hp;obtain ⟨vf,vw,vs,R,_,hk2,_⟩:=hpd;obtain ⟨R1,hck,_⟩:=hk2;obtain ⟨R2,hk,_⟩:=hck;obtain ⟨vt,sl,_⟩:=hk;exact ⟨hc.at 0 _ rfl,r0,sl.c2,r1,r2,r3,r4,fz,hl⟩
theorem dV (n:Wn) (s:St) (w:World) (S:Bl) (h:WD n s w S):QD 47 #[zp n.Wb] w (.tuple #[zp n.Rb,oz]):=by
 obtain ⟨xs,⟨hx,hzs⟩,⟨_,_,h⟩ | ⟨_,_,_,X,_,h⟩ | ⟨_,_,W,H,ops,l,Pg,Cd,P,Cp,st,Y,_,_,_,_,_,_,_,h⟩⟩:=h
 ·obtain ⟨c0,r0,t2,_⟩:=Wn.closed_read h;exact gK w n.Wb n.Rb n.T c0 r0 t2
 ·obtain ⟨c0,r0,t2,_⟩:=Wn.idle_read h;exact gK w n.Wb n.Rb n.T c0 r0 t2
 ·obtain ⟨c0,r0,t2,_⟩:=Wn.drawn_read h;exact gK w n.Wb n.Rb n.T c0 r0 t2
theorem em (n:Wn) (s:St) (w:World) (S:Bl) (hok:s.ok) (h:WD n s w S):QD 77 #[zp n.Wb] w (if s.drawing then .tuple #[zp n.Rb,oz] else .tuple #[.pointer none,(2:Int)]):=by
 obtain ⟨xs,⟨hx,hzs⟩,⟨a,_,h⟩ | ⟨_,b,_,X,_,h⟩ | ⟨_,b,W,H,ops,l,Pg,Cd,P,Cp,st,Y,_,_,_,_,_,_,_,h⟩⟩:=h
 ·obtain ⟨c0,r0,t2,r1,r2,_⟩:=Wn.closed_read h;have hd:s.drawing=false:=by simp [St.drawing,hok.shut a]
  rw [hd];exact ke w n.Wb n.Rb n.T c0 r0 t2 r2
 ·obtain ⟨c0,r0,t2,r1,r2,_⟩:=Wn.idle_read h;have hd:s.drawing=false:=by simp [St.drawing,b]
  rw [hd];exact ke w n.Wb n.Rb n.T c0 r0 t2 r2
 ·obtain ⟨c0,r0,t2,r1,r2,r3,_⟩:=Wn.drawn_read h;by_cases hl:s.left=0
  ·have hd:s.drawing=true:=by simp [St.drawing,b,hl]
   rw [hd];exact qp w n.Wb n.Rb n.T Pg c0 r0 t2 r2 (by rw [r3,hl];rfl)
  ·have hd:s.drawing=false:=by simp [St.drawing,hl]
   rw [hd];exact lR w n.Wb n.Rb n.T Pg (s.left:Int) c0 r0 t2 r2 r3 (by omega)
theorem de.titled {B Rb T Fb:Nat} {page:Value} {lack:Int} {title:ByteArray} {n:Nat} {ms:List Value} {w:World} {S:Bl} (h:de B Rb T Fb page lack title n ms w S) (t:ByteArray):∃ S',de B Rb T Fb page lack t n ms (w.setCell (zq Rb 4) t) S'/\Mv S w S' (w.setCell (zq Rb 4) t):=by
 obtain ⟨vm,h⟩:=h;obtain ⟨S1,hc,_,k⟩:=ah.fst (aW.thing _ _ _ _ _ _) h;obtain ⟨a,m⟩:=hc.set 4 (.string t) (by simp);obtain ⟨S',h',m'⟩:=k _ _ _ a m;exact ⟨S',⟨vm,h'⟩,m'⟩
theorem WD.on {n:Wn} {s:St} {w wx:World} {S:Bl} (h:WD n s w S) (hb:Below w w wx):WD n s wx S:=(WD.thing n s).keep h (fun k hk=>hb.block k ((WD.thing n s).lt h hk)) hb.size
theorem WD.titled {n:Wn} {s:St} {w:World} {S:Bl} (h:WD n s w S) (hcl:s.cl=false) (t:ByteArray):∃ S',WD n {s with title:=t} (w.setCell (zq n.Rb 4) t) S'/\Mv S w S' (w.setCell (zq n.Rb 4) t):=by
 obtain ⟨xs,⟨hx,hzs⟩,⟨a,_,h⟩ | ⟨a,b,c,X,d,h⟩ | ⟨a,b,W,H,ops,l,Pg,Cd,P,Cp,st,Y,c1,c2,c3,c4,c5,c6,c7,h⟩⟩:=h
 ·exact absurd (hcl.symm.trans a) (by simp)
 ·obtain ⟨S1,hr,_,k⟩:=ah.mid (aS.thing _ _ _) (aX.thing (jp.thing _ _ _) _ _ _ _ _ _ _) h;obtain ⟨S2,h2,m2⟩:=hr.titled t;obtain ⟨S',h',m'⟩:=k _ _ _ h2 m2;exact ⟨S',⟨xs,⟨hx,hzs⟩,.inr (.inl ⟨a,b,c,X,d,h'⟩)⟩,m'⟩
 ·obtain ⟨S1,hr,_,k⟩:=ah.mid (aS.thing _ _ _) (cG.thing (jp.thing _ _ _) _ _ _ _ _ _ _ _ _ _ _ _) h;obtain ⟨S2,h2,m2⟩:=hr.titled t;obtain ⟨S',h',m'⟩:=k _ _ _ h2 m2;exact ⟨S',⟨xs,⟨hx,hzs⟩,.inr (.inr ⟨a,b,W,H,ops,l,Pg,Cd,P,Cp,st,Y,c1,c2,c3,c4,c5,c6,c7,h'⟩)⟩,m'⟩
theorem WD.file {n:Wn} {s:St} {w:World} {S:Bl} (h:WD n s w S) (hcl:s.cl=false):w.cell? (zq n.Rb 1)=zp n.Fb/\w.cell? (zq n.Rb 4)=s.title/\(∀ o,w.frozen? (zq n.Rb o)=false)/\n.Rb < w.heap.size:=by
 obtain ⟨xs,⟨hx,hzs⟩,⟨a,_,h⟩ | ⟨a,b,c,X,d,h⟩ | ⟨a,b,W,H,ops,l,Pg,Cd,P,Cp,st,Y,c1,c2,c3,c4,c5,c6,c7,h⟩⟩:=h
 ·exact absurd (hcl.symm.trans a) (by simp)
 ·obtain ⟨_,_,_,r1,_,_,r4,fz,hl,_⟩:=Wn.idle_read h;exact ⟨r1,r4,fz,hl⟩
 ·obtain ⟨_,_,_,r1,_,_,r4,fz,hl⟩:=Wn.drawn_read h;exact ⟨r1,r4,fz,hl⟩
theorem WD.gone {n:Wn} {s:St} {w:World} {S:Bl} (h:WD n s w S) (hcl:s.cl=true):w.cell? (zq n.Rb 1)=some (.pointer none)/\w.cell? (zq n.Rb 2)=some (.pointer none):=by
 obtain ⟨xs,⟨hx,hzs⟩,⟨a,_,h⟩ | ⟨a,_⟩ | ⟨a,_⟩⟩:=h
 ·obtain ⟨_,_,_,r1,r2,_⟩:=Wn.closed_read h;exact ⟨r1,r2⟩
 ·exact absurd (hcl.symm.trans a) (by simp)
 ·exact absurd (hcl.symm.trans a) (by simp)
theorem uc (n:Wn) (s:St) (w:World) (S:Bl) (t:ByteArray) (ht:t.size<=9223372036854775807) (h:WD n s w S):CP 36 #[zp n.Wb,t] w (dp n w S (s.titled t)):=by
 have HR:=dV n s w S h;unfold St.titled;by_cases hcl:s.cl=true
 ·rw [ZN hcl];refine (pq w t (h.gone hcl).1 HR).mono ?_;rintro e w' ⟨rfl,q,rfl⟩;exact dp.same h (ay w q)
 ·rw [ZO hcl];have hc:s.cl=false:=by cases e:s.cl with | false=>rfl | true=>exact absurd e hcl
  obtain ⟨r1,r4,fz,hl⟩:=h.file hc;by_cases h1:100 < t.size
  ·rw [ZN h1];refine (wP w t n.Fb ht (by simp;omega) r1 HR).mono ?_;rintro e w' ⟨rfl,q,rfl⟩;exact dp.same h (ay w q)
  ·rw [ZO h1];refine (xH w t n.Fb s.title (by simp;omega) r1 r4 (fz 4) hl HR).mono ?_;rintro e w' ⟨rfl,w1,hb,rfl⟩;obtain ⟨S',h',m'⟩:=(h.on hb).titled hc t;exact ⟨rfl,S',h',(Mv.grow hb S).trans m'⟩
def D0:World->Bl->List UInt8->Prop:=fun _ _ _=>False
theorem D0.thing (B:Nat) (X:List UInt8):aJ B (fun w S=>D0 w S X) where
 keep:=fun h _ _=>h.elim
 lt:=fun h _=>h.elim
 ge:=fun h _=>h.elim
theorem Wn.down (n:Wn) (hl:n.lim < 0):fT n.B n.K D0 (fun _=>True) 2000000000 89 n.sk n.sk 351 0 (0:Int):=xU n.B n.T n.lim hl D0 (D0.thing n.B) 0 (0:Int)
theorem eK (k:Nat) (h:k<=1000000):(aL k).length<=30:=by
 have:=ar (k:Int) (by omega) (by omega);simp only [aL,ZY,ZX,ZR];omega
theorem dU (k:Nat) (h:k<=1000000):(aD (k:Int)).length<=30:=by
 have:=ar (k:Int) (by omega) (by omega);rw [aD,ZY];simp only [ZX,ZR];omega
theorem gn (k:Nat) (h:k<=1000000):(cX k).length<=90:=by
 have:=dU k h;simp only [cX,ZY,ZX,ZR];omega
theorem xa (i:Nat) (Z:List UInt8) (hi:i<=1000) (hZ:Z.length<=1200000):(d_ i Z).length<=1201000:=by
 have h1:=eK (2*i+1) (by omega);have h2:=eK (2*i+2) (by omega);have h3:=gn (2*i+2) (by omega);have h4:=ar (Z.length:Int) (by omega) (by omega);simp only [d_,aK,fC,eh,ZY,ZX,ZR];omega
theorem mH:∀ (i:Nat) (l:List (List UInt8)),i+l.length<=1000->(∀ Z∈l,Z.length<=1200000)->(bW i l).length<=l.length*1201000
 | _,[],_,_=>by simp [bW]
 | i,Z::l,hi,h=>by
  simp only [ZX] at hi;have h1:=xa i Z (by omega) (h Z (by simp));have h2:=mH (i+1) l (by omega) (fun Y hY=>h Y (by simp [hY]));simp only [bW,ZY,ZX];omega
theorem cN {xs:List iB} (hx:∀ x∈xs,kx x) (hl:xs.length<=80):(aC (aA xs)).length<=100000000:=by
 have h:=mH 0 (aA xs) (by simp [aA];omega) (fun Z hZ=>by
  simp only [aA,YA,Yk] at hZ;obtain ⟨x,hxm,rfl⟩:=hZ;obtain ⟨_,h2,_,h4,_⟩:=hx x hxm;omega)
 have hz:(aA xs).length=xs.length:=by simp [aA]
 rw [hz] at h;simp only [aC,bi,ZY,ZX,ZR];omega
theorem WD.opened {n:Wn} {s:St} {w:World} {S:Bl} (h:WD n s w S) (hcl:s.cl=false) (hop:s.op=true):∃ Pg,w.cell? (zq n.Rb 2)=zp Pg:=by
 obtain ⟨xs,⟨hx,hzs⟩,⟨a,_,h⟩ | ⟨a,b,c,X,d,h⟩ | ⟨a,b,W,H,ops,l,Pg,Cd,P,Cp,st,Y,c1,c2,c3,c4,c5,c6,c7,h⟩⟩:=h
 ·exact absurd (hcl.symm.trans a) (by simp)
 ·exact absurd (hop.symm.trans b) (by simp)
 ·obtain ⟨_,_,_,_,r2,_⟩:=Wn.drawn_read h;exact ⟨Pg,r2⟩
theorem WD.rests {n:Wn} {s:St} {w:World} {S:Bl} (h:WD n s w S) (hcl:s.cl=false) (hop:s.op=false):∃ xs X,((∀ x∈xs,kx x)/\xs.map (·.1)=s.zs)/\xs.map (·.2)=s.pages/\((X=[]/\xs=[])\/X=aC (aA xs))/\n.idle s xs X w S:=by
 obtain ⟨xs,⟨hx,hzs⟩,⟨a,_,h⟩ | ⟨a,b,c,X,d,h⟩ | ⟨a,b,W,H,ops,l,Pg,Cd,P,Cp,st,Y,c1,c2,c3,c4,c5,c6,c7,h⟩⟩:=h
 ·exact absurd (hcl.symm.trans a) (by simp)
 ·exact ⟨xs,X,⟨hx,hzs⟩,c,d,h⟩
 ·exact absurd (hop.symm.trans b) (by simp)
theorem fX {xs:List iB} {X:List UInt8} (h:(X=[]/\xs=[])\/X=aC (aA xs)):X++eW X=aC (aA xs):=by
 rcases h with ⟨rfl,rfl⟩ | rfl
 ·simp [eW,aC,aA,bW]
 ·have:aC (aA xs)≠[]:=by simp [aC,bi]
  simp [eW,this]
theorem vW (n:Wn) (s:St) (w:World) (S:Bl) (W H:Int) (hlim:n.lim < 0) (hok:s.ok) (hB:n.B<=w.heap.size) (ht:bU n.B w) (h:WD n s w S):CP 34 #[zp n.Wb,W,H] w (dp n w S (s.page W H)):=by
 have HR:=dV n s w S h;unfold St.page;by_cases h1:s.op=true\/s.cl=true
 ·rw [ZN h1];by_cases hcl:s.cl=true
  ·obtain ⟨r1,r2⟩:=h.gone hcl;refine (sa w _ n.Rb W H r1 r2 HR).mono ?_;rintro e w' ⟨rfl,q,rfl⟩;exact dp.same h (ay w q)
  ·have hc:s.cl=false:=by cases e:s.cl with | false=>rfl | true=>exact absurd e hcl
   have hop:s.op=true:=h1.elim id (fun e=>absurd e hcl);obtain ⟨Pg,r2⟩:=h.opened hc hop;refine (Db w _ n.Rb W H Pg r2 HR).mono ?_;rintro e w' ⟨rfl,q,rfl⟩;exact dp.same h (ay w q)
 rw [ZO h1];have hop:s.op=false:=by cases e:s.op with | false=>rfl | true=>exact absurd (.inl e) h1
 have hc:s.cl=false:=by cases e:s.cl with | false=>rfl | true=>exact absurd (.inr e) h1
 obtain ⟨xs,X,⟨hx,hzs⟩,hxs,hX,hi⟩:=h.rests hc hop;obtain ⟨c0,r0,t2,r1,r2,r3,r4,fz,hRl,_⟩:=Wn.idle_read hi;by_cases hW:bG W 1 14400000
 case neg=>
  rw [ZN (.inl hW)];refine (wQ w _ n.Rb W H n.Fb r1 r2 (Zo hW) HR).mono ?_;rintro e w' ⟨rfl,q,rfl⟩;exact dp.same h (ay w q)
 by_cases hH:bG H 1 14400000
 case neg=>
  rw [ZN (.inr hH)];refine (wl w _ n.Rb W H n.Fb r1 r2 (Zt hW) (Zo hH) HR).mono ?_;rintro e w' ⟨rfl,q,rfl⟩;exact dp.same h (ay w q)
 rw [ZO (fun e=>e.elim (fun f=>f hW) (fun f=>f hH))];have hxl:xs.length=s.pages.length:=by rw [<-hxs];simp
 have hsl:(aQ xs).length=xs.length:=by simp [aQ]
 have hzl:(aA xs).length=xs.length:=by simp [aA]
 have hp80:=hok.pages;obtain ⟨Sf,hf,_,backf⟩:=ah.third (aS.thing _ _ _) (de.thing _ _ _ _ _ _ _ _ _) hi;obtain ⟨a1,k1,a2,k2,f0,f1,f2,_⟩:=aX.facts hf;by_cases h80:s.pages.length=80
 ·rw [ZN h80];refine (sY w _ n.Rb W H n.Fb r1 r2 _ k2 a2 f2 (by omega) (by omega) (Zt hW) (Zt hH) HR).mono ?_;rintro e w' ⟨rfl,q,rfl⟩;exact dp.same h (ay w q)
 rw [ZO h80];refine z' w _ n.Rb W H n.Fb r1 r2 _ k2 a2 f2 (by omega) (Zt hW) (Zt hH) _ HR ?_;intro qn;have hiq:=(Wn.idle_thing n s xs X).drewN hi qn;obtain ⟨Sf',hf',_,backf'⟩:=ah.third (aS.thing _ _ _) (de.thing _ _ _ _ _ _ _ _ _) hiq;have hup:=cN hx (by omega);have hXl:X.length<=100000000:=by
  have:=fX hX;have h2:(X++eW X).length<=100000000:=by rw [this];exact hup
  simp at h2;omega
 have hBP:=nU (n.down hlim) (ZW _) (w.drewN qn) Sf' n.Fb n.C (be 9 0 (aA xs)) (aQ xs) X W H hf' hB (ht.on (cU (ZT _ w))) (by rw [dy];omega) (by omega) (by omega);have hcl2:(be 9 0 (aA xs)).length=2*xs.length:=by rw [dy,hzl]
 rw [hcl2] at hBP;have hbeg:=fX hX;have hlen:X.length+(eW X).length=(aC (aA xs)).length:=by rw [<-hbeg,ZY]
 rw [hlen] at hBP;have hl0:=hok.idle hop;refine oB (w.drewN qn) n.Rb n.Fb W H (fun w1 Pg=>∃ Cd P Cp S',cG n.K n.B n.Fb n.C Pg Cd P Cp 89 n.sk (be 9 0 (aA xs)++[(aC (aA xs)).length]) (aQ xs++[(W,H)]) lJ (X++(eW X++(aL (2*xs.length+1)++cX (2*xs.length+2)))) [] [] w1 S'/\Mv Sf' (w.drewN qn) S' w1) (fun _=>False) _ r1 (et:=0) (ev:=.int .i64 0) ?_ ?_ ?_
 ·refine hBP.mono ?_;rintro e w' (⟨_,Pg,Cd,P,Cp,rfl,S',hp,m⟩ | ⟨hno,_⟩)
  ·exact .inl ⟨Pg,rfl,Cd,P,Cp,S',hp,m⟩
  ·exact absurd trivial hno
 ·rintro w1 Pg ⟨Cd,P,Cp,S',hp,m⟩;obtain ⟨S2,h2,m2⟩:=backf' _ _ _ hp m;obtain ⟨S3,hr3,_,back3⟩:=ah.mid (aS.thing _ _ _) (cG.thing (jp.thing _ _ _) _ _ _ _ _ _ _ _ _ _ _ _) h2;obtain ⟨_,_,q2,_,_,qz,_⟩:=hr3.read;refine ⟨q2,qz 2,_,rfl,rfl,?_⟩;obtain ⟨S4,hr4,m4⟩:=hr3.page (zp Pg);obtain ⟨S5,h5,m5⟩:=back3 _ _ _ hr4 m4;have hX0:X++(eW X++(aL (2*xs.length+1)++cX (2*xs.length+2)))=aC (aA xs)++(aL (2*xs.length+1)++cX (2*xs.length+2)):=by rw [<-ZS,hbeg]
  rw [hX0] at h5;refine ⟨S5,⟨xs,⟨hx,hzs⟩,.inr (.inr ⟨hc,rfl,W,H,[],s.pages,Pg,Cd,P,Cp,lJ,[],rfl,hxs,hW,hH,⟨fun o ho=>by simp at ho,by simp [hl0,bE]⟩,?_,⟨by show ([]:List UInt8).length - 0 < 261;decide,rfl⟩,?_⟩)⟩,(m2.trans m5).undrew⟩
  ·simpa [St.part,hl0,bE] using PI.start
  ·unfold Wn.drawn;simpa [St.part,hl0,bE,Wn.K] using h5
 ·intro w1 hf;exact hf.elim
theorem yg (l:List (List UInt8)) (b:Nat) (h:∀ x∈l,x.length<=b):Lib.lens l<=b*l.length:=by
 induction l with
 | nil=>simp [Lib.lens]
 | cons a r ih=>
  have h1:=h a (by simp);have h2:=ih (fun x hx=>h x (by simp [hx]));simp only [Lib.lens,Yo,List.sum_cons,ZX] at h2 ⊢;rw [Nat.mul_succ];omega
theorem rC (l:List (List UInt8)) (b:Nat) (h:∀ x∈l,x.length<=b):(Lib.join l [32]).length<=(b+1)*l.length:=by
 cases l with
 | nil=>simp [Lib.join_nil]
 | cons a r=>
  rw [Lib.join_length];have:=yg (a::r) b h;rw [Nat.add_mul];simp only [ZX,ZR] at this ⊢;omega
theorem zv (B:Nat) (w:World) (v:Value) (l:List (List UInt8)) (k:Nat) (hk:l.length=k) (hkm:k<=1000) (hl:∀ x∈l,x.length<=1000) (h:w.ownsRow B 9 1 v k (gl l)):
  QB 245 #[v,.string ⟨#[32]⟩] w (.string ⟨(Lib.join l [32]).toArray⟩):=by
 have hjl:=rC l 1000 hl;rcases id h.2 with ⟨hv,h0⟩ | ⟨g,cap,cur,hv,hb,hg,hle,hcm,hcs,_⟩
 ·have hl0:l=[]:=Zp (by omega);subst hl0;rw [hv];refine (Tryz.strings_Join_none none 0 ⟨#[32]⟩ w).mono ?_;rintro e w' ⟨rfl,rfl⟩;exact ⟨by rw [Lib.join_nil],ZT _ _⟩
 ·have hxs:(l.map fun s=>(⟨s.toArray⟩:ByteArray)).map (fun x=>x.data.toList)=l:=by
   rw [List.map_map]
   conv=>rhs;rw [<-List.map_id l]
   refine XI fun a _=>by simp
  have hln:(l.map fun s=>(⟨s.toArray⟩:ByteArray)).length=k:=by rw [Yv,hk]
  have hJ:=Tryz.strings_Join g 0 cap (l.map fun s=>(⟨s.toArray⟩:ByteArray)) ⟨#[32]⟩ w (fun j x hj=>by
   have:=h.cells (g:=g) (by rw [hv];rfl) j _ (tY l j x hj);have hadd:(⟨g,0,none⟩:Addr).add j=⟨g,0+j,none⟩:=by unfold Addr.add;split <;> simp_all
   rwa [hadd] at this) (h.lt g (by rw [hv];rfl)).2 (by rw [hln];omega) (by rw [hln];exact hle) (by rw [hxs];show (Lib.join l [32]).length<=_;rw [hk] at hjl;omega)
  rw [hxs,hln] at hJ;rw [hv];exact hJ
theorem nH (a m:Nat) (x:List UInt8) (h:x∈cf a m):∃ j,j < m/\x=aD ((a+j:Nat):Int):=by
 induction m with
 | zero=>simp [cf] at h
 | succ m ih=>
  rw [cf,Zu] at h;rcases h with h | h
  ·obtain ⟨j,hj,e⟩:=ih h;exact ⟨j,by omega,e⟩
  ·exact ⟨m,by omega,by simpa using h⟩
theorem oR (f c g:Nat) (hf:f<=10000) (hg:g<=1000):(gv f c g).length<=1000:=by
 have h1:=rC (cf (f+8*g) (min 8 (c - 8*g))) 30 (fun x hx=>by
  obtain ⟨j,hj,rfl⟩:=nH _ _ _ hx;exact dU _ (by omega))
 rw [jH] at h1;have h2:min 8 (c - 8*g)<=8:=Nat.min_le_left _ _;have h3:=XH 31 h2;unfold gv;omega
theorem ww (key:List UInt8) (n:Int) (hk:key.length<=100) (h0:-1000000000<=n) (h1:n<=1000000000):(bt key n).length<=130:=by
 have:=gJ n (by omega) (by omega);unfold bt;split
 ·simp
 ·simp only [ZY,ZX,ZR];omega
def rowAt (rows:List (Nat×Nat×Nat)) (r:Nat):Nat×Nat×Nat:=rows.getD r (0,0,0)
theorem dR {rows:List (Nat×Nat×Nat)} {r:Nat} (h:r < rows.length):rows[r]? =some (rowAt rows r):=by
 simp [rowAt,ZM h]
def sZ (p:Nat) (rows:List (Nat×Nat×Nat)) (r i:Nat):List UInt8:=jN ((rR (rows.drop (r+1)) i:Nat):Int) (gv (rowAt rows (r - 1)).1 (rowAt rows (r - 1)).2.1 i) (bV p (rowAt rows r).2.2 i)
def iu (p:Nat) (rows:List (Nat×Nat×Nat)) (r i:Nat):List (List UInt8):=((List.range (rowAt rows r).2.1).drop i).map (sZ p rows r)++dJ p (rowAt rows r) (rows.drop (r+1))
theorem ss (p:Nat) (rows:List (Nat×Nat×Nat)) (r i:Nat) (h:i < (rowAt rows r).2.1):iu p rows r i=sZ p rows r i::iu p rows r (i+1):=by
 unfold iu;rw [Zn (by simpa using h)];simp
theorem mR (p:Nat) (rows:List (Nat×Nat×Nat)) (r:Nat):iu p rows r (rowAt rows r).2.1=iu p rows (r+1) 0:=by
 unfold iu;rw [YD (by simp)];by_cases h:r+1 < rows.length
 ·rw [Zn h];have e:rowAt rows (r+1)=rows[r+1]:=by simp [rowAt,h]
  simp only [XZ,Zq,dJ,List.drop_zero,e];congr 1;refine XI fun i _=>?_
  rw [sZ,e,Nat.add_sub_cancel]
 ·have e:rowAt rows (r+1)=(0,0,0):=by simp only [rowAt,ZJ];rw [XA (by omega)];rfl
  rw [YD (l:=rows) (i:=r+1) (by omega),YD (l:=rows) (i:=r+1+1) (by omega),e];simp [dJ]
theorem xX (p:Nat) (b:Nat×Nat×Nat) (ups:List (Nat×Nat×Nat)):iu p (b::ups) 1 0=dJ p b ups:=by
 rw [<-mR];unfold iu;rw [YD (by simp)];rfl
theorem wT (p:Nat) (rows:List (Nat×Nat×Nat)):iu p rows rows.length 0=[]:=by
 have e:rowAt rows rows.length=(0,0,0):=by simp only [rowAt,ZJ];rw [XA (by omega)];rfl
 unfold iu;rw [e,YD (l:=rows) (by omega)];simp [dJ]
theorem jM (f c s:Nat) (h:c<=8):cP f c s=[(f+c,1,s*8)]:=by rw [cP,ZN h]
theorem sS (f c s:Nat) (hc:c<=80) (r:Nat×Nat×Nat) (hr:r∈cP f c s):r.1<=f+200/\r.2.1<=80/\r.2.2<=s*512:=by
 rw [cP] at hr;split at hr
 ·simp at hr;subst hr;simp;omega
 ·rcases Zk.1 hr with rfl | hr
  ·simp;omega
  ·rw [cP] at hr;split at hr
   ·simp at hr;subst hr;simp;omega
   ·rcases Zk.1 hr with rfl | hr
    ·simp;omega
    ·rw [jM _ _ _ (by omega)] at hr;simp at hr;subst hr;simp;omega
theorem sr (f c s:Nat) (hc:c<=80):1<=(cP f c s).length/\(cP f c s).length<=3:=by
 rw [cP];split
 ·simp
 ·rw [cP];split
  ·simp
  ·rw [jM _ _ _ (by omega)];simp
theorem ib (p f c s:Nat):1<=(bS p f c s).length/\(bS p f c s).length<=c+1:=by
 induction c using Nat.strongRecOn generalizing f s with
 | _ c ih=>
  rw [bS];by_cases h:c<=8
  ·rw [ZN h];simp
  ·rw [ZO h];have:=ih ((c+7) / 8) (by omega) (f+c) (s*8);simp only [ZY,Yv,List.length_range];omega
structure l9 (rows:List (Nat×Nat×Nat)):Prop where
 len:rows.length<=10
 mem:∀ r∈rows,r.1<=2000/\r.2.1<=80/\r.2.2<=512
theorem iO (f p:Nat) (hf:f<=1000) (hp:p<=80):l9 (cR f p) where
 len:=by have:=(sr f p 1 hp).2;simp only [cR,ZX];omega
 mem:=by
  intro r hr;rcases Zk.1 hr with rfl | hr
  ·simp;omega
  ·have:=sS f p 1 hp r hr;omega
theorem l9.at {rows:List (Nat×Nat×Nat)} (h:l9 rows) (r:Nat):(rowAt rows r).1<=2000/\(rowAt rows r).2.1<=80/\(rowAt rows r).2.2<=512:=by
 by_cases hr:r < rows.length
 ·exact h.mem _ (YG (dR hr))
 ·have e:rowAt rows r=(0,0,0):=by simp only [rowAt,ZJ];rw [XA (by omega)];rfl
  rw [e];simp
theorem Dx {rows:List (Nat×Nat×Nat)} (h:l9 rows) (r i:Nat) (hi:i<=80):rR (rows.drop (r+1)) i<=3000:=by
 cases e:rows.drop (r+1) with
 | nil=>simp [rR]
 | cons q l=>
  have hq:q∈rows:=List.mem_of_mem_drop (by rw [e];simp:q∈rows.drop (r+1));have:=(h.mem q hq).1;simp only [rR];omega
theorem jR (p s i:Nat) (hp:p<=80) (hs:s<=512) (hi:i<=80):-100000<=bV p s i/\bV p s i<=100000:=by
 unfold bV;have h1:i*s<=80*512:=XF hi hs;have h2:(i:Int)*(s:Int)=((i*s:Nat):Int):=by simp
 rw [h2];omega
theorem kZ (w:World) (rows:List (Nat×Nat×Nat)) (v:Value) (hs:l9 rows) (h:gP (rows.map nS) v w) (r i:Nat) (hr:r < rows.length) (hi:i<=80):
  QB 175 #[v,(r:Int),(i:Int)] w ((rR (rows.drop (r+1)) i:Nat):Int):=by
 by_cases ht:r+1=rows.length
 ·rw [YD (by omega)];refine (su w _ v h r (i:Int) (by rw [Yv];exact ht)).mono ?_;rintro e w' ⟨rfl,q,rfl⟩;exact ⟨rfl,ay w q⟩
 ·have hr1:r+1 < rows.length:=by omega
  have e:rows.drop (r+1)=rowAt rows (r+1)::rows.drop (r+2):=by rw [Zn hr1];simp [rowAt,hr1]
  rw [e];have hs1:=hs.at (r+1);refine (u_ w _ v h r i (nS (rowAt rows (r+1))) (by rw [YR,dR hr1];rfl) (by simp [nS]) (by simp [nS];omega) (by omega)).mono ?_;rintro e w' ⟨rfl,q,rfl⟩;exact ⟨by simp [nS,rR],ay w q⟩
theorem ur (w:World) (rows:List (Nat×Nat×Nat)) (v:Value) (p:Nat) (hs:l9 rows) (h:gP (rows.map nS) v w) (hp:(rowAt rows 0).2.1=p) (r i:Nat) (hr:r < rows.length) (hi:i<=80):
  QB 213 #[v,(r:Int),(i:Int)] w (bV p (rowAt rows r).2.2 i:Int):=by
 have hs1:=hs.at r;have hs0:=hs.at 0;refine (nN w _ v h r i (nS (rowAt rows r)) (nS (rowAt rows 0)) (by rw [YR,dR hr];rfl) (by rw [YR,dR (by omega)];rfl) (by simp [nS]) (by simp [nS];omega) (by simp [nS]) (by simp [nS];omega) (by omega)).mono ?_;rintro e w' ⟨rfl,q,rfl⟩;exact ⟨by simp [nS,bV,hp],ay w q⟩
theorem wj (B:Nat) (w:World) (rows:List (Nat×Nat×Nat)) (v:Value) (hB:B<=w.heap.size) (ht:bU B w) (hs:l9 rows) (h:gP (rows.map nS) v w) (r i:Nat) (hr1:1<=r) (hr:r < rows.length) (hi:i<=80):
  QB 212 #[v,(r:Int),(i:Int)] w (.string ⟨(gv (rowAt rows (r - 1)).1 (rowAt rows (r - 1)).2.1 i).toArray⟩):=by
 obtain ⟨k,rfl⟩:∃ k,r=k+1:=⟨r - 1,by omega⟩;obtain ⟨b,cap,rfl,hc,hcm,hb,hcell⟩:=h;obtain ⟨a1,a2,a3⟩:=hcell k (nS (rowAt rows k)) (by rw [YR,dR (by omega)];rfl);have hs1:=hs.at k;rw [Yv] at hc ⊢;have e1:((k+1:Nat):Int)=(k:Int)+1:=by omega
 rw [e1,Nat.add_sub_cancel];refine xb B w b rows.length cap k i (rowAt rows k).1 (rowAt rows k).2.1 (rowAt rows k).2.2 _ hB ht hr hc hcm (by omega) (by omega) (by omega) rfl hb a1 a2 a3 ?_;intro wr v' hv;refine zv B wr v' _ _ (jH _ _) (by have:=Nat.min_le_left 8 ((rowAt rows k).2.1 - 8*i);omega) (fun x hx=>?_) hv;obtain ⟨j,hj,rfl⟩:=nH _ _ _ hx;have:=dU ((rowAt rows k).1+8*i+j) (by omega);omega
theorem qh (w:World) (B E fi:Nat) (info cat:Int) (bodies:List (List UInt8)) (S:Bl) (v:Value) (f p:Nat) (hB:B<=w.heap.size) (ht:bU B w) (hf:f<=1000) (hp:p<=80) (hfi:fi<=1000) (hbl:bodies.length<=1000)
  (h:ah (ED B E (fi:Int) info cat bodies) (aW B 229 3 v (cR f p).length (eF (cR f p))) w S):
  CP 177 #[zp E,v] w fun e w'=>e=.returned ((fi+bodies.length+(bS p f p 1).length - 1:Nat):Int)/\∃ S',ah (ED B E (fi:Int) info cat (bodies++bS p f p 1)) (aW B 229 3 v (cR f p).length (eF (cR f p))) w' S'/\Mv S w S' w':=by
 have hs:=iO f p hf hp;have hp0:(rowAt (cR f p) 0).2.1=p:=rfl;have hnl:=ib p f p 1;have hfirst:iu p (cR f p) 1 0=bS p f p 1:=by rw [cR,xX,mj]
 have hne:cR f p≠[]:=by simp [cR]
 have hl1:1<=(cR f p).length:=by simp [cR]
 obtain ⟨rows,hrows⟩:∃ rows,cR f p=rows:=⟨_,rfl⟩;obtain ⟨nodes,hnodes⟩:∃ nodes,bS p f p 1=nodes:=⟨_,rfl⟩;rw [hnodes] at hfirst hnl ⊢;rw [hrows] at h hs hp0 hfirst hne hl1 ⊢;clear hrows hnodes;have hT:∀ d,aJ B (ah (ED B E (fi:Int) info cat d) (aW B 229 3 v rows.length (eF rows))):=fun d=>ah.thing (ED.thing _ _ _ _ _ _) (aW.thing _ _ _ _ _ _)
 have htr0:gP (rows.map nS) v w:=by
  obtain ⟨S1,S2,h1,h2,_⟩:=h;exact lW h2.2 hne
 obtain ⟨b,cap,hv,hc,hcm,hb,_⟩:=id htr0;rw [Yv] at hv hc;subst hv;have tre:∀ {d w1 S1},ah (ED B E (fi:Int) info cat d) (aW B 229 3 (.slice b rows.length cap) rows.length (eF rows)) w1 S1->gP (rows.map nS) (.slice b rows.length cap) w1:=by
  intro d w1 S1 h1;obtain ⟨_,_,_,h2,_⟩:=h1;exact lW h2.2 hne
 have gd:∀ r i,r < rows.length->i < (rowAt rows r).2.1->i<=80:=fun r i hr hi=>by have:=(hs.at r).2.1;omega
 have tb:∀ {S1 w1},Mv S w S1 w1->Below B w w1:=fun m=>m.below (fun _ e=>(hT bodies).ge h e) hB
 have tgt:∀ {d w1 S1},ah (ED B E (fi:Int) info cat d) (aW B 229 3 (.slice b rows.length cap) rows.length (eF rows)) w1 S1->∀ {w2},Below w1 w1 w2->gP (rows.map nS) (.slice b rows.length cap) w2:=fun {d w1 S1} h1 {w2} hb=>(tre h1).on hb
 let up:Nat->Nat->Int:=fun r i=>((rR (rows.drop (r+1)) i:Nat):Int)
 let bl:Nat->Nat->Int:=fun r i=>bV p (rowAt rows r).2.2 i
 let pe:Nat->Nat->List UInt8:=fun r i=>if i<=80 then bt [47,80,97,114,101,110,116] (up r i) else []
 let kd:Nat->Nat->List UInt8:=fun r i=>if i<=80 then gv (rowAt rows (r - 1)).1 (rowAt rows (r - 1)).2.1 i else []
 let it:Nat->Nat->List UInt8:=fun r i=>if i<=80 then Lib.itoa (bl r i) else []
 have hup:∀ r i,i<=80->up r i<=3000:=fun r i hi=>by have:=Dx hs r i hi;show ((rR (rows.drop (r+1)) i:Nat):Int)<=3000;omega
 have hup0:∀ r i,0<=up r i:=fun r i=>by show (0:Int)<=((rR (rows.drop (r+1)) i:Nat):Int);omega
 have hpp:p<=80:=hp;have hbl2:∀ r i,i<=80->-100000<=bl r i/\bl r i<=100000:=fun r i hi=>jR p _ i hpp (hs.at r).2.2 hi
 refine oe w E b rows.length cap (fi+bodies.length+nodes.length - 1) (fun r=>(rowAt rows r).2.1) up bl pe kd it (fun r i=>[60,60,32,47,84,121,112,101,32,47,80,97,103,101,115,32]++pe r i++[47,75,105,100,115,32,91]++kd r i++[93,32,47,67,111,117,110,116,32]++it r i++[32,62,62])
  (fun r i w1=>1<=r/\∃ done S1,done++iu p rows r i=bodies++nodes/\ah (ED B E (fi:Int) info cat done) (aW B 229 3 (.slice b rows.length cap) rows.length (eF rows)) w1 S1/\Mv S w S1 w1)
  _ (by have:=hs.len;omega) hl1 hc hcm (fun r _=>by have:=(hs.at r).2.1;omega) ?_ ?_ ?_ ?_ (fun _ _=>rfl) ?_ ?_ ?_ ?_ ?_ ?_ ?_ ?_ ?_ ?_
 ·intro r i;show (if i<=80 then _ else _:List UInt8).length<=200
  by_cases hi:i<=80
  ·rw [ZN hi];have:=ww [47,80,97,114,101,110,116] (up r i) (by simp) (by have:=hup0 r i;omega) (by have:=hup r i hi;omega);omega
  ·rw [ZO hi];simp
 ·intro r i;show (if i<=80 then _ else _:List UInt8).length<=1000
  by_cases hi:i<=80
  ·rw [ZN hi];have:=(hs.at (r - 1)).1;exact oR _ _ _ (by omega) (by omega)
  ·rw [ZO hi];simp
 ·intro r i;show (if i<=80 then _ else _:List UInt8).length<=30
  by_cases hi:i<=80
  ·rw [ZN hi];have h1:=hbl2 r i hi;have:=ar (bl r i) (by omega) (by omega);omega
  ·rw [ZO hi];simp
 ·omega
 ·exact ⟨ZW _,bodies,S,by rw [hfirst],h,Mv.refl _ _⟩
 ·rintro r i w1 hr ⟨_,d,S1,_,h1,_⟩;obtain ⟨b',cap',hv',_,_,_,hcell⟩:=tre h1;have eb:b'=b:=by
   simp at hv';exact hv'.1.symm
  subst eb;exact (hcell r (nS (rowAt rows r)) (by rw [YR,dR hr];rfl)).2.1
 ·rintro r i w1 hr hi ⟨_,d,S1,_,h1,_⟩ w2 hb2;have:=kZ w2 rows _ hs (tgt h1 hb2) r i hr (gd r i hr hi);exact this
 ·rintro r i w1 hr hi ⟨_,d,S1,_,h1,m1⟩ w2 hb2;have hi80:=gd r i hr hi;have e:pe r i=bt [47,80,97,114,101,110,116] (up r i):=ZN hi80;rw [e];exact dF B w2 _ _ (by simp) (by have:=hup0 r i;omega) (by have:=hup r i hi80;omega) (ht.on ((tb m1).trans (hb2.mono (by have:=(tb m1).size;omega))))
 ·rintro r i w1 hr hi ⟨hr1,d,S1,_,h1,m1⟩ w2 hb2;have hi80:=gd r i hr hi;have e:kd r i=gv (rowAt rows (r - 1)).1 (rowAt rows (r - 1)).2.1 i:=ZN hi80;rw [e];have hz:=(tb m1).size;have:=wj B w2 rows _ (by have:=hb2.size;omega) (ht.on ((tb m1).trans (hb2.mono (by omega)))) hs (tgt h1 hb2) r i hr1 hr hi80;exact this
 ·rintro r i w1 hr hi ⟨_,d,S1,_,h1,_⟩ w2 hb2;have:=ur w2 rows _ p hs (tgt h1 hb2) hp0 r i hr (gd r i hr hi);exact this
 ·rintro r i w1 hr hi ⟨_,d,S1,_,h1,m1⟩ w2 hb2;have hi80:=gd r i hr hi;have e:it r i=Lib.itoa (bl r i):=ZN hi80;rw [e];have hz:=(tb m1).size;have h9:=hbl2 r i hi80;exact bp B w2 _ (by omega) (by omega) (ht.on ((tb m1).trans (hb2.mono (by omega))))
 ·rintro r i w1 hr hi ⟨hr1,d,S1,he,h1,m1⟩ w2 hb2;have hi80:=gd r i hr hi;have h2:=(hT d).grow h1 hb2;obtain ⟨S2,hE,_,back⟩:=ah.fst (aW.thing _ _ _ _ _ _) h2;have hz:=(tb m1).size;have hdl:d.length<=2000:=by
   have:=congrArg List.length he;simp only [ZY] at this;omega
  refine ⟨(fi:Int)+(d.length:Int),(nB w2 B E (fi:Int) info cat d S2 _ hE (by have:=hb2.size;omega) (by omega) (by omega) (by omega)).mono ?_⟩;rintro e w3 ⟨rfl,S3,hE3,m3⟩;obtain ⟨S4,h4,m4⟩:=back _ _ _ hE3 m3;refine ⟨rfl,hr1,_,S4,?_,h4,(m1.trans (Mv.grow hb2 _)).trans m4⟩;rw [ss p rows r i hi] at he;rw [ZS, <-he];congr 1;have e1:pe r i=bt [47,80,97,114,101,110,116] (up r i):=ZN hi80;have e2:kd r i=gv (rowAt rows (r - 1)).1 (rowAt rows (r - 1)).2.1 i:=ZN hi80;have e3:it r i=Lib.itoa (bl r i):=ZN hi80;rw [e1,e2,e3];rfl
 ·rintro r w1 hr ⟨hr1,d,S1,he,h1,m1⟩;exact ⟨by omega,d,S1,by rw [<-mR];exact he,h1,m1⟩
 ·rintro w1 ⟨_,d,S1,he,h1,m1⟩;rw [wT,YZ] at he;subst he;obtain ⟨S2,hE,_,back⟩:=ah.fst (aW.thing _ _ _ _ _ _) h1;obtain ⟨vb,c0,c1,_,_,ow,_⟩:=hE.grown [];obtain ⟨ad,cap2,hform⟩:∃ ad cap,vb=.slice ad (bodies++nodes).length cap:=by
   rcases ow.2 with ⟨hu,hz⟩ | ⟨gg,cap,cur,hu,_⟩
   ·exact ⟨none,0,by rw [hu,hz]⟩
   ·exact ⟨_,_,hu⟩
  rw [hform] at c1;have hln:(bodies++nodes).length=bodies.length+nodes.length:=ZY;refine (kh w1 E (fi:Int) ad _ cap2 c0 c1 (by omega) (by omega) (by omega)).mono ?_;rintro e w2 ⟨rfl,q,rfl⟩;refine ⟨?_,rfl,S1,(hT _).drewN h1 q,m1.drewN q⟩;rw [hln];congr 2;omega
def fB (v:Value) (n:Nat) (xs:List Value) (w:World):Prop:=∃ ad cap,v=.slice ad n cap/\n<=cap/\cap<=9223372036854775807/\(0 < n->∃ b,ad=some ⟨b,0,none⟩/\b < w.heap.size/\∀ i x,xs[i]? =some x->w.cell? (zq b i)=some x)
theorem fB.on {v:Value} {n:Nat} {xs:List Value} {w w':World} (h:fB v n xs w) (g:Below w w w'):fB v n xs w':=by
 obtain ⟨ad,cap,hv,h1,h2,h3⟩:=h;refine ⟨ad,cap,hv,h1,h2,fun hn=>?_⟩;obtain ⟨b,ha,hb,hc⟩:=h3 hn;exact ⟨b,ha,ZK hb g.size,fun i x hx=>(g.cell (p:=zq b i) hb).trans (hc i x hx)⟩
theorem aW.lies {B:Nat} {e:TypeId} {z:Nat} {v:Value} {n:Nat} {xs:List Value} {w:World} {S:Bl} (h:aW B e z v n xs w S):fB v n xs w:=by
 by_cases hn:0 < n
 ·obtain ⟨g,cap,hv,h1,h2,hg⟩:=iF h.2 hn;refine ⟨some ⟨g,0,none⟩,cap,hv,h1,h2,fun _=>⟨g,rfl,hg,fun i x hx=>?_⟩⟩;have:=h.2.cells (g:=g) (by rw [hv];rfl) i x hx;have hadd:(⟨g,0,none⟩:Addr).add i=⟨g,i,none⟩:=by unfold Addr.add;split <;> simp_all
  rwa [hadd] at this
 ·rcases h.2.2 with ⟨hu,hz⟩ | ⟨g,cap,cur,hu,_,hg,h1,h2,_⟩
  ·exact ⟨none,0,by rw [hu,hz],by omega,by omega,fun h0=>absurd h0 hn⟩
  ·exact ⟨some ⟨g,0,none⟩,cap,hu,h1,by unfold maxLen at h2;omega,fun h0=>absurd h0 hn⟩
theorem s_:∀ (l:List (ByteArray×Nat)) (i:Nat) x,l[i]? =some x->(iz l)[i*2]? =some (.string x.1)/\(iz l)[i*2+1]? =some (.int .i64 (x.2:Int))
 | [],i,x,h=>by simp at h
 | a::l,0,x,h=>by simp at h;subst h;exact ⟨rfl,rfl⟩
 | a::l,i+1,x,h=>by
  obtain ⟨h1,h2⟩:=s_ l i x (by simpa using h);have e:(i+1)*2=i*2+2:=by omega
  rw [e];exact ⟨h1,h2⟩
theorem zm:∀ (l:List (Int×Int)) (i:Nat) x,l[i]? =some x->(rN l)[i*2]? =some (.int .i64 x.1)/\(rN l)[i*2+1]? =some (.int .i64 x.2)
 | [],i,x,h=>by simp at h
 | a::l,0,x,h=>by simp at h;subst h;exact ⟨rfl,rfl⟩
 | a::l,i+1,x,h=>by
  obtain ⟨h1,h2⟩:=zm l i x (by simpa using h);have e:(i+1)*2=i*2+2:=by omega
  rw [e];exact ⟨h1,h2⟩
theorem pL {w:World} {b o:Nat} {x y:Value} (h0:w.cell? (zq b o)=some x) (h1:w.cell? (zq b (o+1))=some y):w.rangeAt b o [x,y]:=by
 intro j v hv
 match j,hv with
 | 0,hv=>simp at hv;subst hv;exact h0
 | 1,hv=>simp at hv;subst hv;exact h1
 | (j+2),hv=>simp at hv
theorem gX (l:List UInt8):(bc l).length<=4*l.length+2:=by
 have:=ii l;simp only [bc,ZY,ZX,ZR];omega
theorem ED.cells {B E:Nat} {first info cat:Int} {bodies:List (List UInt8)} {w:World} {S:Bl} (h:ED B E first info cat bodies w S):∃ ad cap,w.cell? E=first/\w.cell? (zq E 1)=some (.slice ad bodies.length cap):=by
 obtain ⟨vb,c0,c1,_,_,ow,_⟩:=h.grown [];obtain ⟨ad,cap,rfl⟩:=eL ow;exact ⟨ad,cap,c0,c1⟩
def ax (ms:List (ByteArray×Nat)):List (List UInt8×Nat):=ms.map fun m=>(m.1.data.toList,m.2)
theorem pH (w:World) (B E fi fp:Nat) (info cat:Int) (bodies:List (List UInt8)) (S:Bl) (ad:Option Addr) (cap:Nat) (ms:List (ByteArray×Nat)) (hB:B<=w.heap.size) (ht:bU B w) (hfi:fi<=1000) (hfp:fp<=1000) (hbl:bodies.length<=1000) (hm:ms.length<=20) (hms:∀ m∈ms,m.1.size<=100/\m.2<=80)
  (hL:fB (.slice ad ms.length cap) ms.length (iz ms) w) (hlow:0 < ms.length->∀ b,ad=some ⟨b,0,none⟩->b < B) (h:ED B E (fi:Int) info cat bodies w S):
  CP 178 #[zp E,.slice ad ms.length cap,(fp:Int)] w fun e w'=>e=.returned ((if ax ms=[] then 0 else fi+bodies.length:Nat):Int)/\∃ S',ED B E (fi:Int) info cat (bodies++dd (fi+bodies.length) fp (ax ms)) w' S'/\Mv S w S' w':=by
 by_cases h0:ms=[]
 ·subst h0;refine (ol w E cap fp ad).mono ?_;rintro e w' ⟨rfl,rfl⟩;exact ⟨by simp [ax],S,by simpa [dd,ax] using h,Mv.refl _ _⟩
 have hl0:0 < ms.length:=Yn.2 h0;obtain ⟨_,_,hv,hcap,hcap2,hcell⟩:=hL;simp at hv;obtain ⟨rfl,rfl⟩:=hv;obtain ⟨b,had,hb,hcl⟩:=hcell hl0;clear hcell;subst had;have hbB:=hlow hl0 b rfl;have hne:ax ms≠[]:=by simp [ax,h0]
 rw [ZO hne];have hT:∀ d,aJ B (ED B E (fi:Int) info cat d):=fun d=>ED.thing _ _ _ _ _ _
 have tb:∀ {S1 w1},Mv S w S1 w1->Below B w w1:=fun m=>m.below (fun _ e=>(hT bodies).ge h e) hB
 have at_:∀ i,i < ms.length->∃ x,ms[i]? =some x/\ms.getD i (⟨#[]⟩,0)=x/\x.1.size<=100/\x.2<=80:=fun i hi=>by
  refine ⟨ms[i],ZM hi,by simp [hi],?_⟩;exact hms _ (Yp hi)
 have mm:(ax ms).length=ms.length:=by simp [ax]
 have hall:fi+bodies.length<=2000:=by omega
 obtain ⟨all,hall2⟩:∃ all,all=fi+bodies.length:=⟨_,rfl⟩;rw [<-hall2];rw [<-hall2] at hall;have adds:∀ (d:List (List UInt8)) (s:List UInt8) w1 S1,d.length<=2000->ED B E (fi:Int) info cat d w1 S1->Mv S w S1 w1->∀ w2,Below w1 w1 w2->∃ k,CP 171 #[zp E,.string ⟨s.toArray⟩] w2 fun e w'=>e=.returned (.int .i64 k)/\∃ S',ED B E (fi:Int) info cat (d++[s]) w' S'/\Mv S w S' w':=by
  intro d s w1 S1 hd h1 m1 w2 hb2;have hz:=(tb m1).size;refine ⟨(fi:Int)+(d.length:Int),(nB w2 B E (fi:Int) info cat d S1 s ((hT d).grow h1 hb2) (by have:=hb2.size;omega) (by omega) (by omega) (by omega)).mono ?_⟩;rintro e w3 ⟨rfl,S3,h3,m3⟩;exact ⟨rfl,S3,h3,(m1.trans (Mv.grow hb2 _)).trans m3⟩
 have tabs:∀ {S1 w1},Mv S w S1 w1->∀ {w2},Below w1 w1 w2->bU B w2:=fun {S1 w1} m1 {w2} hb2=>ht.on ((tb m1).trans (hb2.mono (by have:=(tb m1).size;omega)))
 refine oC w E b ms.length cap fp all (fun i=>(ms.getD i (⟨#[]⟩,0)).1) (fun i=>(ms.getD i (⟨#[]⟩,0)).2) (fun i=>bc (ms.getD i (⟨#[]⟩,0)).1.data.toList) (Lib.itoa (ms.length:Int)) (fun i=>iK all ms.length fp i (ms.getD i (⟨#[]⟩,0)).1.data.toList (ms.getD i (⟨#[]⟩,0)).2) (f_ all ms.length)
  (fun i w1=>∃ S1,ED B E (fi:Int) info cat (bodies++(f_ all ms.length::bK all ms.length fp 0 ((ax ms).take i))) w1 S1/\Mv S w S1 w1)
  (fun w1=>∃ q,w1=w.drewN q) _ hl0 hm hcap hcap2 (by omega) (by omega) ?_ ?_ ?_ rfl (fun _ _=>rfl) ?_ ?_ ?_ ?_ ?_ ?_ ?_ ?_ ?_ ?_
 ·intro i hi;obtain ⟨x,_,e,_,h2⟩:=at_ i hi;show (ms.getD i (⟨#[]⟩,0)).2<=1000
  rw [e];omega
 ·have:=ar (ms.length:Int) (by omega) (by omega);omega
 ·intro i hi;obtain ⟨x,_,e,h1,_⟩:=at_ i hi;show (bc (ms.getD i (⟨#[]⟩,0)).1.data.toList).length<=500
  rw [e];have:=gX x.1.data.toList;rw [aP] at this;omega
 ·obtain ⟨ad2,cap2,c0,c1⟩:=h.cells;refine (kh w E (fi:Int) ad2 _ cap2 c0 c1 (by omega) (by omega) (by omega)).mono ?_;rintro e w2 ⟨rfl,q,rfl⟩;exact ⟨by rw [hall2];congr 2,q,rfl⟩
 ·rintro w1 ⟨q,rfl⟩ key k hk hk2 w2 hb2;exact dF B w2 key _ hk (by omega) (by omega) (tabs ((Mv.refl S w).drewN q) hb2)
 ·rintro w1 ⟨q,rfl⟩ w2 hb2;exact bp B w2 _ (by omega) (by omega) (tabs ((Mv.refl S w).drewN q) hb2)
 ·rintro w1 ⟨q,rfl⟩ w2 hb2;obtain ⟨k,hk⟩:=adds bodies (f_ all ms.length) (w.drewN q) S (by omega) ((hT _).drewN h q) ((Mv.refl S w).drewN q) w2 hb2;refine ⟨k,hk.mono ?_⟩;rintro e w' ⟨rfl,S',h',m'⟩;exact ⟨rfl,S',by simpa [bK] using h',m'⟩
 ·rintro i w1 hi ⟨S1,h1,m1⟩;obtain ⟨x,hx,e,_⟩:=at_ i hi;show w1.rangeAt b (i*2) [.string (ms.getD i (⟨#[]⟩,0)).1,.int .i64 ((ms.getD i (⟨#[]⟩,0)).2:Int)]
  rw [e];obtain ⟨a1,a2⟩:=s_ ms i x hx;exact pL (((tb m1).cell (p:=⟨b,_,none⟩) hbB).trans (hcl _ _ a1)) (((tb m1).cell (p:=⟨b,_,none⟩) hbB).trans (hcl _ _ a2))
 ·rintro i w1 hi ⟨S1,h1,m1⟩ key k hk hk1 hk2 w2 hb2;exact dF B w2 key _ hk (by omega) (by omega) (tabs m1 hb2)
 ·rintro i w1 hi ⟨S1,h1,m1⟩ w2 hb2;obtain ⟨x,hx,e,hx1,_⟩:=at_ i hi;show CP _ #[.string (ms.getD i (⟨#[]⟩,0)).1] w2 fun e w'=>e=.returned (.string ⟨(bc (ms.getD i (⟨#[]⟩,0)).1.data.toList).toArray⟩)/\_
  rw [e];exact jK w2 x.1 (by omega)
 ·rintro i w1 hi ⟨S1,h1,m1⟩ k hk w2 hb2;exact lB B w2 _ (by omega) (by omega) (tabs m1 hb2)
 ·rintro i w1 hi ⟨S1,h1,m1⟩ w2 hb2;obtain ⟨x,hx,e,_⟩:=at_ i hi;obtain ⟨k,hk⟩:=adds _ (iK all ms.length fp i x.1.data.toList x.2) w1 S1 (by
   rw [ZY,ZX,dN,Ze];omega) h1 m1 w2 hb2
  refine ⟨k,?_⟩;show CP _ #[_,.string ⟨(iK all ms.length fp i (ms.getD i (⟨#[]⟩,0)).1.data.toList (ms.getD i (⟨#[]⟩,0)).2).toArray⟩] w2 _
  rw [e];refine hk.mono ?_;rintro e w' ⟨rfl,S',h',m'⟩;refine ⟨rfl,S',?_,m'⟩;have hil:i < (ax ms).length:=by omega
  have hxe:(ax ms)[i]=(x.1.data.toList,x.2):=by
   have:(ax ms)[i]? =some (x.1.data.toList,x.2):=by simp [ax,hx]
   rw [ZM hil] at this;exact YI this
  rw [Zv hil,l8,hxe,Ze,Yr (by omega),YF];simpa using h'
 ·rintro w1 ⟨S1,h1,m1⟩;refine ⟨rfl,S1,?_,m1⟩;rw [Zy (by omega)] at h1;rw [dd,ZO hne,mm];exact h1
end Go.Proofs.YtbklfkpjoinofaaGreatDoor
