import Derived.Test.YtbklfkpjoinofaaGreatDoorA26
import Derived.Test.YtbklfkpjoinofaaGreatDoorA10
import Derived.Test.YtbklfkpjoinofaaGreatDoorA14
set_option linter.all false
set_option maxRecDepth 100000
set_option maxHeartbeats 8000000
namespace Go.Proofs.YtbklfkpjoinofaaGreatDoor
open Go.RowKit Go.Proofs.Tryz
def gr (n:Nat):List UInt8:=Lib.repeatL [48] (10 - (Lib.itoa (n:Int)).length)++Lib.itoa (n:Int)
theorem ov (B:Nat) (w:World) (n:Nat) (hn:n<=4000000000) (hB:B<=w.heap.size) (ht:bU B w) (hr:(Lib.repeatL [48] (10 - (Lib.itoa (n:Int)).length)).length<=10):
  QB 184 #[(n:Int)] w (.string ⟨(gr n).toArray⟩):=by
 have HI:=aa (bp B w (n:Int) (by omega) (by omega) ht);have hil:=av (n:Int) (by omega) (by omega);unfold gr;obtain ⟨si,hsi⟩:∃ si,Lib.itoa (n:Int)=si:=⟨_,rfl⟩;rw [hsi] at HI hil hr ⊢;clear hsi;have hz:=ae si;have HR:=aa (fun wx=>Tryz.strings_Repeat ⟨#[48]⟩ (10 - si.length) wx (by omega) (by simp [ByteArray.size];omega));obtain ⟨rp,hrp⟩:∃ rp,Lib.repeatL [48] (10 - si.length)=rp:=⟨_,rfl⟩;have e48:(⟨#[48]⟩:ByteArray).data.toList=[48]:=rfl;rw [e48,hrp] at HR;rw [hrp] at hr ⊢;clear hrp e48;have hz2:=ae rp;have hmx:max 0 (10 - (si.length:Int))=((10 - si.length:Nat):Int):=by omega
 go_enter func184,ntmps184
 go_wp2_with fail
 refine HI.out.mono ?_;rintro e w1 ⟨rfl,hB1⟩;have HX:=aa (HR.out w1);clear HR HI;go_wp2_with fail
 refine (aE HX.out (by simp) rfl).mono ?_;rintro e w2 ⟨rfl,hB2⟩;go_wp2;go_ret;exact ⟨congrArg Ending.returned (aT (by simp)),hB1.trans (hB2.mono hB1.size)⟩
def eF:List (Nat×Nat×Nat)->List Value
 | []=>[]
 | r::l=>.int .i64 (r.1:Int)::.int .i64 (r.2.1:Int)::.int .i64 (r.2.2:Int)::eF l
theorem pi (l:List (Nat×Nat×Nat)) (r:Nat×Nat×Nat):eF (l++[r])=eF l++[.int .i64 (r.1:Int),.int .i64 (r.2.1:Int),.int .i64 (r.2.2:Int)]:=by
 induction l with
 | nil=>rfl
 | cons a r ih=>simp only [Zy,eF,ih]
def cP (f c s:Nat):List (Nat×Nat×Nat):=if c<=8 then [(f+c,1,s*8)] else (f+c,(c+7) / 8,s*8)::cP (f+c) ((c+7) / 8) (s*8)
termination_by c
decreasing_by omega
def cR (first pages:Nat):List (Nat×Nat×Nat):=(first,pages,1)::cP first pages 1
theorem Tryz.infoRow:(Tryz.prog.info? 229).map (fun i=>(i.zero,i.size,i.bytes))=some (some (.agg #[oz,oz,oz]),3,24):=by kernel_rfl
theorem tS (w:World) (x y z:Value) (t:TypeId):∀ j u,[x,y,z][j]? =some u->(w.alloc (.cells #[x,y,z] t)).cell? ((⟨w,0,none⟩:Addr).add j)=some u:=by
 intro j u hj
 match j,hj with
 | 0,hj=>simp at hj;subst hj;simp [Addr.add]
 | 1,hj=>simp at hj;subst hj;simp [Addr.add]
 | 2,hj=>simp at hj;subst hj;simp [Addr.add]
 | (j+3),hj=>simp at hj
def i7 (w:World) (b:Nat) (x y z:Int):World:=((w.setCell b x).setCell (zq b 1) y).setCell (zq b 2) z
theorem re {wr:World} {b:Nat} {v:Value} {n:Nat} {xs:List Value} (x y z:Int) (ow:wr.ownsRow (b+1) 229 3 v n xs):(i7 wr b x y z).ownsRow (b+1) 229 3 v n xs:=
 ownsRow_setCell_below (ownsRow_setCell_below (ownsRow_setCell_below ow (a:=b) (YW b) _) (a:=zq b 1) (YW b) _) (a:=zq b 2) (YW b) _
theorem rE {w wr w7:World} {b:Nat} {v:Value} {n:Nat} {xs:List Value} {f c s:Nat} {x y z:Int} {o:Obj} (hb:b=w.heap.size) (ow:wr.ownsRow (b+1) 229 3 v n xs) (c0:wr.cell? b=(f:Int)) (c1:wr.cell? (zq b 1)=(c:Int)) (c2:wr.cell? (zq b 2)=(s:Int)) (fz:∀ o,wr.frozen? (zq b o)=false) (hsz:b < wr.heap.size) (hBe:Below b w wr)
  (hg:((i7 wr b x y z).alloc o).grownBy w7 v.ownBlock):
  w7.cell? b=x/\w7.cell? (zq b 1)=y/\w7.cell? (zq b 2)=z/\(∀ o,w7.frozen? (zq b o)=false)/\b < w7.heap.size/\Below b w w7:=by
 have hs3:(i7 wr b x y z).heap.size=wr.heap.size:=by simp [i7,World.setCell]
 have ne:v.ownBlock≠some b:=fun e=>by have:=(ow.lt _ e).1;omega
 have kb:w7.heap[b]? =(i7 wr b x y z).heap[b]? :=(hg.block b (by simp [hs3];omega) (fun e=>ne e.symm)).trans (ZC _ _ b (by rw [hs3];exact hsz));have d0:(i7 wr b x y z).cell? b=x:=by
  unfold i7;rw [ZT _ _ _ _ (by simp),ZT _ _ _ _ (by simp)];exact ZA _ _ _ c0
 have d1:(i7 wr b x y z).cell? (zq b 1)=y:=by
  unfold i7;rw [ZT _ _ _ _ (by simp)];exact ZA (u:=.int .i64 (c:Int)) _ _ _ (by rw [ZT _ _ _ _ (by simp)];exact c1)
 have d2:(i7 wr b x y z).cell? (zq b 2)=z:=by
  unfold i7;exact ZA (u:=.int .i64 (s:Int)) _ _ _ (by rw [ZT _ _ _ _ (by simp),ZT _ _ _ _ (by simp)];exact c2)
 refine ⟨(ZS (a:=b) kb).trans d0,(ZS (a:=zq b 1) kb).trans d1,(ZS (a:=zq b 2) kb).trans d2,fun o=>?_,?_,?_⟩
 ·rw [ZJ (a:=zq b o) kb];unfold i7;rw [ZG,ZG,ZG];exact fz o
 ·have:=hg.size;simp [hs3] at this;omega
 ·have h3:Below b w (i7 wr b x y z):=((hBe.setCell (p:=b) (ZX _) _).setCell (p:=zq b 1) (ZX _) _).setCell (p:=zq b 2) (ZX _) _;exact (h3.alloc (by rw [hs3];omega) _).grown hg (by simp [hs3];omega) (fun k hk=>by have:=(ow.lt k hk).1;omega)
theorem tz (w:World) (first pages:Nat) (hf:first<=1000) (hp:pages<=80):
  CP 172 #[(first:Int),(pages:Int)] w fun e w'=>∃ v,e=.returned v/\w'.ownsRow (w.heap.size+1) 229 3 v (cR first pages).length (eF (cR first pages))/\Below w w w':=by
 go_enter func172,ntmps172
 go_wp2;go_loopg [6,7] 100 (fun g x _ wr=>∃ (dn:List (Nat×Nat×Nat)) (v:Value) (f c s:Nat),x=v/\c < g/\((s<=1/\c<=80/\f<=1000)\/(s<=8/\c<=10/\f<=1080)\/(s<=64/\c<=2/\f<=1090))/\dn.length+c<=90/\wr.ownsRow (w.heap.size+1) 229 3 v dn.length (eF dn)/\wr.cell? w=some (.int .i64 (f:Int))/\wr.cell? (zq w 1)=some (.int .i64 (c:Int))/\wr.cell? (zq w 2)=some (.int .i64 (s:Int))/\(∀ o,wr.frozen? (zq w o)=false)/\w.heap.size < wr.heap.size/\Below w w wr/\Hid (dn++cP f c s=cR first pages))
 case atStart=>
  refine ⟨[(first,pages,1)],_,first,pages,1,rfl,by omega,.inl ⟨by omega,by omega,by omega⟩,by simp;omega,⟨by simp [eF],.inr ⟨w.heap.size+1,1,_,rfl,ZX _,YE _ _ _,by simp,by unfold maxLen;omega,by simp,by simp [eF]⟩⟩,?_,?_,?_,fun o=>?_,by simp;omega,bu _ _ _,rfl⟩
  ·rw [ZS (a:=w) (Xm (w.alloc _) _ (r:=w.heap.size) (by simp))];simp
  ·rw [ZS (a:=zq w 1) (Xm (w.alloc _) _ (r:=w.heap.size) (by simp))];simp
  ·rw [ZS (a:=zq w 2) (Xm (w.alloc _) _ (r:=w.heap.size) (by simp))];simp
  ·rw [ZJ (a:=zq w o) (Xm (w.alloc _) _ (r:=w.heap.size) (by simp))];simp
 case round=>
  obtain ⟨dn,v,f,c,s,hxv,hcg,hbd,hdl,ow,c0,c1,c2,fz,hsz,hBe,HR⟩:=hrel;obtain ⟨ad,kcap,hform⟩:∃ ad cap,v=Value.slice ad dn.length cap:=by
   rcases ow.2 with ⟨hu,hz⟩ | ⟨gg,cap,cur,hu,_⟩
   ·exact ⟨none,0,by rw [hu,hz]⟩
   ·exact ⟨_,_,hu⟩
  subst hform hxv;have f0:=fz 0;have f1:=fz 1;have f2:=fz 2;obtain ⟨L,hL⟩:∃ L,dn.length=L:=⟨_,rfl⟩;rw [hL] at ow hdl ⊢;have ne:(Value.slice ad L kcap).ownBlock≠some w.heap.size:=fun e=>by have:=(ow.lt _ e).1;omega
  have hc80:c<=80:=by omega
  have hs64:s<=64:=by omega
  have hf11:f<=1090:=by omega
  by_cases h8:c<=8
  ·have hq:max 1 (((c:Int)+8 - 1) / 8)=1:=by omega
   go_wp2_with (at_builtin;refine bQ rfl (.tmp 29) (.tmp 31) 221 rfl 229 (.agg #[oz,oz,oz]) 3 24 Tryz.infoRow rfl (by omega) underlying221 (w.heap.size+1) _ L (eF dn) rfl ((re ((f:Int)+(c:Int)) 1 ((s:Int)*8) ow).alloc _) (by simp [World.setCell];omega) ⟨wr,0,none⟩ 1 rfl [.int .i64 ((f:Int)+(c:Int)),.int .i64 1,.int .i64 ((s:Int)*8)] rfl (by simpa [i7,World.setCell] using tS (i7 wr w.heap.size ((f:Int)+(c:Int)) 1 ((s:Int)*8)) _ _ _ 229) (by intro u hu;simp at hu;rcases hu with rfl | rfl | rfl <;> rfl) (by omega) (by omega) ?_)
   intro v7 w7 hO7 hg7 hat7;have HS:=aa (rE (f:=f) (c:=c) (s:=s) (x:=(f:Int)+(c:Int)) (y:=1) (z:=(s:Int)*8) rfl ow c0 c1 c2 fz hsz hBe hg7);have HO:Hid (w7.ownsRow (w.heap.size+1) 229 3 v7 (dn++[(f+c,1,s*8)]).length (eF (dn++[(f+c,1,s*8)]))):=by
    show w7.ownsRow _ _ _ _ _ _
    rw [pi,ZZ,hL];exact hO7
   have hform7:∃ ad L cap,v7=Value.slice ad L cap:=by
    rcases hO7.2 with ⟨hu,_⟩ | ⟨gg,cap,cur,hu,_⟩
    ·exact ⟨_,_,_,hu⟩
    ·exact ⟨_,_,_,hu⟩
   obtain ⟨ad7,L7,cap7,hv7⟩:=hform7;rw [hv7] at HO ⊢;clear hv7 hO7 hg7 hat7 ow c0 c1 c2 f0 f1 f2 fz hBe;go_wp2;go_ret;refine ⟨_,rfl,?_,HS.out.2.2.2.2.2⟩;have e:dn++[(f+c,1,s*8)]=cR first pages:=by
    have:=HR.out;rw [cP,ZO h8] at this;exact this
   rw [<-e];exact HO.out
  ·obtain ⟨q,hqe⟩:∃ q,(c+7) / 8=q:=⟨_,rfl⟩;have hq:max 1 (((c:Int)+8 - 1) / 8)=(q:Int):=by omega
   have hq1:¬ (q:Int)=1:=by omega
   have hq2:q<=10:=by omega
   have hbd2:(s*8<=1/\q<=80/\f+c<=1000)\/(s*8<=8/\q<=10/\f+c<=1080)\/(s*8<=64/\q<=2/\f+c<=1090):=by omega
   have hqc:q < c:=by omega
   have HR2:Hid ((dn++[(f+c,q,s*8)])++cP (f+c) q (s*8)=cR first pages):=by
    show _=_
    have:=HR.out;rw [cP,ZU h8,hqe] at this;rw [ZQ];exact this
   clear hqe HR hbd;go_wp2_with (at_builtin;refine bQ rfl (.tmp 29) (.tmp 31) 221 rfl 229 (.agg #[oz,oz,oz]) 3 24 Tryz.infoRow rfl (by omega) underlying221 (w.heap.size+1) _ L (eF dn) rfl ((re ((f:Int)+(c:Int)) (q:Int) ((s:Int)*8) ow).alloc _) (by simp [World.setCell];omega) ⟨wr,0,none⟩ 1 rfl [.int .i64 ((f:Int)+(c:Int)),.int .i64 (q:Int),.int .i64 ((s:Int)*8)] rfl (by simpa [i7,World.setCell] using tS (i7 wr w.heap.size ((f:Int)+(c:Int)) (q:Int) ((s:Int)*8)) _ _ _ 229) (by intro u hu;simp at hu;rcases hu with rfl | rfl | rfl <;> rfl) (by omega) (by omega) ?_)
   intro v7 w7 hO7 hg7 hat7;have HS:=aa (rE (f:=f) (c:=c) (s:=s) (x:=(f:Int)+(c:Int)) (y:=(q:Int)) (z:=(s:Int)*8) rfl ow c0 c1 c2 fz hsz hBe hg7);have HO:Hid (w7.ownsRow (w.heap.size+1) 229 3 v7 (dn++[(f+c,q,s*8)]).length (eF (dn++[(f+c,q,s*8)]))):=by
    show w7.ownsRow _ _ _ _ _ _
    rw [pi,ZZ,hL];exact hO7
   have hform7:∃ ad L cap,v7=Value.slice ad L cap:=by
    rcases hO7.2 with ⟨hu,_⟩ | ⟨gg,cap,cur,hu,_⟩
    ·exact ⟨_,_,_,hu⟩
    ·exact ⟨_,_,_,hu⟩
   obtain ⟨ad7,L7,cap7,hv7⟩:=hform7;rw [hv7] at HO ⊢;clear hv7 hO7 hg7 hat7 ow c0 c1 c2 f0 f1 f2 fz hBe;go_wp2;go_roundg (gk - 1)
   case measure=>omega
   case rel=>exact ⟨dn++[(f+c,q,s*8)],_,f+c,q,s*8,rfl,by omega,hbd2,by rw [ZZ,hL];simp;omega,HO.out,HS.out.1,HS.out.2.1,HS.out.2.2.1,HS.out.2.2.2.1,HS.out.2.2.2.2.1,HS.out.2.2.2.2.2,HR2.out⟩
def nS (r:Nat×Nat×Nat):Int×Int×Int:=((r.1:Int),(r.2.1:Int),(r.2.2:Int))
theorem zS (l:List (Nat×Nat×Nat)):∀ (j:Nat) r,l[j]? =some r->(eF l)[j*3]? =some (.int .i64 (r.1:Int))/\(eF l)[j*3+1]? =some (.int .i64 (r.2.1:Int))/\(eF l)[j*3+2]? =some (.int .i64 (r.2.2:Int)):=by
 induction l with
 | nil=>intro j r h;simp at h
 | cons a l ih=>
  intro j r h
  match j,h with
  | 0,h=>simp at h;subst h;exact ⟨rfl,rfl,rfl⟩
  | j+1,h=>
   have h':l[j]? =some r:=by simpa using h
   obtain ⟨a1,a2,a3⟩:=ih j r h';have e0:(j+1)*3=j*3+3:=by omega
   rw [e0];exact ⟨a1,a2,a3⟩
theorem lW {w:World} {base:Nat} {v:Value} {rows:List (Nat×Nat×Nat)} (h:w.ownsRow base 229 3 v rows.length (eF rows)) (hn:rows≠[]):gP (rows.map nS) v w:=by
 rcases id h.2 with ⟨_,h0⟩ | ⟨g,cap,cur,rfl,hb,hg,hle,hcm,hcs,_⟩
 ·exact absurd (Zh h0) hn
 ·refine ⟨g,cap,by rw [YG],by rw [YG];exact hle,hcm,(h.lt g rfl).2,?_⟩;intro j r hr;rw [YT] at hr
  cases hx:rows[j]? with
  | none=>rw [hx] at hr;simp at hr
  | some y=>
   rw [hx] at hr;simp at hr;subst hr;obtain ⟨a1,a2,a3⟩:=zS rows j y hx;have q:∀ i u,(eF rows)[i]? =some u->w.cell? (zq g i)=some u:=by
    intro i u hu;have:=h.cells (g:=g) rfl i u hu;have hadd:(⟨g,0,none⟩:Addr).add i=⟨g,i,none⟩:=by unfold Addr.add;split <;> simp_all
    rwa [hadd] at this
   exact ⟨q _ _ a1,q _ _ a2,q _ _ a3⟩
def jN (up:Int) (kids:List UInt8) (count:Int):List UInt8:=
 [60,60,32,47,84,121,112,101,32,47,80,97,103,101,115,32]++bt [47,80,97,114,101,110,116] up++[47,75,105,100,115,32,91]++kids++[93,32,47,67,111,117,110,116,32]++Lib.itoa count++[32,62,62]
def gv (f c g:Nat):List UInt8:=Lib.join (cf (f+8*g) (min 8 (c - 8*g))) [32]
def bV (p s g:Nat):Int:=min (s:Int) ((p:Int) - (g:Int)*(s:Int))
def bS (p f c s:Nat):List (List UInt8):=
 if c<=8 then [jN 0 (gv f c 0) (bV p (s*8) 0)]
 else (List.range ((c+7) / 8)).map (fun g=>jN ((f+c+(c+7) / 8+g / 8:Nat):Int) (gv f c g) (bV p (s*8) g))++bS p (f+c) ((c+7) / 8) (s*8)
termination_by c
decreasing_by omega
def rR:List (Nat×Nat×Nat)->Nat->Nat
 | [],_=>0
 | q::_,i=>q.1+i / 8
def dJ (p:Nat):Nat×Nat×Nat->List (Nat×Nat×Nat)->List (List UInt8)
 | _,[]=>[]
 | b,r::rest=>(List.range r.2.1).map (fun i=>jN ((rR rest i:Nat):Int) (gv b.1 b.2.1 i) (bV p r.2.2 i))++dJ p r rest
theorem lv (f c s:Nat) (i:Nat):rR (cP f c s) i=f+c+i / 8:=by
 rw [cP];split <;> rfl
theorem sw (p f c s:Nat):dJ p (f,c,s) (cP f c s)=bS p f c s:=by
 induction c using Nat.strongRecOn generalizing f s with
 | _ c ih=>
  rw [cP,bS];by_cases h:c<=8
  ·rw [ZO h,ZO h];simp [dJ,rR]
  ·rw [ZU h,ZU h];simp only [dJ];rw [ih ((c+7) / 8) (by omega)];congr 1;refine Yi fun g _=>?_
   rw [lv]
theorem mj (p f:Nat):dJ p (f,p,1) (cP f p 1)=bS p f p 1:=sw p f p 1
def aF:Nat->List (List UInt8)->List UInt8
 | _,[]=>[]
 | n,b::r=>aK n b++aF (n+1) r
theorem fj (n:Nat) (l:List (List UInt8)) (b:List UInt8):aF n (l++[b])=aF n l++aK (n+l.length) b:=by
 induction l generalizing n with
 | nil=>simp [aF]
 | cons a r ih=>simp only [Zy,aF,ih,ZY,ZQ];congr 3;omega
theorem dX (n:Nat) (l m:List (List UInt8)):aF n (l++m)=aF n l++aF (n+l.length) m:=by
 induction l generalizing n with
 | nil=>simp [aF]
 | cons a r ih=>simp only [Zy,aF,ih,ZY,ZQ];congr 3;omega
def aO:Nat->Nat->List (List UInt8)->List Nat
 | _,_,[]=>[]
 | a,n,b::r=>a::aO (a+(aK n b).length) (n+1) r
theorem il (a n:Nat) (l:List (List UInt8)) (b:List UInt8):aO a n (l++[b])=aO a n l++[a+(aF n l).length]:=by
 induction l generalizing a n with
 | nil=>simp [aO,aF]
 | cons c r ih=>simp only [Zy,aO,ih,aF,ZZ,Zn]
def f_ (all m:Nat):List UInt8:=
 [60,60,32,47,84,121,112,101,32,47,79,117,116,108,105,110,101,115,32]++bt [47,70,105,114,115,116] ((all+1:Nat):Int)++bt [47,76,97,115,116] ((all+m:Nat):Int)++[47,67,111,117,110,116,32]++Lib.itoa (m:Int)++[32,62,62]
def iK (all m fp i:Nat) (t:List UInt8) (p:Nat):List UInt8:=
 [60,60,32,47,84,105,116,108,101,32]++bc t++[32]++bt [47,80,97,114,101,110,116] (all:Int)++bt [47,80,114,101,118] (if i=0 then 0 else ((all+i:Nat):Int))++bt [47,78,101,120,116] (if i+1=m then 0 else ((all+i+2:Nat):Int))++[47,68,101,115,116,32,91]++aD ((fp+p:Nat):Int)++[32,47,70,105,116,93,32,62,62]
def bK (all m fp:Nat):Nat->List (List UInt8×Nat)->List (List UInt8)
 | _,[]=>[]
 | i,x::r=>iK all m fp i x.1 x.2::bK all m fp (i+1) r
def dd (all fp:Nat) (ms:List (List UInt8×Nat)):List (List UInt8):=if ms=[] then [] else f_ all ms.length::bK all ms.length fp 0 ms
theorem l8 (all m fp i:Nat) (l:List (List UInt8×Nat)) (x:List UInt8×Nat):bK all m fp i (l++[x])=bK all m fp i l++[iK all m fp (i+l.length) x.1 x.2]:=by
 induction l generalizing i with
 | nil=>simp [bK]
 | cons a r ih=>simp only [Zy,bK,ih,ZY];congr 4;omega
def ej:List UInt8:=[60,60,32,47,84,121,112,101,32,47,70,111,110,116,32,47,83,117,98,116,121,112,101,32,47,84,121,112,101,49,32,47,66,97,115,101,70,111,110,116,32,47,72,101,108,118,101,116,105,99,97,32,62,62]
def vO (font p i:Nat) (z:Int×Int):List UInt8:=pn (bJ z.1) (bJ z.2) (bt [47,80,97,114,101,110,116] ((font+1+p+i / 8:Nat):Int)) (bt [47,67,111,110,116,101,110,116,115] ((2*i+1:Nat):Int)) (bt [47,70,49] (font:Int))
def cA (font p:Nat):Nat->List (Int×Int)->List (List UInt8)
 | _,[]=>[]
 | i,z::r=>vO font p i z::cA font p (i+1) r
theorem pV (font p i:Nat) (l:List (Int×Int)) (z:Int×Int):cA font p i (l++[z])=cA font p i l++[vO font p (i+l.length) z]:=by
 induction l generalizing i with
 | nil=>simp [cA]
 | cons a r ih=>simp only [Zy,cA,ih,ZY];congr 4;omega
theorem dZ (font p i:Nat) (l:List (Int×Int)):(cA font p i l).length=l.length:=by
 induction l generalizing i with
 | nil=>rfl
 | cons a r ih=>simp [cA,ih]
theorem dN (all m fp i:Nat) (l:List (List UInt8×Nat)):(bK all m fp i l).length=l.length:=by
 induction l generalizing i with
 | nil=>rfl
 | cons a r ih=>simp [bK,ih]
def gx (t:List UInt8):List UInt8:=[60,60,32,47,84,105,116,108,101,32]++bc t++[32,62,62]
def vu (root out:Nat):List UInt8:=[60,60,32,47,84,121,112,101,32,47,67,97,116,97,108,111,103,32,47,80,97,103,101,115,32]++aD (root:Int)++[32]++bt [47,79,117,116,108,105,110,101,115] (out:Int)++[62,62]
def b_ (font:Nat) (zs:List (Int×Int)):List (List UInt8):=ej::(cA font zs.length 0 zs++bS zs.length (font+1) zs.length 1)
def eG (font:Nat) (zs:List (Int×Int)) (ms:List (List UInt8×Nat)):List (List UInt8):=b_ font zs++dd (font+(b_ font zs).length) (font+1) ms
def dG (font:Nat) (zs:List (Int×Int)) (ms:List (List UInt8×Nat)) (t:List UInt8):List (List UInt8):=eG font zs ms++(if t=[] then [] else [gx t])
def fJ (font:Nat) (zs:List (Int×Int)):Nat:=font+(b_ font zs).length - 1
def kL (font:Nat) (zs:List (Int×Int)) (ms:List (List UInt8×Nat)):Nat:=if ms=[] then 0 else font+(b_ font zs).length
def fo (font:Nat) (zs:List (Int×Int)) (ms:List (List UInt8×Nat)) (t:List UInt8):Nat:=if t=[] then 0 else font+(eG font zs ms).length
def l7 (font:Nat) (zs:List (Int×Int)) (ms:List (List UInt8×Nat)) (t:List UInt8):Nat:=font+(dG font zs ms t).length
def cI (font:Nat) (zs:List (Int×Int)) (ms:List (List UInt8×Nat)) (t:List UInt8):List (List UInt8):=dG font zs ms t++[vu (fJ font zs) (kL font zs ms)]
def ux (n:Nat):List UInt8:=gr n++[32,48,48,48,48,48,32,110,32,10]
def bR:List Nat->List UInt8
 | []=>[]
 | n::r=>ux n++bR r
theorem mP (l:List Nat) (n:Nat):bR (l++[n])=bR l++ux n:=by
 induction l with
 | nil=>simp [bR]
 | cons a r ih=>simp only [Zy,bR,ih,ZQ]
def fu (begins:List Nat):List UInt8:=[120,114,101,102,10,48,32]++Lib.itoa ((begins.length+1:Nat):Int)++[10,48,48,48,48,48,48,48,48,48,48,32,54,53,53,51,53,32,102,32,10]++bR begins
def iL (n cat info:Nat):List UInt8:=[116,114,97,105,108,101,114,10,60,60,32,47,83,105,122,101,32]++Lib.itoa (n:Int)++[32]++bt [47,82,111,111,116] (cat:Int)++bt [47,73,110,102,111] (info:Int)++[62,62,10]
def iE (begins:List Nat) (cat info at_:Nat):List UInt8:=fu begins++iL (begins.length+1) cat info++[115,116,97,114,116,120,114,101,102,10]++Lib.itoa (at_:Int)++[10,37,37,69,79,70,10]
def d_ (i:Nat) (Z:List UInt8):List UInt8:=aL (2*i+1)++(cX (2*i+2)++(Z++(fC++aK (2*i+2) (Lib.itoa (Z.length:Int)))))
def bW:Nat->List (List UInt8)->List UInt8
 | _,[]=>[]
 | i,Z::r=>d_ i Z++bW (i+1) r
theorem lG (i:Nat) (l:List (List UInt8)) (Z:List UInt8):bW i (l++[Z])=bW i l++d_ (i+l.length) Z:=by
 induction l generalizing i with
 | nil=>simp [bW]
 | cons a r ih=>simp only [Zy,bW,ih,ZY,ZQ];congr 3;omega
def kc (a i:Nat) (Z:List UInt8):List Nat:=[a,a+(aL (2*i+1)++(cX (2*i+2)++(Z++fC))).length]
def be:Nat->Nat->List (List UInt8)->List Nat
 | _,_,[]=>[]
 | a,i,Z::r=>kc a i Z++be (a+(d_ i Z).length) (i+1) r
theorem lF (a i:Nat) (l:List (List UInt8)) (Z:List UInt8):be a i (l++[Z])=be a i l++kc (a+(bW i l).length) (i+l.length) Z:=by
 induction l generalizing a i with
 | nil=>simp [be,bW]
 | cons c r ih=>
  simp only [Zy,be,ih,bW,ZZ,ZY,ZQ];rw [Zn,show i+1+r.length=i+(r.length+1) by omega]
theorem dy (a i:Nat) (l:List (List UInt8)):(be a i l).length=2*l.length:=by
 induction l generalizing a i with
 | nil=>rfl
 | cons c r ih=>simp only [be,ZZ,ih,ZY,kc,ZW];omega
theorem ck (a n:Nat) (l:List (List UInt8)):(aO a n l).length=l.length:=by
 induction l generalizing a n with
 | nil=>rfl
 | cons c r ih=>simp [aO,ih]
def aC (Zs:List (List UInt8)):List UInt8:=cm++bW 0 Zs
def cK (Zs:List (List UInt8)):Nat:=2*Zs.length+1
def dv (Zs:List (List UInt8)) (zs:List (Int×Int)) (ms:List (List UInt8×Nat)) (t:List UInt8):List UInt8:=aF (cK Zs) (cI (cK Zs) zs ms t)
def eH (Zs:List (List UInt8)) (zs:List (Int×Int)) (ms:List (List UInt8×Nat)) (t:List UInt8):List Nat:=be 9 0 Zs++aO (aC Zs).length (cK Zs) (cI (cK Zs) zs ms t)
def xS (Zs:List (List UInt8)) (zs:List (Int×Int)) (ms:List (List UInt8×Nat)) (t:List UInt8):List UInt8:=
 dv Zs zs ms t++iE (eH Zs zs ms t) (l7 (cK Zs) zs ms t) (fo (cK Zs) zs ms t) ((aC Zs).length+(dv Zs zs ms t).length)
def fO (Zs:List (List UInt8)) (zs:List (Int×Int)) (ms:List (List UInt8×Nat)) (t:List UInt8):List UInt8:=aC Zs++xS Zs zs ms t
def jA (B r c:Nat) (ti:ByteArray) (vp vm:Value) (starts:List Nat):As:=fun w S=>∃ vs,ah (aS B r [.pointer (some ⟨c,0,none⟩),.string ti,vp,vm,vs]) (aW B 3 1 vs starts.length (eg starts)) w S
theorem jA.thing (B r c:Nat) (ti:ByteArray) (vp vm:Value) (starts:List Nat):aJ B (jA B r c ti vp vm starts) where
 keep:=by
  rintro w w' S ⟨vb,h⟩ hk hz;exact ⟨vb,(ah.thing (aS.thing _ _ _) (aW.thing _ _ _ _ _ _)).keep h hk hz⟩
 lt:=by
  rintro w S k ⟨vb,h⟩ hk;exact (ah.thing (aS.thing B _ _) (aW.thing _ _ _ _ _ _)).lt h hk
 ge:=by
  rintro w S k ⟨vb,h⟩ hk;exact (ah.thing (aS.thing B _ _) (aW.thing _ _ _ _ _ _)).ge h hk
theorem jA.read {B r c:Nat} {ti:ByteArray} {vp vm:Value} {starts:List Nat} {w:World} {S:Bl} (h:jA B r c ti vp vm starts w S):∃ ad cap,w.cell? r=zp c/\w.cell? (zq r 1)=ti/\w.cell? (zq r 2)=some vp/\w.cell? (zq r 3)=some vm/\w.cell? (zq r 4)=some (.slice ad starts.length cap)/\(∀ o,w.frozen? (zq r o)=false)/\r < w.heap.size:=by
 obtain ⟨vs,S1,S3,hc,hb,o1,rfl⟩:=h;obtain ⟨ad,cap,rfl⟩:=hb.form;exact ⟨ad,cap,hc.at 0 _ rfl,hc.at 1 _ rfl,hc.at 2 _ rfl,hc.at 3 _ rfl,hc.at 4 _ rfl,hc.fz,hc.2.2.1⟩
theorem jA.started {B r c:Nat} {ti:ByteArray} {vp vm:Value} {starts:List Nat} {w:World} {S:Bl} (h:jA B r c ti vp vm starts w S) (n:Nat):∃ vs,w.cell? (zq r 4)=some vs/\w.ownsRow B 3 1 vs starts.length (eg starts)/\vs.ownBlock≠some r/\
  ∀ (w1:World),Below w w w1->∀ v' w',w1.grownBy w' vs.ownBlock->w'.ownsRow B 3 1 v' (starts.length+1) (eg starts++[.int .i64 n])->(v'.ownBlock=vs.ownBlock\/v'.ownBlock=some w1.heap.size)->
   ∃ S',jA B r c ti vp vm (starts++[n]) (w'.setCell (zq r 4) v') S'/\Mv S w S' (w'.setCell (zq r 4) v'):=by
 obtain ⟨vb,h⟩:=h;obtain ⟨S1,S3,hc,hb,o1,rfl⟩:=id h;have e1:S1=cC r:=hc.1;have e3:S3=ob vb:=hb.1;refine ⟨vb,hc.at 4 _ rfl,hb.2,fun e=>o1 r (by rw [e1];rfl) (by rw [e3];exact e),?_⟩;intro w1 hg1 v' w' hg ho hat;have hT:=ah.thing (aS.thing B r [.pointer (some ⟨c,0,none⟩),.string ti,vp,vm,vb]) (aW.thing B 3 1 vb starts.length (eg starts));have h1:=hT.grow h hg1;obtain ⟨Sb,hb1,_,k1⟩:=ah.snd (aS.thing B r _) h1;obtain ⟨hr,hm⟩:=aW.moved (n':=starts.length+1) hg ho hat;have eb:Sb=ob vb:=hb1.1;subst eb;obtain ⟨S',hs',hm'⟩:=k1 (aW B 3 1 v' (starts.length+1) (eg starts++[.int .i64 n])) w' _ hr hm;obtain ⟨Sc,hc1,_,k2⟩:=hs'.fst (aW.thing B _ _ _ _ _);obtain ⟨hc2,hm2⟩:=hc1.set 4 v' (by simp);obtain ⟨S'',hs'',hm''⟩:=k2 _ _ _ hc2 hm2;refine ⟨S'',⟨v',?_⟩,((Mv.grow hg1 _).trans hm').trans hm''⟩;have e:eg (starts++[n])=eg starts++[.int .i64 n]:=by simp [eg]
 rw [e,ZZ];exact hs''
def dq (B r c:Nat) (s:ByteArray) (p:Nat) (ti:ByteArray) (vp vm:Value) (starts:List Nat):As:=ah (jA B r c ti vp vm starts) (aZ B c s p)
theorem dq.thing (B r c:Nat) (s:ByteArray) (p:Nat) (ti:ByteArray) (vp vm:Value) (starts:List Nat):aJ B (dq B r c s p ti vp vm starts):=ah.thing (jA.thing _ _ _ _ _ _ _) (aS.thing _ _ _)
theorem cE (B:Nat) (w:World) (n:Int) (h0:-9223372036854775808<=n) (h1:n<=9223372036854775807) (ht:bU B w):
  QB 74 #[n] w (.string ⟨(aD n).toArray⟩):=by
 have HI:=aa (bp B w n h0 h1 ht);have hl:=av n h0 h1;obtain ⟨i,hi⟩:∃ i,Lib.itoa n=i:=⟨_,rfl⟩;unfold aD;rw [hi] at HI hl ⊢;clear hi;have hz:(⟨i.toArray⟩:ByteArray).size<=21:=by simp [ByteArray.size];exact hl
 go_enter func74,ntmps74
 go_wp2_with fail
 refine HI.out.mono ?_;rintro e w1 ⟨rfl,hB1⟩;go_wp2;go_ret;refine ⟨?_,hB1⟩;exact b8 (by simp)
theorem uk (w:World) (B r c n:Nat) (starts:List Nat) (vs:Value) (Z:Ending->World->Prop) (hB:B<=w.heap.size)
  (c0:w.cell? r=zp c) (c4:w.cell? (zq r 4)=some vs) (fz:∀ o,w.frozen? (zq r o)=false) (hr:r < w.heap.size) (hc:w.cell? (zq c 1)=n) (hn:n<=4000000000) (hl:starts.length<=1000000) (ow:w.ownsRow B 3 1 vs starts.length (eg starts)) (ne:vs.ownBlock≠some r)
  (HW:Hid (∀ (w1:World),Below w w w1->∀ v' w',w1.grownBy w' vs.ownBlock->w'.ownsRow B 3 1 v' (starts.length+1) (eg starts++[.int .i64 n])->(v'.ownBlock=vs.ownBlock\/v'.ownBlock=some w1.heap.size)->
   bU B (w'.setCell (zq r 4) v')/\∀ w8,Below (w'.setCell (zq r 4) v').heap.size (w'.setCell (zq r 4) v') w8->CP 114 #[zp c,.string ⟨(aL (starts.length+1)).toArray⟩] w8 fun e w'=>e=.returned (.tuple #[])/\Z (.returned ((starts.length+1:Nat):Int)) w')):
  CP 117 #[zp r] w Z:=by
 obtain ⟨ad,cap,hform⟩:∃ ad cap,vs=.slice ad starts.length cap:=by
  rcases ow.2 with ⟨hu,hz⟩ | ⟨gg,cap,cur,hu,_⟩
  ·exact ⟨none,0,by rw [hu,hz]⟩
  ·exact ⟨_,_,hu⟩
 subst hform;have f4:=fz 4;obtain ⟨L,hL⟩:∃ L,starts.length=L:=⟨_,rfl⟩;rw [hL] at c4 hl ow HW ne;clear hL;go_enter func117,ntmps117
 go_wp2_with fail
 go_region_law (refine r6 rfl (.tmp 8) (.tmp 16) 112 rfl 3 (0:Int) 1 8 Tryz.infoI rfl (by omega) underlying112 B _ L (eg starts) (by simp [Act.eval,Act.put]) (ow.drew.alloc _) (by simp;omega) ⟨w,0,none⟩ 1 (by simp [Act.eval,Act.put]) [.int .i64 n] rfl (qk _ _ _) (by intro u hu;simp at hu;subst hu;rfl) (by omega) (by omega) ?_;intro v7 w7 hO7 hg7 hat7;have hform7:∃ ad cap,v7=.slice ad (L+1) cap:=(by rcases hO7.2 with ⟨_,hu⟩ | ⟨gg,cap,cur,hu,_⟩;exact absurd hu (by omega);exact ⟨_,_,hu⟩);obtain ⟨ad7,cap7,hv7⟩:=hform7;rw [hv7] at hO7 hat7 ⊢;clear hv7;have kb:=(hg7.block r (by simp;omega) (fun e=>ne e.symm)).trans (ZC w _ r hr);have k4:=(ZS (a:=zq r 4) kb).trans c4;have kf4:=(ZJ (a:=zq r 4) kb).trans f4;have k0:=(ZS (a:=r) kb).trans c0)
 all_goals
  have HX:=aa (HW.out (w.alloc (.cells #[n] 3)).drew (((ZV _ w).alloc (ZX _) _).drew) _ w7 hg7 hO7 hat7);have k08:(w7.setCell (zq r 4) (.slice ad7 (L+1) cap7)).cell? r=zp c:=by rw [ZT _ _ _ _ (by simp)];exact k0
  have k48:(w7.setCell (zq r 4) (.slice ad7 (L+1) cap7)).cell? (zq r 4)=some (.slice ad7 (L+1) cap7):=ZA _ _ _ k4;have hF8:r < (w7.setCell (zq r 4) (.slice ad7 (L+1) cap7)).heap.size:=by have:=hg7.size;simp at this;simp [World.setCell];omega
  have hB8:B<=(w7.setCell (zq r 4) (.slice ad7 (L+1) cap7)).heap.size:=by have:=hg7.size;simp at this;simp [World.setCell];omega
  clear HW hO7 hg7 hat7 ow c4 f4 fz hc kf4 k4 kb c0 k0;generalize w7.setCell (zq r 4) (.slice ad7 (L+1) cap7)=w8 at HX k08 k48 hF8 hB8 ⊢;obtain ⟨ht8,HWr⟩:=HX.out;have HWr:=aa HWr;clear HX;have HI:=aa (fun (w1:World) (hG:af w8 w1)=>bp B w1 ((L+1:Nat):Int) (by omega) (by omega) (ht8.on (YY hG hB8)));have hz2:=av ((L+1:Nat):Int) (by omega) (by omega);have HS:Hid (aL (L+1)=Lib.itoa ((L+1:Nat):Int)++[32,48,32,111,98,106,10]):=rfl;obtain ⟨si,hsi⟩:∃ si,Lib.itoa ((L+1:Nat):Int)=si:=⟨_,rfl⟩;rw [hsi] at HI hz2 HS;clear hsi;have hz:=ae si;have HA:=aa (an si [32,48,32,111,98,106,10]);go_wp2_with fail
  refine ap 7 34 (ag [zp r,zp r,zp r,zp c,((L+1:Nat):Int),.string ⟨si.toArray⟩,.string ⟨(aL (L+1)).toArray⟩]) (by kernel_rfl) rfl (by kernel_rfl) aq ?_;simp only [TD]
  iterate 6
   refine ⟨fun w1 hG hd=>?_,fun v=>?_⟩
   ·have c1:=(Zw hG (p:=r) hF8).trans k08
    try (have d:=hd _ ⟨ZM _⟩ rfl;simp only [ag,GD] at d;subst d)
    clear hd;go_wp2_with fail
    first
     | exact RG
     | (refine (HI.out w1 hG).mono ?_;rintro e w2 ⟨rfl,hB2⟩;go_wp2;exact ⟨rfl,hB2⟩)
   simp only [TN]
  refine ⟨fun w1 hG hd=>?_,fun v6=>?_⟩
  ·have d5:=hd ⟨5,.data⟩ (by simp) rfl;simp only [ag,GD] at d5;clear hd;subst d5;go_wp2;exact ⟨by unfold ag;rw [HS.out];exact congrArg Value.string HA.out,af.refl _⟩
  simp only [TN];intro w9 hG hd;have d3:=hd 3 (by omega);have d6:=hd 6 (by omega);simp only [ag,GD] at d3 d6;subst d3 d6;have HX:=aa (HWr.out w9 hG);clear hd HI HA HWr hz hz2 k08 k48 hG;go_wp2_with fail
  refine HX.out.mono ?_;rintro e w2 ⟨rfl,hZ⟩;go_wp2_with fail
  first
   | exact hZ
   | (go_ret;exact hZ)
theorem gp (w:World) (B r c p:Nat) (s ti:ByteArray) (vp vm:Value) (starts:List Nat) (S:Bl) (h:dq B r c s p ti vp vm starts w S) (hB:B<=w.heap.size) (ht:bU B w) (hs:s.size<=2000000000) (hl:starts.length<=1000000) (hg:au s p (aL (starts.length+1))):
  CP 117 #[zp r] w fun e w'=>e=.returned ((starts.length+1:Nat):Int)/\∃ S',dq B r c s (p+(aL (starts.length+1)).length) ti vp vm (starts++[p]) w' S'/\Mv S w S' w':=by
 have hle:=hg.le;obtain ⟨S1,hR,_,kR⟩:=h.fst (aS.thing B c _);obtain ⟨S2,hC,_,_⟩:=h.snd (jA.thing B r c ti vp vm starts);obtain ⟨ad,cap,c0,_,_,_,_,fz,hr⟩:=hR.read;obtain ⟨vs,c4,ow,ne,kb⟩:=hR.started p;have hT:=dq.thing B r c s p ti vp vm starts;refine uk w B r c p starts vs _ hB c0 c4 fz hr (hC.at 1 _ rfl) (by omega) hl ow ne ?_;intro w1 hg1 v' w' hg' ho hat;obtain ⟨S1',hR',hm'⟩:=kb w1 hg1 v' w' hg' ho hat;obtain ⟨S',hs',hm⟩:=kR _ _ _ hR' hm';refine ⟨ht.on (hm.below (fun _ e=>hT.ge h e) hB),?_⟩;intro w8 hg8;have hs8:=(ah.thing (jA.thing B r c ti vp vm (starts++[p])) (aS.thing B c _)).grow hs' hg8;obtain ⟨S8,hC8,_,k8⟩:=hs8.snd (jA.thing B r c ti vp vm (starts++[p]));refine (bX w8 B c p s ⟨(aL (starts.length+1)).toArray⟩ S8 hC8 hs (by simpa using hg)).mono ?_;rintro e w9 ⟨rfl,h9,m9⟩;obtain ⟨S9,hs9,hm9⟩:=k8 _ _ _ h9 m9;refine ⟨rfl,rfl,S9,?_,(hm.trans (Mv.grow hg8 _)).trans hm9⟩;rw [ae] at hs9;exact hs9
theorem sK (w:World) (r c:Nat) (n:Int) (b:List UInt8) (G:World->Prop) (Z:Ending->World->Prop) (hb:b.length<=1000000)
  (H1:Hid (CP 117 #[zp r] w fun e w'=>e=.returned n/\G w'))
  (HC:Hid (∀ w1,G w1->w1.cell? r=some (.pointer (some ⟨c,0,none⟩))))
  (H2:Hid (∀ w1,G w1->CP 114 #[.pointer (some ⟨c,0,none⟩),.string ⟨(b++eh).toArray⟩] w1 fun e w'=>e=.returned (.tuple #[])/\Z (.returned n) w')):
  CP 69 #[zp r,.string ⟨b.toArray⟩] w Z:=by
 have hz:=ae b;have HA:=aa (show (⟨b.toArray⟩:ByteArray)++⟨#[10,101,110,100,111,98,106,10]⟩=⟨(b++eh).toArray⟩ from an b eh);go_enter func69,ntmps69
 go_wp2_with fail
 refine H1.out.mono ?_;rintro e w1 ⟨rfl,hG⟩;have c0:=HC.out w1 hG;go_wp2_with fail
 have h2:=H2.out w1 hG;rw [<-HA.out] at h2;refine h2.mono ?_;rintro e w2 ⟨rfl,hZ⟩;clear c0;go_wp2_with fail
 first
  | exact hZ
  | (go_ret;exact hZ)
theorem ui (w:World) (B r c L cap:Nat) (ad:Option Addr) (b:List UInt8) (x:Bool) (Z:World->Prop) (hB:B<=w.heap.size) (ht:bU B w) (hb:b.length<=1000) (hL:L<=1000000) (hr:r < w.heap.size) (c0:w.cell? r=zp c) (c4:w.cell? (zq r 4)=some (.slice ad L cap))
  (H2:Hid (∀ w1,Below w w w1->CP 163 #[.pointer (some ⟨c,0,none⟩),.string ⟨(aL (L+1)++b).toArray⟩] w1 fun e w'=>e=.returned x/\Z w')):
  CP 115 #[zp r,.string ⟨b.toArray⟩] w fun e w'=>e=.returned x/\Z w':=by
 have HI:=aa (fun (w1:World) (hG:af w w1)=>bp B w1 ((L+1:Nat):Int) (by omega) (by omega) (ht.on (YY hG hB)));have hz2:=av ((L+1:Nat):Int) (by omega) (by omega);have HS:Hid (aL (L+1)=Lib.itoa ((L+1:Nat):Int)++[32,48,32,111,98,106,10]):=rfl;have hz4:(aL (L+1)).length<=40:=by rw [HS.out,ZZ];simp only [ZY,ZW];omega
 have hz5:=ae (aL (L+1));obtain ⟨si,hsi⟩:∃ si,Lib.itoa ((L+1:Nat):Int)=si:=⟨_,rfl⟩;rw [hsi] at HI hz2 HS;clear hsi;have hz:=ae si;have hz3:=ae b;have HA:=aa (an si [32,48,32,111,98,106,10]);have HA2:=aa (an (aL (L+1)) b);go_enter func115,ntmps115
 go_wp2_with fail
 refine ap 14 20 (ag [.pointer (some ⟨r,0,none⟩),.pointer (some ⟨r,0,none⟩),.pointer (some ⟨r,0,none⟩),.pointer (some ⟨c,0,none⟩),.pointer (some ⟨r,0,none⟩),.pointer (some ⟨r,0,none⟩),.pointer (some ⟨r,4,none⟩),.slice ad L cap,.int .i64 (L:Int),.int .i64 ((L+1:Nat):Int),.string ⟨si.toArray⟩,.string ⟨(aL (L+1)).toArray⟩,.string ⟨b.toArray⟩,.string ⟨(aL (L+1)++b).toArray⟩]) (by kernel_rfl) rfl (by kernel_rfl) aq ?_;simp only [TD]
 iterate 9
  refine ⟨fun w1 hG hd=>?_,fun v=>?_⟩
  ·have c1:=(Zw hG (p:=r) hr).trans c0;have c2:=(Zw hG (p:=zq r 4) hr).trans c4
   try (have d:=hd _ ⟨ZM _⟩ rfl;simp only [ag,GD] at d;subst d)
   clear hd;go_wp2;exact RG
  simp only [TN]
 refine ⟨fun w1 hG hd=>?_,fun v9=>?_⟩
 ·have d8:=hd ⟨8,.data⟩ (by simp) rfl;simp only [ag,GD] at d8;clear hd;subst d8;go_wp2;exact ⟨by unfold ag;rfl,af.refl _⟩
 simp only [TN];refine ⟨fun w1 hG hd=>?_,fun v10=>?_⟩
 ·have d9:=hd ⟨9,.data⟩ (by simp) rfl;simp only [ag,GD] at d9;clear hd;subst d9;have HX:=aa (HI.out w1 hG);go_wp2_with fail
  refine HX.out.mono ?_;rintro e w2 ⟨rfl,hB2⟩;go_wp2;exact ⟨rfl,hB2⟩
 simp only [TN];refine ⟨fun w1 hG hd=>?_,fun v11=>?_⟩
 ·have d10:=hd ⟨10,.data⟩ (by simp) rfl;simp only [ag,GD] at d10;clear hd;subst d10;go_wp2;exact ⟨by unfold ag;rw [HS.out];exact congrArg Value.string HA.out,af.refl _⟩
 simp only [TN]
 iterate 2
  refine ⟨fun w1 hG hd=>?_,fun v=>?_⟩
  ·try (have d:=hd _ ⟨ZM _⟩ rfl;simp only [ag,GD] at d;subst d)
   try (have d:=hd _ ⟨.tail _ (.head _)⟩ rfl;simp only [ag,GD] at d;subst d)
   clear hd;go_wp2_with fail
   first
    | exact RG
    | exact CS (by assumption)
  simp only [TN]
 intro w9 hG hd;have d3:=hd 3 (by omega);have d13:=hd 13 (by omega);simp only [ag,GD] at d3 d13;subst d3 d13;have HX:=aa (H2.out w9 hG);clear hd HI HA HA2 hz hz2 hz3 hz4 hz5 c0 c4 hG;go_wp2_with fail
 refine HX.out.mono ?_;rintro e w2 ⟨rfl,hZ⟩;go_wp2_with fail
 go_ret;exact ⟨rfl,hZ⟩
end Go.Proofs.YtbklfkpjoinofaaGreatDoor
