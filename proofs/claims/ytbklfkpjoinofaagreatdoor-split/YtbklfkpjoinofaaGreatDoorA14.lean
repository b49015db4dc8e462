import Derived.Test.YtbklfkpjoinofaaGreatDoorA12
import Derived.Test.YtbklfkpjoinofaaGreatDoorA13
set_option linter.all false
set_option maxRecDepth 100000
set_option maxHeartbeats 8000000
namespace Go.Proofs.YtbklfkpjoinofaaGreatDoor
open Go.RowKit Go.Proofs.Tryz
def gr (n:Nat):List UInt8:=Lib.repeatL [48] (10 - (Lib.itoa (n:Int)).length)++Lib.itoa (n:Int)
theorem ul (B:Nat) (w:World) (n:Nat) (hn:n<=4000000000) (hB:B<=w.heap.size) (ht:bU B w) (hr:(Lib.repeatL [48] (10 - (Lib.itoa (n:Int)).length)).length<=10):
  QB 184 #[(n:Int)] w (.string ⟨(gr n).toArray⟩):=by
 have HI:=ai (bp B w (n:Int) (by omega) (by omega) ht);have hil:=ar (n:Int) (by omega) (by omega);unfold gr;obtain ⟨si,hsi⟩:∃ si,Lib.itoa (n:Int)=si:=⟨_,rfl⟩;rw [hsi] at HI hil hr ⊢;clear hsi;have hz:=ae si;have HR:=ai (fun wx=>Tryz.strings_Repeat ⟨#[48]⟩ (10 - si.length) wx (by omega) (by simp [ByteArray.size];omega));obtain ⟨rp,hrp⟩:∃ rp,Lib.repeatL [48] (10 - si.length)=rp:=⟨_,rfl⟩;have e48:(⟨#[48]⟩:ByteArray).data.toList=[48]:=rfl;rw [e48,hrp] at HR;rw [hrp] at hr ⊢;clear hrp e48;have hz2:=ae rp;have hmx:max 0 (10 - (si.length:Int))=((10 - si.length:Nat):Int):=by omega
 go_enter func184,ntmps184
 go_wp2_with fail
 refine HI.out.mono ?_;rintro e w1 ⟨rfl,hB1⟩;have HX:=ai (HR.out w1);clear HR HI;go_wp2_with fail
 refine (aE HX.out (by simp) rfl).mono ?_;rintro e w2 ⟨rfl,hB2⟩;go_wp2;go_ret;exact ⟨congrArg Ending.returned (aT (by simp)),hB1.trans (hB2.mono hB1.size)⟩
def eF:List (Nat×Nat×Nat)->List Value
 | []=>[]
 | r::l=>.int .i64 (r.1:Int)::.int .i64 (r.2.1:Int)::.int .i64 (r.2.2:Int)::eF l
theorem pi (l:List (Nat×Nat×Nat)) (r:Nat×Nat×Nat):eF (l++[r])=eF l++[.int .i64 (r.1:Int),.int .i64 (r.2.1:Int),.int .i64 (r.2.2:Int)]:=by
 induction l with
 | nil=>rfl
 | cons a r ih=>simp only [ZE,eF,ih]
def cP (f c s:Nat):List (Nat×Nat×Nat):=if c<=8 then [(f+c,1,s*8)] else (f+c,(c+7) / 8,s*8)::cP (f+c) ((c+7) / 8) (s*8)
termination_by c
decreasing_by omega
def cR (first pages:Nat):List (Nat×Nat×Nat):=(first,pages,1)::cP first pages 1
theorem Tryz.infoRow:(Tryz.prog.info? 229).map (fun i=>(i.zero,i.size,i.bytes))=some (some (.agg #[oz,oz,oz]),3,24):=by kernel_rfl
theorem tS (w:World) (x y z:Value) (t:TypeId):∀ j u,[x,y,z][j]? =some u->(w.alloc (.cells #[x,y,z] t)).cell? ((⟨w,0,none⟩:Addr).add j)=some u:=by
 intro j u hj
 match j,hj with
 | 0,hj=>simp at hj;subst hj;simp [Addr.add]
 | 1,hj=>simp at hj;subst hj;simp [Addr.add]
 | 2,hj=>simp at hj;subst hj;simp [Addr.add]
 | (j+3),hj=>simp at hj
def i7 (w:World) (b:Nat) (x y z:Int):World:=((w.setCell b x).setCell (zq b 1) y).setCell (zq b 2) z
theorem yQ {wr:World} {b:Nat} {v:Value} {n:Nat} {xs:List Value} (x y z:Int) (ow:wr.ownsRow (b+1) 229 3 v n xs):(i7 wr b x y z).ownsRow (b+1) 229 3 v n xs:=
 ownsRow_setCell_below (ownsRow_setCell_below (ownsRow_setCell_below ow (a:=b) (Zl b) _) (a:=zq b 1) (Zl b) _) (a:=zq b 2) (Zl b) _
theorem rE {w wr w7:World} {b:Nat} {v:Value} {n:Nat} {xs:List Value} {f c s:Nat} {x y z:Int} {o:Obj} (hb:b=w.heap.size) (ow:wr.ownsRow (b+1) 229 3 v n xs) (c0:wr.cell? b=(f:Int)) (c1:wr.cell? (zq b 1)=(c:Int)) (c2:wr.cell? (zq b 2)=(s:Int)) (fz:∀ o,wr.frozen? (zq b o)=false) (hsz:b < wr.heap.size) (hBe:Below b w wr)
  (hg:((i7 wr b x y z).alloc o).grownBy w7 v.ownBlock):
  w7.cell? b=x/\w7.cell? (zq b 1)=y/\w7.cell? (zq b 2)=z/\(∀ o,w7.frozen? (zq b o)=false)/\b < w7.heap.size/\Below b w w7:=by
 have hs3:(i7 wr b x y z).heap.size=wr.heap.size:=by simp [i7,World.setCell]
 have ne:v.ownBlock≠some b:=fun e=>by have:=(ow.lt _ e).1;omega
 have kb:w7.heap[b]? =(i7 wr b x y z).heap[b]? :=(hg.block b (by simp [hs3];omega) (fun e=>ne e.symm)).trans (Zf _ _ b (by rw [hs3];exact hsz));have d0:(i7 wr b x y z).cell? b=x:=by
  unfold i7;rw [ZV _ _ _ _ (by simp),ZV _ _ _ _ (by simp)];exact ZC _ _ _ c0
 have d1:(i7 wr b x y z).cell? (zq b 1)=y:=by
  unfold i7;rw [ZV _ _ _ _ (by simp)];exact ZC (u:=.int .i64 (c:Int)) _ _ _ (by rw [ZV _ _ _ _ (by simp)];exact c1)
 have d2:(i7 wr b x y z).cell? (zq b 2)=z:=by
  unfold i7;exact ZC (u:=.int .i64 (s:Int)) _ _ _ (by rw [ZV _ _ _ _ (by simp),ZV _ _ _ _ (by simp)];exact c2)
 refine ⟨(ZQ (a:=b) kb).trans d0,(ZQ (a:=zq b 1) kb).trans d1,(ZQ (a:=zq b 2) kb).trans d2,fun o=>?_,?_,?_⟩
 ·rw [ZH (a:=zq b o) kb];unfold i7;rw [ZL,ZL,ZL];exact fz o
 ·have:=hg.size;simp [hs3] at this;omega
 ·have h3:Below b w (i7 wr b x y z):=((hBe.setCell (p:=b) (ZW _) _).setCell (p:=zq b 1) (ZW _) _).setCell (p:=zq b 2) (ZW _) _;exact (h3.alloc (by rw [hs3];omega) _).grown hg (by simp [hs3];omega) (fun k hk=>by have:=(ow.lt k hk).1;omega)
theorem tz (w:World) (first pages:Nat) (hf:first<=1000) (hp:pages<=80):
  CP 172 #[(first:Int),(pages:Int)] w fun e w'=>∃ v,e=.returned v/\w'.ownsRow (w.heap.size+1) 229 3 v (cR first pages).length (eF (cR first pages))/\Below w w w':=by
 go_enter func172,ntmps172
 go_wp2;go_loopg [6,7] 100 (fun g x _ wr=>∃ (dn:List (Nat×Nat×Nat)) (v:Value) (f c s:Nat),x=v/\c < g/\((s<=1/\c<=80/\f<=1000)\/(s<=8/\c<=10/\f<=1080)\/(s<=64/\c<=2/\f<=1090))/\dn.length+c<=90/\wr.ownsRow (w.heap.size+1) 229 3 v dn.length (eF dn)/\wr.cell? w=some (.int .i64 (f:Int))/\wr.cell? (zq w 1)=some (.int .i64 (c:Int))/\wr.cell? (zq w 2)=some (.int .i64 (s:Int))/\(∀ o,wr.frozen? (zq w o)=false)/\w.heap.size < wr.heap.size/\Below w w wr/\Hid (dn++cP f c s=cR first pages))
 case atStart=>
  refine ⟨[(first,pages,1)],_,first,pages,1,rfl,by omega,.inl ⟨by omega,by omega,by omega⟩,by simp;omega,⟨by simp [eF],.inr ⟨w.heap.size+1,1,_,rfl,ZW _,Yz _ _ _,by simp,by unfold maxLen;omega,by simp,by simp [eF]⟩⟩,?_,?_,?_,fun o=>?_,by simp;omega,bu _ _ _,rfl⟩
  ·rw [ZQ (a:=w) (XE (w.alloc _) _ (r:=w.heap.size) (by simp))];simp
  ·rw [ZQ (a:=zq w 1) (XE (w.alloc _) _ (r:=w.heap.size) (by simp))];simp
  ·rw [ZQ (a:=zq w 2) (XE (w.alloc _) _ (r:=w.heap.size) (by simp))];simp
  ·rw [ZH (a:=zq w o) (XE (w.alloc _) _ (r:=w.heap.size) (by simp))];simp
 case round=>
  obtain ⟨dn,v,f,c,s,hxv,hcg,hbd,hdl,ow,c0,c1,c2,fz,hsz,hBe,HR⟩:=hrel;obtain ⟨ad,kcap,hform⟩:∃ ad cap,v=Value.slice ad dn.length cap:=by
   rcases ow.2 with ⟨hu,hz⟩ | ⟨gg,cap,cur,hu,_⟩
   ·exact ⟨none,0,by rw [hu,hz]⟩
   ·exact ⟨_,_,hu⟩
  subst hform hxv;have f0:=fz 0;have f1:=fz 1;have f2:=fz 2;obtain ⟨L,hL⟩:∃ L,dn.length=L:=⟨_,rfl⟩;rw [hL] at ow hdl ⊢;have ne:(Value.slice ad L kcap).ownBlock≠some w.heap.size:=fun e=>by have:=(ow.lt _ e).1;omega
  have hc80:c<=80:=by omega
  have hs64:s<=64:=by omega
  have hf11:f<=1090:=by omega
  by_cases h8:c<=8
  ·have hq:max 1 (((c:Int)+8 - 1) / 8)=1:=by omega
   go_wp2_with (at_builtin;refine bQ rfl (.tmp 29) (.tmp 31) 221 rfl 229 (.agg #[oz,oz,oz]) 3 24 Tryz.infoRow rfl (by omega) underlying221 (w.heap.size+1) _ L (eF dn) rfl ((yQ ((f:Int)+(c:Int)) 1 ((s:Int)*8) ow).alloc _) (by simp [World.setCell];omega) ⟨wr,0,none⟩ 1 rfl [.int .i64 ((f:Int)+(c:Int)),.int .i64 1,.int .i64 ((s:Int)*8)] rfl (by simpa [i7,World.setCell] using tS (i7 wr w.heap.size ((f:Int)+(c:Int)) 1 ((s:Int)*8)) _ _ _ 229) (by intro u hu;simp at hu;rcases hu with rfl | rfl | rfl <;> rfl) (by omega) (by omega) ?_)
   intro v7 w7 hO7 hg7 hat7;have HS:=ai (rE (f:=f) (c:=c) (s:=s) (x:=(f:Int)+(c:Int)) (y:=1) (z:=(s:Int)*8) rfl ow c0 c1 c2 fz hsz hBe hg7);have HO:Hid (w7.ownsRow (w.heap.size+1) 229 3 v7 (dn++[(f+c,1,s*8)]).length (eF (dn++[(f+c,1,s*8)]))):=by
    show w7.ownsRow _ _ _ _ _ _
    rw [pi,ZY,hL];exact hO7
   have hform7:∃ ad L cap,v7=Value.slice ad L cap:=by
    rcases hO7.2 with ⟨hu,_⟩ | ⟨gg,cap,cur,hu,_⟩
    ·exact ⟨_,_,_,hu⟩
    ·exact ⟨_,_,_,hu⟩
   obtain ⟨ad7,L7,cap7,hv7⟩:=hform7;rw [hv7] at HO ⊢;clear hv7 hO7 hg7 hat7 ow c0 c1 c2 f0 f1 f2 fz hBe;go_wp2;go_ret;refine ⟨_,rfl,?_,HS.out.2.2.2.2.2⟩;have e:dn++[(f+c,1,s*8)]=cR first pages:=by
    have:=HR.out;rw [cP,ZN h8] at this;exact this
   rw [<-e];exact HO.out
  ·obtain ⟨q,hqe⟩:∃ q,(c+7) / 8=q:=⟨_,rfl⟩;have hq:max 1 (((c:Int)+8 - 1) / 8)=(q:Int):=by omega
   have hq1:¬ (q:Int)=1:=by omega
   have hq2:q<=10:=by omega
   have hbd2:(s*8<=1/\q<=80/\f+c<=1000)\/(s*8<=8/\q<=10/\f+c<=1080)\/(s*8<=64/\q<=2/\f+c<=1090):=by omega
   have hqc:q < c:=by omega
   have HR2:Hid ((dn++[(f+c,q,s*8)])++cP (f+c) q (s*8)=cR first pages):=by
    show _=_
    have:=HR.out;rw [cP,ZO h8,hqe] at this;rw [ZS];exact this
   clear hqe HR hbd;go_wp2_with (at_builtin;refine bQ rfl (.tmp 29) (.tmp 31) 221 rfl 229 (.agg #[oz,oz,oz]) 3 24 Tryz.infoRow rfl (by omega) underlying221 (w.heap.size+1) _ L (eF dn) rfl ((yQ ((f:Int)+(c:Int)) (q:Int) ((s:Int)*8) ow).alloc _) (by simp [World.setCell];omega) ⟨wr,0,none⟩ 1 rfl [.int .i64 ((f:Int)+(c:Int)),.int .i64 (q:Int),.int .i64 ((s:Int)*8)] rfl (by simpa [i7,World.setCell] using tS (i7 wr w.heap.size ((f:Int)+(c:Int)) (q:Int) ((s:Int)*8)) _ _ _ 229) (by intro u hu;simp at hu;rcases hu with rfl | rfl | rfl <;> rfl) (by omega) (by omega) ?_)
   intro v7 w7 hO7 hg7 hat7;have HS:=ai (rE (f:=f) (c:=c) (s:=s) (x:=(f:Int)+(c:Int)) (y:=(q:Int)) (z:=(s:Int)*8) rfl ow c0 c1 c2 fz hsz hBe hg7);have HO:Hid (w7.ownsRow (w.heap.size+1) 229 3 v7 (dn++[(f+c,q,s*8)]).length (eF (dn++[(f+c,q,s*8)]))):=by
    show w7.ownsRow _ _ _ _ _ _
    rw [pi,ZY,hL];exact hO7
   have hform7:∃ ad L cap,v7=Value.slice ad L cap:=by
    rcases hO7.2 with ⟨hu,_⟩ | ⟨gg,cap,cur,hu,_⟩
    ·exact ⟨_,_,_,hu⟩
    ·exact ⟨_,_,_,hu⟩
   obtain ⟨ad7,L7,cap7,hv7⟩:=hform7;rw [hv7] at HO ⊢;clear hv7 hO7 hg7 hat7 ow c0 c1 c2 f0 f1 f2 fz hBe;go_wp2;go_roundg (gk - 1)
   case measure=>omega
   case rel=>exact ⟨dn++[(f+c,q,s*8)],_,f+c,q,s*8,rfl,by omega,hbd2,by rw [ZY,hL];simp;omega,HO.out,HS.out.1,HS.out.2.1,HS.out.2.2.1,HS.out.2.2.2.1,HS.out.2.2.2.2.1,HS.out.2.2.2.2.2,HR2.out⟩
def nS (r:Nat×Nat×Nat):Int×Int×Int:=((r.1:Int),(r.2.1:Int),(r.2.2:Int))
theorem zS (l:List (Nat×Nat×Nat)):∀ (j:Nat) r,l[j]? =some r->(eF l)[j*3]? =some (.int .i64 (r.1:Int))/\(eF l)[j*3+1]? =some (.int .i64 (r.2.1:Int))/\(eF l)[j*3+2]? =some (.int .i64 (r.2.2:Int)):=by
 induction l with
 | nil=>intro j r h;simp at h
 | cons a l ih=>
  intro j r h
  match j,h with
  | 0,h=>simp at h;subst h;exact ⟨rfl,rfl,rfl⟩
  | j+1,h=>
   have h':l[j]? =some r:=by simpa using h
   obtain ⟨a1,a2,a3⟩:=ih j r h';have e0:(j+1)*3=j*3+3:=by omega
   rw [e0];exact ⟨a1,a2,a3⟩
theorem lW {w:World} {base:Nat} {v:Value} {rows:List (Nat×Nat×Nat)} (h:w.ownsRow base 229 3 v rows.length (eF rows)) (hn:rows≠[]):gP (rows.map nS) v w:=by
 rcases id h.2 with ⟨_,h0⟩ | ⟨g,cap,cur,rfl,hb,hg,hle,hcm,hcs,_⟩
 ·exact absurd (Zp h0) hn
 ·refine ⟨g,cap,by rw [Yv],by rw [Yv];exact hle,hcm,(h.lt g rfl).2,?_⟩;intro j r hr;rw [YR] at hr
  cases hx:rows[j]? with
  | none=>rw [hx] at hr;simp at hr
  | some y=>
   rw [hx] at hr;simp at hr;subst hr;obtain ⟨a1,a2,a3⟩:=zS rows j y hx;have q:∀ i u,(eF rows)[i]? =some u->w.cell? (zq g i)=some u:=by
    intro i u hu;have:=h.cells (g:=g) rfl i u hu;have hadd:(⟨g,0,none⟩:Addr).add i=⟨g,i,none⟩:=by unfold Addr.add;split <;> simp_all
    rwa [hadd] at this
   exact ⟨q _ _ a1,q _ _ a2,q _ _ a3⟩
theorem oe (w:World) (E b n cap root:Nat) (cnt:Nat->Nat) (up bl:Nat->Nat->Int) (pe kd it bd:Nat->Nat->List UInt8) (I:Nat->Nat->World->Prop) (Z:Ending->World->Prop) (hn:n<=1000) (hn0:1<=n) (hcap:n<=cap) (hcap2:cap<=9223372036854775807) (hcnt:∀ r,r < n->cnt r<=1000) (lpe:∀ r i,(pe r i).length<=200) (lkd:∀ r i,(kd r i).length<=1000) (lit:∀ r i,(it r i).length<=30) (hroot:root<=1000000)
  (HBD:Hid (∀ r i,bd r i=[60,60,32,47,84,121,112,101,32,47,80,97,103,101,115,32]++pe r i++[47,75,105,100,115,32,91]++kd r i++[93,32,47,67,111,117,110,116,32]++it r i++[32,62,62]))
  (H0:Hid (I 1 0 w))
  (F:Hid (∀ r i w1,r < n->I r i w1->w1.cell? (zq b (r*3+1))=some (.int .i64 (cnt r:Int))))
  (HPa:Hid (∀ r i w1,r < n->i < cnt r->I r i w1->∀ w2,Below w1 w1 w2->QB 175 #[.slice b n cap,(r:Int),(i:Int)] w2 (up r i:Int)))
  (HEn:Hid (∀ r i w1,r < n->i < cnt r->I r i w1->∀ w2,Below w1 w1 w2->QB 181 #[.string ⟨#[47,80,97,114,101,110,116]⟩,(up r i:Int)] w2 (.string ⟨(pe r i).toArray⟩)))
  (HKd:Hid (∀ r i w1,r < n->i < cnt r->I r i w1->∀ w2,Below w1 w1 w2->QB 212 #[.slice b n cap,(r:Int),(i:Int)] w2 (.string ⟨(kd r i).toArray⟩)))
  (HPb:Hid (∀ r i w1,r < n->i < cnt r->I r i w1->∀ w2,Below w1 w1 w2->QB 213 #[.slice b n cap,(r:Int),(i:Int)] w2 (bl r i:Int)))
  (HIt:Hid (∀ r i w1,r < n->i < cnt r->I r i w1->∀ w2,Below w1 w1 w2->QB 120 #[(bl r i:Int)] w2 (.string ⟨(it r i).toArray⟩)))
  (HA:Hid (∀ r i w1,r < n->i < cnt r->I r i w1->∀ w2,Below w1 w1 w2->∃ k,CP 171 #[zp E,.string ⟨(bd r i).toArray⟩] w2 fun e w'=>e=.returned (.int .i64 k)/\I r (i+1) w'))
  (HN:Hid (∀ r w1,r < n->I r (cnt r) w1->I (r+1) 0 w1))
  (HX:Hid (∀ w1,I n 0 w1->CP 173 #[zp E] w1 fun e w'=>e=.returned ((root:Int)+1:Int)/\Z (.returned (root:Int)) w')):
  CP 177 #[zp E,.slice b n cap] w Z:=by
 have er:(root:Int)+1 - 1=(root:Int):=by omega
 go_enter func177,ntmps177
 go_wp2_with fail
 go_loopg [5,6] (n+1) (fun g x _ wr=>∃ r:Nat,1<=r/\r<=n/\n - r < g/\x=.int .i64 (r:Int)/\I r 0 wr)
 case atStart=>exact ⟨1,by omega,by omega,by omega,rfl,H0.out⟩
 case round=>
  obtain ⟨r,hr1,hr,hgr,rfl,hI⟩:=hrel;obtain ⟨GK,hGK⟩:∃ GK,GK=gk:=⟨_,rfl⟩;by_cases hlt:r < n
  ·have d1:decide ((r:Int) < (n:Int))=true:=by simp;omega
   have a1:=F.out r 0 wr hlt hI;have hc:=hcnt r hlt;obtain ⟨ct,hct⟩:∃ ct,cnt r=ct:=⟨_,rfl⟩;rw [hct] at a1 hc;have HII:=ai hI;clear hI;go_wp2_with fail
   clear a1;go_loopg [6,18] (ct+1) (fun g _ x w8=>∃ i:Nat,i<=ct/\ct - i < g/\x=.int .i64 (i:Int)/\I r i w8)
   case atStart=>exact ⟨0,by omega,by omega,rfl,HII.out⟩
   case round=>
    obtain ⟨i,hi,hgi,rfl,hI⟩:=hrel;by_cases hil:i < ct
    ·have d2:decide ((i:Int) < (ct:Int))=true:=by simp;omega
     have hic:i < cnt r:=by omega
     have Pa:=ai (HPa.out r i wr hlt hic hI);have En:=ai (HEn.out r i wr hlt hic hI);have Kd:=ai (HKd.out r i wr hlt hic hI);have Pb:=ai (HPb.out r i wr hlt hic hI);have It:=ai (HIt.out r i wr hlt hic hI);have Ad:=ai (HA.out r i wr hlt hic hI);have hbd:=HBD.out r i;have l1:=lpe r i;have l2:=lkd r i;have l3:=lit r i;obtain ⟨p1,hp1⟩:∃ x,pe r i=x:=⟨_,rfl⟩;obtain ⟨p2,hp2⟩:∃ x,kd r i=x:=⟨_,rfl⟩;obtain ⟨p3,hp3⟩:∃ x,it r i=x:=⟨_,rfl⟩;obtain ⟨p4,hp4⟩:∃ x,bd r i=x:=⟨_,rfl⟩;obtain ⟨u1,hu1⟩:∃ x,up r i=x:=⟨_,rfl⟩;obtain ⟨u2,hu2⟩:∃ x,bl r i=x:=⟨_,rfl⟩;rw [hp1,hp2,hp3,hp4] at hbd;rw [hp1] at En l1;rw [hp2] at Kd l2;rw [hp3] at It l3;rw [hp4] at Ad;rw [hu1] at Pa En;rw [hu2] at Pb It;have hbd2:(⟨#[60,60,32,47,84,121,112,101,32,47,80,97,103,101,115,32]⟩++⟨p1.toArray⟩++⟨#[47,75,105,100,115,32,91]⟩++⟨p2.toArray⟩++⟨#[93,32,47,67,111,117,110,116,32]⟩++⟨p3.toArray⟩++⟨#[32,62,62]⟩:ByteArray)=⟨p4.toArray⟩:=by
      rw [hbd];refine Zd (Yl ?_);simp
     have HBD2:=ai hbd2;have z1:=ae p1;have z2:=ae p2;have z3:=ae p3;have hw8:=ZT wr.heap.size wr;clear hp1 hp2 hp3 hp4 hu1 hu2 hbd hbd2 hI;go_wp2_with fail
     refine (Pa.out _ hw8).mono ?_;rintro e v1 ⟨rfl,b1⟩;have b1:=ai b1;go_wp2_with fail
     refine (En.out _ b1.out).mono ?_;rintro e v2 ⟨rfl,b2⟩;have b2:=ai (b1.out.trans (b2.mono b1.out.size));go_wp2_with fail
     refine (Kd.out _ b2.out).mono ?_;rintro e v3 ⟨rfl,b3⟩;have b3:=ai (b2.out.trans (b3.mono b2.out.size));go_wp2_with fail
     refine (Pb.out _ b3.out).mono ?_;rintro e v4 ⟨rfl,b4⟩;have b4:=ai (b3.out.trans (b4.mono b3.out.size));go_wp2_with fail
     refine (It.out _ b4.out).mono ?_;rintro e v5 ⟨rfl,b5⟩;have b5:=ai (b4.out.trans (b5.mono b4.out.size));obtain ⟨kk,hA⟩:=Ad.out v5 b5.out;rw [<-HBD2.out] at hA;have HAA:=ai hA;clear hA;go_wp2_with fail
     refine HAA.out.mono ?_;rintro e v6 ⟨rfl,hI2⟩;clear b1 b2 b3 b4 b5 HAA Pa En Kd Pb It Ad;go_wp2_with fail
     go_roundg (gk - 1)
     case measure=>omega
     case rel=>exact ⟨i+1,by omega,by omega,by congr 1,hI2⟩
    ·obtain rfl:i=ct:=by omega
     have d2:decide ((i:Int) < (i:Int))=false:=by simp
     rw [<-hct] at hI;have hI2:=ai (HN.out r wr hlt hI);clear hI;go_wp2_with fail
     go_roundg (GK - 1)
     case measure=>omega
     case rel=>exact ⟨r+1,by omega,by omega,by omega,by congr 1,hI2.out⟩
  ·obtain rfl:r=n:=by omega
   have d1:decide ((r:Int) < (r:Int))=false:=by simp
   have HY:=ai (HX.out wr hI);go_wp2_with fail
   refine HY.out.mono ?_;rintro e v1 ⟨rfl,hZ⟩;go_wp2_with fail
   first
    | exact hZ
    | (go_ret;exact hZ)
def jN (up:Int) (kids:List UInt8) (count:Int):List UInt8:=
 [60,60,32,47,84,121,112,101,32,47,80,97,103,101,115,32]++bt [47,80,97,114,101,110,116] up++[47,75,105,100,115,32,91]++kids++[93,32,47,67,111,117,110,116,32]++Lib.itoa count++[32,62,62]
def gv (f c g:Nat):List UInt8:=Lib.join (cf (f+8*g) (min 8 (c - 8*g))) [32]
def bV (p s g:Nat):Int:=min (s:Int) ((p:Int) - (g:Int)*(s:Int))
def bS (p f c s:Nat):List (List UInt8):=
 if c<=8 then [jN 0 (gv f c 0) (bV p (s*8) 0)]
 else (List.range ((c+7) / 8)).map (fun g=>jN ((f+c+(c+7) / 8+g / 8:Nat):Int) (gv f c g) (bV p (s*8) g))++bS p (f+c) ((c+7) / 8) (s*8)
termination_by c
decreasing_by omega
def rR:List (Nat×Nat×Nat)->Nat->Nat
 | [],_=>0
 | q::_,i=>q.1+i / 8
def dJ (p:Nat):Nat×Nat×Nat->List (Nat×Nat×Nat)->List (List UInt8)
 | _,[]=>[]
 | b,r::rest=>(List.range r.2.1).map (fun i=>jN ((rR rest i:Nat):Int) (gv b.1 b.2.1 i) (bV p r.2.2 i))++dJ p r rest
theorem lv (f c s:Nat) (i:Nat):rR (cP f c s) i=f+c+i / 8:=by
 rw [cP];split <;> rfl
theorem sw (p f c s:Nat):dJ p (f,c,s) (cP f c s)=bS p f c s:=by
 induction c using Nat.strongRecOn generalizing f s with
 | _ c ih=>
  rw [cP,bS];by_cases h:c<=8
  ·rw [ZN h,ZN h];simp [dJ,rR]
  ·rw [ZO h,ZO h];simp only [dJ];rw [ih ((c+7) / 8) (by omega)];congr 1;refine XI fun g _=>?_
   rw [lv]
theorem mj (p f:Nat):dJ p (f,p,1) (cP f p 1)=bS p f p 1:=sw p f p 1
def aF:Nat->List (List UInt8)->List UInt8
 | _,[]=>[]
 | n,b::r=>aK n b++aF (n+1) r
theorem fj (n:Nat) (l:List (List UInt8)) (b:List UInt8):aF n (l++[b])=aF n l++aK (n+l.length) b:=by
 induction l generalizing n with
 | nil=>simp [aF]
 | cons a r ih=>simp only [ZE,aF,ih,ZX,ZS];congr 3;omega
theorem dX (n:Nat) (l m:List (List UInt8)):aF n (l++m)=aF n l++aF (n+l.length) m:=by
 induction l generalizing n with
 | nil=>simp [aF]
 | cons a r ih=>simp only [ZE,aF,ih,ZX,ZS];congr 3;omega
def aO:Nat->Nat->List (List UInt8)->List Nat
 | _,_,[]=>[]
 | a,n,b::r=>a::aO (a+(aK n b).length) (n+1) r
theorem il (a n:Nat) (l:List (List UInt8)) (b:List UInt8):aO a n (l++[b])=aO a n l++[a+(aF n l).length]:=by
 induction l generalizing a n with
 | nil=>simp [aO,aF]
 | cons c r ih=>simp only [ZE,aO,ih,aF,ZY,YS]
def f_ (all m:Nat):List UInt8:=
 [60,60,32,47,84,121,112,101,32,47,79,117,116,108,105,110,101,115,32]++bt [47,70,105,114,115,116] ((all+1:Nat):Int)++bt [47,76,97,115,116] ((all+m:Nat):Int)++[47,67,111,117,110,116,32]++Lib.itoa (m:Int)++[32,62,62]
def iK (all m fp i:Nat) (t:List UInt8) (p:Nat):List UInt8:=
 [60,60,32,47,84,105,116,108,101,32]++bc t++[32]++bt [47,80,97,114,101,110,116] (all:Int)++bt [47,80,114,101,118] (if i=0 then 0 else ((all+i:Nat):Int))++bt [47,78,101,120,116] (if i+1=m then 0 else ((all+i+2:Nat):Int))++[47,68,101,115,116,32,91]++aD ((fp+p:Nat):Int)++[32,47,70,105,116,93,32,62,62]
def bK (all m fp:Nat):Nat->List (List UInt8×Nat)->List (List UInt8)
 | _,[]=>[]
 | i,x::r=>iK all m fp i x.1 x.2::bK all m fp (i+1) r
def dd (all fp:Nat) (ms:List (List UInt8×Nat)):List (List UInt8):=if ms=[] then [] else f_ all ms.length::bK all ms.length fp 0 ms
theorem l8 (all m fp i:Nat) (l:List (List UInt8×Nat)) (x:List UInt8×Nat):bK all m fp i (l++[x])=bK all m fp i l++[iK all m fp (i+l.length) x.1 x.2]:=by
 induction l generalizing i with
 | nil=>simp [bK]
 | cons a r ih=>simp only [ZE,bK,ih,ZX];congr 4;omega
def nC:List UInt8:=[60,60,32,47,84,121,112,101,32,47,70,111,110,116,32,47,83,117,98,116,121,112,101,32,47,84,121,112,101,49,32,47,66,97,115,101,70,111,110,116,32,47,72,101,108,118,101,116,105,99,97,32,62,62]
def vO (font p i:Nat) (z:Int×Int):List UInt8:=pn (bJ z.1) (bJ z.2) (bt [47,80,97,114,101,110,116] ((font+1+p+i / 8:Nat):Int)) (bt [47,67,111,110,116,101,110,116,115] ((2*i+1:Nat):Int)) (bt [47,70,49] (font:Int))
def ed (font p:Nat):Nat->List (Int×Int)->List (List UInt8)
 | _,[]=>[]
 | i,z::r=>vO font p i z::ed font p (i+1) r
theorem pV (font p i:Nat) (l:List (Int×Int)) (z:Int×Int):ed font p i (l++[z])=ed font p i l++[vO font p (i+l.length) z]:=by
 induction l generalizing i with
 | nil=>simp [ed]
 | cons a r ih=>simp only [ZE,ed,ih,ZX];congr 4;omega
theorem dZ (font p i:Nat) (l:List (Int×Int)):(ed font p i l).length=l.length:=by
 induction l generalizing i with
 | nil=>rfl
 | cons a r ih=>simp [ed,ih]
theorem dN (all m fp i:Nat) (l:List (List UInt8×Nat)):(bK all m fp i l).length=l.length:=by
 induction l generalizing i with
 | nil=>rfl
 | cons a r ih=>simp [bK,ih]
def vx (t:List UInt8):List UInt8:=[60,60,32,47,84,105,116,108,101,32]++bc t++[32,62,62]
def vu (root out:Nat):List UInt8:=[60,60,32,47,84,121,112,101,32,47,67,97,116,97,108,111,103,32,47,80,97,103,101,115,32]++aD (root:Int)++[32]++bt [47,79,117,116,108,105,110,101,115] (out:Int)++[62,62]
def b_ (font:Nat) (zs:List (Int×Int)):List (List UInt8):=nC::(ed font zs.length 0 zs++bS zs.length (font+1) zs.length 1)
def eG (font:Nat) (zs:List (Int×Int)) (ms:List (List UInt8×Nat)):List (List UInt8):=b_ font zs++dd (font+(b_ font zs).length) (font+1) ms
def dG (font:Nat) (zs:List (Int×Int)) (ms:List (List UInt8×Nat)) (t:List UInt8):List (List UInt8):=eG font zs ms++(if t=[] then [] else [vx t])
def fJ (font:Nat) (zs:List (Int×Int)):Nat:=font+(b_ font zs).length - 1
def rI (font:Nat) (zs:List (Int×Int)) (ms:List (List UInt8×Nat)):Nat:=if ms=[] then 0 else font+(b_ font zs).length
def fo (font:Nat) (zs:List (Int×Int)) (ms:List (List UInt8×Nat)) (t:List UInt8):Nat:=if t=[] then 0 else font+(eG font zs ms).length
def l7 (font:Nat) (zs:List (Int×Int)) (ms:List (List UInt8×Nat)) (t:List UInt8):Nat:=font+(dG font zs ms t).length
def cI (font:Nat) (zs:List (Int×Int)) (ms:List (List UInt8×Nat)) (t:List UInt8):List (List UInt8):=dG font zs ms t++[vu (fJ font zs) (rI font zs ms)]
def ux (n:Nat):List UInt8:=gr n++[32,48,48,48,48,48,32,110,32,10]
def bR:List Nat->List UInt8
 | []=>[]
 | n::r=>ux n++bR r
theorem mP (l:List Nat) (n:Nat):bR (l++[n])=bR l++ux n:=by
 induction l with
 | nil=>simp [bR]
 | cons a r ih=>simp only [ZE,bR,ih,ZS]
def fu (begins:List Nat):List UInt8:=[120,114,101,102,10,48,32]++Lib.itoa ((begins.length+1:Nat):Int)++[10,48,48,48,48,48,48,48,48,48,48,32,54,53,53,51,53,32,102,32,10]++bR begins
def iL (n cat info:Nat):List UInt8:=[116,114,97,105,108,101,114,10,60,60,32,47,83,105,122,101,32]++Lib.itoa (n:Int)++[32]++bt [47,82,111,111,116] (cat:Int)++bt [47,73,110,102,111] (info:Int)++[62,62,10]
def iE (begins:List Nat) (cat info at_:Nat):List UInt8:=fu begins++iL (begins.length+1) cat info++[115,116,97,114,116,120,114,101,102,10]++Lib.itoa (at_:Int)++[10,37,37,69,79,70,10]
def d_ (i:Nat) (Z:List UInt8):List UInt8:=aL (2*i+1)++(cX (2*i+2)++(Z++(fC++aK (2*i+2) (Lib.itoa (Z.length:Int)))))
def bW:Nat->List (List UInt8)->List UInt8
 | _,[]=>[]
 | i,Z::r=>d_ i Z++bW (i+1) r
theorem lG (i:Nat) (l:List (List UInt8)) (Z:List UInt8):bW i (l++[Z])=bW i l++d_ (i+l.length) Z:=by
 induction l generalizing i with
 | nil=>simp [bW]
 | cons a r ih=>simp only [ZE,bW,ih,ZX,ZS];congr 3;omega
def sF (a i:Nat) (Z:List UInt8):List Nat:=[a,a+(aL (2*i+1)++(cX (2*i+2)++(Z++fC))).length]
def be:Nat->Nat->List (List UInt8)->List Nat
 | _,_,[]=>[]
 | a,i,Z::r=>sF a i Z++be (a+(d_ i Z).length) (i+1) r
theorem lF (a i:Nat) (l:List (List UInt8)) (Z:List UInt8):be a i (l++[Z])=be a i l++sF (a+(bW i l).length) (i+l.length) Z:=by
 induction l generalizing a i with
 | nil=>simp [be,bW]
 | cons c r ih=>
  simp only [ZE,be,ih,bW,ZY,ZX,ZS];rw [YS,show i+1+r.length=i+(r.length+1) by omega]
theorem dy (a i:Nat) (l:List (List UInt8)):(be a i l).length=2*l.length:=by
 induction l generalizing a i with
 | nil=>rfl
 | cons c r ih=>simp only [be,ZY,ih,ZX,sF,ZR];omega
theorem gD (a n:Nat) (l:List (List UInt8)):(aO a n l).length=l.length:=by
 induction l generalizing a n with
 | nil=>rfl
 | cons c r ih=>simp [aO,ih]
def aC (Zs:List (List UInt8)):List UInt8:=bi++bW 0 Zs
def cK (Zs:List (List UInt8)):Nat:=2*Zs.length+1
def dv (Zs:List (List UInt8)) (zs:List (Int×Int)) (ms:List (List UInt8×Nat)) (t:List UInt8):List UInt8:=aF (cK Zs) (cI (cK Zs) zs ms t)
def eH (Zs:List (List UInt8)) (zs:List (Int×Int)) (ms:List (List UInt8×Nat)) (t:List UInt8):List Nat:=be 9 0 Zs++aO (aC Zs).length (cK Zs) (cI (cK Zs) zs ms t)
def xS (Zs:List (List UInt8)) (zs:List (Int×Int)) (ms:List (List UInt8×Nat)) (t:List UInt8):List UInt8:=
 dv Zs zs ms t++iE (eH Zs zs ms t) (l7 (cK Zs) zs ms t) (fo (cK Zs) zs ms t) ((aC Zs).length+(dv Zs zs ms t).length)
def fO (Zs:List (List UInt8)) (zs:List (Int×Int)) (ms:List (List UInt8×Nat)) (t:List UInt8):List UInt8:=aC Zs++xS Zs zs ms t
end Go.Proofs.YtbklfkpjoinofaaGreatDoor
