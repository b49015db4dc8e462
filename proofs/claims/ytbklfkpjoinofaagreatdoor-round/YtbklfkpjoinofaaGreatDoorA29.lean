import Derived.Test.YtbklfkpjoinofaaGreatDoorA27
import Derived.Test.YtbklfkpjoinofaaGreatDoorA28
set_option linter.all false
set_option maxRecDepth 100000
set_option maxHeartbeats 8000000
namespace Go.Proofs.YtbklfkpjoinofaaGreatDoor
open Go.RowKit Go.Proofs.Tryz
def zG (B E:Nat) (vb:Value) (first info cat:Int) (bodies:List (List UInt8)):As:=ah (aS B E [.int .i64 first,vb,.int .i64 info,.int .i64 cat]) (aW B 9 1 vb bodies.length (eY bodies))
theorem zG.thing (B E:Nat) (vb:Value) (first info cat:Int) (bodies:List (List UInt8)):aJ B (zG B E vb first info cat bodies):=ah.thing (aS.thing _ _ _) (aW.thing _ _ _ _ _ _)
theorem ED.named {B B' E:Nat} {first info cat:Int} {bodies:List (List UInt8)} {w:World} {S:Bl} (h:ED B' E first info cat bodies w S) (hB:B<=B') (hb:0 < bodies.length):∃ g cap,bodies.length<=cap/\cap<=9223372036854775807/\zG B E (.slice (zp g) bodies.length cap) first info cat bodies w S:=by
 obtain ⟨vb,S1,S2,h1,h2,ho,hS⟩:=h;obtain ⟨g,cap,rfl,hc,hc2,_⟩:=iF h2.2 hb;exact ⟨g,cap,hc,hc2,S1,S2,⟨h1.1,by have:=h1.2.1;omega,h1.2.2⟩,⟨h2.1,World.ownsRow.mono h2.2 hB⟩,ho,hS⟩
theorem zG.read {B E g cap:Nat} {first info cat:Int} {bodies:List (List UInt8)} {w:World} {S:Bl} (h:zG B E (.slice g bodies.length cap) first info cat bodies w S):E < w.heap.size/\w.cell? (zq E 1)=some (.slice g bodies.length cap)/\w.cell? (zq E 2)=info/\w.cell? (zq E 3)=cat/\∀ i b,bodies[i]? =some b->w.cell? (zq g i)=some (.string ⟨b.toArray⟩):=by
 obtain ⟨S1,S2,h1,h2,_⟩:=h;refine ⟨h1.2.2.1,h1.at 1 _ rfl,h1.at 2 _ rfl,h1.at 3 _ rfl,fun i b hb=>?_⟩;have:=h2.2.cells (g:=g) rfl i (.string ⟨b.toArray⟩) (by simp [eY,hb]);have hadd:(⟨g,0,none⟩:Addr).add i=⟨g,i,none⟩:=by unfold Addr.add;split <;> simp_all
 rwa [hadd] at this
theorem fB.turned {ad:Option Addr} {n cap:Nat} {xs:List Value} {w w':World} {S S':Bl} (h:fB (.slice ad n cap) n xs w) (m:Mv S w S' w') (ho:0 < n->∀ b,ad=some ⟨b,0,none⟩->¬ S b):fB (.slice ad n cap) n xs w':=by
 obtain ⟨ad',cap',hv,h1,h2,h3⟩:=h;simp at hv;obtain ⟨rfl,rfl⟩:=hv;refine ⟨ad,cap,rfl,h1,h2,fun hn=>?_⟩;obtain ⟨b,rfl,hb,hc⟩:=h3 hn;exact ⟨b,rfl,ZK hb m.size,fun i x hx=>(ZR (a:=zq b i) (m.keep hb (ho hn b rfl))).trans (hc i x hx)⟩
theorem aX.rows {K:World->Bl->List UInt8->Prop} {B Fb C:Nat} {ty:TypeId} {q:Value} {begins:List Nat} {sizes:List (Int×Int)} {X:List UInt8} {w:World} {S:Bl} (h:aX K B Fb C ty q begins sizes X w S):∃ vb vz,w.cell? (zq Fb 1)=some vb/\w.cell? (zq Fb 2)=some vz/\fB vb begins.length (mX begins) w/\fB vz sizes.length (rN sizes) w:=by
 obtain ⟨_,_,⟨vb,vz,S1,S2,h1,⟨S3,S4,h3,h4,_⟩,_⟩,_⟩:=h;exact ⟨vb,vz,h1.at 1 _ rfl,h1.at 2 _ rfl,h3.lies,h4.lies⟩
theorem Ae (l:List Nat) (i x:Nat) (h:l[i]? =some x):(mX l)[i]? =some (.int .i64 (x:Int)):=by simp [mX,h]
theorem zt (n:Wn) (hlim:n.lim < 0) (w:World) (S:Bl) (xs:List iB) (X:List UInt8) (ti:ByteArray) (ms:List (ByteArray×Nat)) (adm:Option Addr) (capm:Nat) (hx:∀ x∈xs,kx x) (hX:(X=[]/\xs=[])\/X=aC (aA xs)) (hxl:xs.length<=80) (hti:ti.size<=100) (hm:ms.length<=20) (hms:∀ m∈ms,m.1.size<=100/\m.2<=80) (hB:n.B<=w.heap.size) (ht:bU n.B w)
  (hLm:fB (.slice adm ms.length capm) ms.length (iz ms) w) (hoff:0 < ms.length->∀ b,adm=some ⟨b,0,none⟩->¬ S b) (h:aX n.K n.B n.Fb n.C 89 n.sk (be 9 0 (aA xs)) (aQ xs) X w S):
  CP 95 #[zp n.Fb,ti,.slice adm ms.length capm] w fun e w'=>e=.returned .nilIface/\∃ bg S',aX n.K n.B n.Fb n.C 89 n.sk bg (aQ xs) (fO (aA xs) (aQ xs) (ax ms) ti.data.toList) w' S'/\Mv S w S' w':=by
 have hd:=n.down hlim;have hzl:(aA xs).length=xs.length:=by simp [aA]
 have hsl:(aQ xs).length=xs.length:=by simp [aQ]
 have hup:=cN hx hxl;have hbeg:=fX hX;have hXl:X.length<=100000000:=by
  have h2:(X++eW X).length<=100000000:=by rw [hbeg];exact hup
  simp at h2;omega
 have hzs:∀ z∈aQ xs,bG z.1 1 14400000/\bG z.2 1 14400000:=by
  intro z hz;simp only [aQ,YC,Yn] at hz;obtain ⟨x,hxm,rfl⟩:=hz;exact ⟨(hx x hxm).2.2.2.2.1,(hx x hxm).2.2.2.2.2⟩
 have hfont:cK (aA xs)=2*xs.length+1:=by rw [cK,hzl]
 have hms2:∀ m∈ax ms,m.1.length<=100/\m.2<=80:=by
  intro m hmm;simp only [ax,YC] at hmm;obtain ⟨y,hy,rfl⟩:=hmm;have:=hms y hy;exact ⟨by show y.1.data.toList.length<=100;rw [aP];omega,this.2⟩
 obtain ⟨hbl,hbl1,hbs,hcat,hinfo⟩:=fW (cK (aA xs)) (aQ xs) (ax ms) ti.data.toList (by omega) (by omega) hzs (by rw [aP];omega) (by simp [ax];omega) hms2;have hcbl:(be 9 0 (aA xs)).length=2*xs.length:=by rw [dy,hzl]
 have hfile:fO (aA xs) (aQ xs) (ax ms) ti.data.toList=aC (aA xs)++xS (aA xs) (aQ xs) (ax ms) ti.data.toList:=rfl;have hend:xS (aA xs) (aQ xs) (ax ms) ti.data.toList=dv (aA xs) (aQ xs) (ax ms) ti.data.toList++iE (eH (aA xs) (aQ xs) (ax ms) ti.data.toList) (l7 (cK (aA xs)) (aQ xs) (ax ms) ti.data.toList) (fo (cK (aA xs)) (aQ xs) (ax ms) ti.data.toList) ((aC (aA xs)).length+(dv (aA xs) (aQ xs) (ax ms) ti.data.toList).length):=rfl;have hobj:dv (aA xs) (aQ xs) (ax ms) ti.data.toList=aF (cK (aA xs)) (cI (cK (aA xs)) (aQ xs) (ax ms) ti.data.toList):=rfl;have hbgs:eH (aA xs) (aQ xs) (ax ms) ti.data.toList=be 9 0 (aA xs)++aO (aC (aA xs)).length (cK (aA xs)) (cI (cK (aA xs)) (aQ xs) (ax ms) ti.data.toList):=rfl;obtain ⟨fi,hfi⟩:∃ fi,cK (aA xs)=fi:=⟨_,rfl⟩;rw [hfi] at hbl hbl1 hbs hcat hinfo hend hobj hbgs hfont;have HEN:∀ wx,n.B<=wx.heap.size->bU n.B wx->∀ adz capz,fB (.slice adz (aQ xs).length capz) (aQ xs).length (rN (aQ xs)) wx->fB (.slice adm ms.length capm) ms.length (iz ms) wx->_:=fun wx h1 h2 adz capz h3 h4=>pX wx n.B fi (aQ xs) ti ms adz adm capz capm h1 h2 (by omega) (by omega) hzs hti hm hms h3 h4
 obtain ⟨bod,hbod⟩:∃ b,cI fi (aQ xs) (ax ms) ti.data.toList=b:=⟨_,rfl⟩;obtain ⟨cat,hcat2⟩:∃ b,l7 fi (aQ xs) (ax ms) ti.data.toList=b:=⟨_,rfl⟩;obtain ⟨inf,hinf2⟩:∃ b,fo fi (aQ xs) (ax ms) ti.data.toList=b:=⟨_,rfl⟩;simp only [hbod,hcat2,hinf2] at hbl hbl1 hbs hcat hinfo hend hobj hbgs HEN;obtain ⟨U,hU⟩:∃ U,aC (aA xs)=U:=⟨_,rfl⟩;rw [hU] at hup hbeg hfile hend hbgs;obtain ⟨cb9,hcb9⟩:∃ c,be 9 0 (aA xs)=c:=⟨_,rfl⟩;have hcble:∀ x∈cb9,x<=U.length:=by
  intro x hxm;rw [<-hcb9] at hxm;have:=jk _ _ _ x hxm;rw [<-hU,aC,bi,ZY];simpa using this
 rw [hcb9] at hcbl hbgs h;have hobs:=fK bod fi (by omega) hbs;rw [hfile,hend,hobj,hbgs];clear hfile hend hobj hbgs hbod hcat2 hinf2 hcb9 hfi hX hx hms2;have hT:∀ bg Y,aJ n.B (aX n.K n.B n.Fb n.C 89 n.sk bg (aQ xs) Y):=fun bg Y=>aX.thing (jp.thing _ _ _) _ _ _ _ _ _ _
 have tb:∀ {S1 w1},Mv S w S1 w1->Below n.B w w1:=fun m=>m.below (fun _ e=>(hT _ _).ge h e) hB
 have hol:∀ i,(aF fi (bod.take i)).length<=2040*310:=fun i=>by
  have:=fK (bod.take i) fi (by rw [Zk];omega) (fun b hb=>hbs b (List.mem_of_mem_take hb));rw [Zk] at this;omega
 have hxl2:(U++aF fi bod).length<=101000000:=by
  rw [ZY];omega
 have hbgl:(cb9++aO U.length fi bod).length=2*xs.length+bod.length:=by rw [ZY,fP,hcbl]
 have hrows:(bR (cb9++aO U.length fi bod)).length<=20*(cb9++aO U.length fi bod).length:=by
  have gen:∀ l:List Nat,(∀ x∈l,x<=4000000000)->(bR l).length<=20*l.length:=by
   intro l;induction l with
   | nil=>intro _;simp [bR]
   | cons a r ih=>
    intro h;have h1:=ih (fun x hx=>h x (by simp [hx]));have h2:=h_ a (by have:=h a (by simp);omega);simp only [bR,ux,ZY,ZX,ZS];omega
  refine gen _ fun x hx=>?_
  rcases Zu.1 hx with hx | hx
  ·have:=hcble x hx;omega
  ·have:=iT _ _ _ x hx;omega
 have l5:(fu (cb9++aO U.length fi bod)).length<=30000:=by
  have h9:=ar ((2*xs.length+bod.length+1:Nat):Int) (by omega) (by omega);rw [hbgl] at hrows;unfold fu;rw [hbgl];simp only [ZY,ZX,ZS];omega
 refine wW w n.Fb (2*xs.length) (2*xs.length+bod.length) (aQ xs).length ms.length capm bod.length n.C (U++aF fi bod).length adm ti (fun i=>bod.getD i []) (fu (cb9++aO U.length fi bod)) (iL (2*xs.length+bod.length+1) cat inf) (Lib.itoa ((U++aF fi bod).length:Int))
  (fun w1=>∃ S1,aX n.K n.B n.Fb n.C 89 n.sk cb9 (aQ xs) U w1 S1/\Mv S w S1 w1)
  (fun Eb eb cb i w1=>∃ S1,ah (zG n.B Eb (.slice (zp eb) bod.length cb) (fi:Int) (inf:Int) (cat:Int) bod) (aX n.K n.B n.Fb n.C 89 n.sk (cb9++aO U.length fi (bod.take i)) (aQ xs) (U++aF fi (bod.take i))) w1 S1/\Mv S w S1 w1)
  _ (by omega) (by omega) (by omega) (by omega) ?_ ?_ ?_ ?_ ?_ ?_ ?_ ?_ ?_ ?_ ?_ ?_ ?_ ?_
 ·exact l5
 ·have l1:=ar ((2*xs.length+bod.length+1:Nat):Int) (by omega) (by omega);have l2:=bm [47,82,111,111,116] (cat:Int) 5 (by simp) (by omega) (by omega);have l3:=bm [47,73,110,102,111] (inf:Int) 5 (by simp) (by omega) (by omega);simp only [iL,ZY,ZX,ZS];omega
 ·have:=ar ((U++aF fi bod).length:Int) (by omega) (by omega);omega
 ·refine (jj hd (ZV _) w S n.Fb n.C _ _ X h (by omega)).mono ?_;rintro e w' (⟨_,rfl,S',hf',m⟩ | ⟨hno,_⟩)
  ·rw [hbeg] at hf';exact ⟨rfl,S',hf',m⟩
  ·exact absurd trivial hno
 ·rintro w1 ⟨S1,h1,m1⟩;obtain ⟨a1,k1,a2,k2,c0,c1,c2,_,_,hFb,_⟩:=aX.facts h1;rw [hcbl] at c1;exact ⟨hFb,a2,k2,c2,a1,k1,c1⟩
 ·rintro w1 ⟨S1,h1,m1⟩ adz cz hcz wx hbx;obtain ⟨vb,vz,_,c2,_,hLz⟩:=aX.rows h1;rw [hcz] at c2;have ev:=YM c2;rw [<-ev] at hLz;have hbw:=tb m1;have hz1:=hbw.size;have hz2:=hbx.size;rw [show 2*xs.length+1=fi from hfont.symm];refine (HEN wx (by omega) (ht.on (hbw.trans (hbx.mono (by omega)))) adz cz (hLz.on hbx) ((hLm.turned m1 hoff).on hbx)).mono ?_;rintro e w2 ⟨rfl,hb2,S2,h2⟩;obtain ⟨g,cap,hc1,hc2,h3⟩:=h2.named (B:=n.B) (by omega) (by omega);have hge:∀ k,S2 k->wx.heap.size<=k:=fun k hk=>(ED.thing wx.heap.size wx.heap.size _ _ _ _).ge h2 hk
  obtain ⟨h4,m4⟩:=ah.new (hT _ _) ((hT _ _).grow h1 hbx) h3 hb2 hge;refine ⟨_,g,cap,rfl,hc1,hc2,_,?_,(m1.trans (Mv.grow hbx _)).trans m4⟩;simpa [aO,aF] using h4
 ·rintro Eb eb cb w1 ⟨S1,⟨R1,R2,h1,_⟩,_⟩;exact h1.read.2.1
 ·rintro Eb eb cb i w1 hi ⟨S1,⟨R1,R2,h1,_⟩,_⟩;refine h1.read.2.2.2.2 i _ ?_;rw [ZJ,ZN hi];rfl
 ·rintro Eb eb cb i w1 hi ⟨S1,h1,m1⟩;have hbw:=tb m1;have hz1:=hbw.size;obtain ⟨R1,hF,_,back⟩:=ah.snd (zG.thing _ _ _ _ _ _ _) h1;have ei:bod.getD i []=bod[i]:=by simp [hi]
  have hbi:=hbs _ (Ys hi);have hlt:(bod.take i).length=i:=by rw [Zk];omega
  have hln:(cb9++aO U.length fi (bod.take i)).length+1=fi+i:=by rw [ZY,fP,hcbl,hlt];omega
  have hO:=mD hd (ZV _) w1 R1 n.Fb n.C _ _ _ ⟨(bod[i]).toArray⟩ hF (by omega) (ht.on hbw) (by omega) (by
   have:=hol i;rw [ZY,ae];omega)
  rw [hln] at hO;show CP _ #[_,.string ⟨(bod.getD i []).toArray⟩] w1 _
  rw [ei];refine hO.mono ?_;rintro e w' (⟨_,rfl,S',hf',m⟩ | ⟨hno,_⟩)
  ·obtain ⟨S2,h2,m2⟩:=back _ _ _ hf' m;refine ⟨rfl,S2,?_,m1.trans m2⟩;rw [Zv hi,fj,il,hlt];have e1:(U++aF fi (bod.take i)).length=U.length+(aF fi (bod.take i)).length:=ZY;rw [e1] at h2;simpa [ZT] using h2
  ·exact absurd trivial hno
 ·rintro Eb eb cb w1 ⟨S1,h1,m1⟩;rw [ZA (ZV _)] at h1;obtain ⟨R1,R2,_,h2,_⟩:=h1;obtain ⟨a1,k1,a2,k2,c0,c1,c2,_,cc,hFb,_⟩:=aX.facts h2;rw [hbgl] at c1;exact ⟨hFb,c0,cc,a1,k1,c1⟩
 ·rintro Eb eb cb w1 ⟨S1,h1,m1⟩ wx hbx;have hbw:=tb m1;exact bp n.B wx _ (by omega) (by omega) (ht.on (hbw.trans (hbx.mono (by have:=hbw.size;omega))))
 ·rintro Eb eb cb w1 ⟨S1,h1,m1⟩ wx hbx;have hbw:=tb m1;have hz1:=hbw.size;have hz2:=hbx.size;rw [ZA (ZV _)] at h1;obtain ⟨R1,R2,_,h2,_⟩:=h1;obtain ⟨_,_,_,_,_,_,_,_,_,hFb,_⟩:=aX.facts h2;obtain ⟨vb,vz,c1,_,hLb,_⟩:=aX.rows h2;obtain ⟨ad,cap,rfl,hc1,hc2,hcell⟩:=hLb;obtain ⟨b,rfl,hb,hcell⟩:=hcell (by rw [hbgl];omega);refine tL wx n.B n.Fb b _ cap _ rfl (by omega) (by omega) hc1 hc2 ?_ (by omega) (by omega) (by omega) (ht.on (hbw.trans (hbx.mono (by omega)))) ((hbx.cell (p:=zq n.Fb 1) hFb).trans c1) (fun i x hx=>(hbx.cell (p:=zq b i) hb).trans (hcell _ _ (Ae _ i x hx)));intro x hx;rcases Zu.1 hx with hx | hx
  ·have:=hcble x hx;omega
  ·have:=iT _ _ _ x hx;omega
 ·rintro Eb eb cb w1 ⟨S1,⟨R1,R2,h1,_⟩,m1⟩ wx hbx;have hbw:=tb m1;have hz1:=hbw.size;have hz2:=hbx.size;obtain ⟨hE,_,c2,c3,_⟩:=h1.read;have htx:∀ wy,af wx wy->bU n.B wy:=fun wy hg=>ht.on ((hbw.trans (hbx.mono (by omega))).trans (Zb hg (by omega)))
  have l1:=ar ((2*xs.length+bod.length+1:Nat):Int) (by omega) (by omega);have l2:=bm [47,82,111,111,116] (cat:Int) 5 (by simp) (by omega) (by omega);have l3:=bm [47,73,110,102,111] (inf:Int) 5 (by simp) (by omega) (by omega);exact pY wx Eb _ (inf:Int) (cat:Int) _ _ _ (by omega) (by omega) (by omega) (by omega) ((hbx.cell (p:=zq Eb 2) hE).trans c2) ((hbx.cell (p:=zq Eb 3) hE).trans c3) (fun wy hg=>bp n.B wy _ (by omega) (by omega) (htx wy hg)) (fun wy hg=>dF n.B wy [47,82,111,111,116] _ (by simp) (by omega) (by omega) (htx wy hg)) (fun wy hg=>dF n.B wy [47,73,110,102,111] _ (by simp) (by omega) (by omega) (htx wy hg))
 ·rintro Eb eb cb w1 ⟨S1,h1,m1⟩ wx hbx;rw [ZA (ZV _)] at h1;have h2:=(ah.thing (zG.thing _ _ _ _ _ _ _) (hT _ _)).grow h1 hbx;obtain ⟨R1,hF,_,back⟩:=ah.snd (zG.thing _ _ _ _ _ _ _) h2;have l1:=ar ((2*xs.length+bod.length+1:Nat):Int) (by omega) (by omega);have l2:=bm [47,82,111,111,116] (cat:Int) 5 (by simp) (by omega) (by omega);have l3:=bm [47,73,110,102,111] (inf:Int) 5 (by simp) (by omega) (by omega);have l4:=ar ((U.length+(aF fi bod).length:Nat):Int) (by omega) (by omega);have l6:(iL (2*xs.length+bod.length+1) cat inf).length<=1000:=by
   simp only [iL,ZY,ZX,ZS];omega
  refine (aX.write hd (ZV _) hF _ (by rw [ae];simp only [ZY,ZX,ZS] at hxl2 ⊢;omega)).mono ?_;rintro e w' (⟨_,rfl,S',hf',m⟩ | ⟨hno,_⟩)
  ·obtain ⟨S2,h3,m3⟩:=back _ _ _ hf' m;obtain ⟨R3,R4,_,h4,_,hS2⟩:=h3;refine ⟨rfl,rfl,cb9++aO U.length fi bod,R4,?_,((m1.trans (Mv.grow hbx _)).trans m3).trans ⟨Fr.refl _ _,fun k hk=>.inl (by rw [hS2];exact .inr hk)⟩⟩;have e9:U++(aF fi bod++iE (cb9++aO U.length fi bod) cat inf (U.length+(aF fi bod).length))=U++aF fi bod++(fu (cb9++aO U.length fi bod)++iL (2*xs.length+bod.length+1) cat inf++[115,116,97,114,116,120,114,101,102,10]++Lib.itoa ((U++aF fi bod).length:Int)++[10,37,37,69,79,70,10]):=by
    rw [iE,hbgl,ZY,ZT U]
   rw [e9];simpa using h4
  ·exact absurd trivial hno
structure St.fine (s:St):Prop where
 title:s.title.size<=100
 marks:∀ m∈s.marks,0 < m.1.size/\m.1.size<=100/\m.2 < s.pages.length
 up:s.marks.Pairwise (fun a b=>a.2<=b.2)
theorem St.new_fine:St.new.fine:=⟨by decide,fun m hm=>by simp [St.new] at hm,by simp [St.new]⟩
theorem St.fine.ended {s:St} (h:s.fine):s.endPage.2.fine:=by
 unfold St.endPage;split
 ·exact ⟨h.title,h.marks,h.up⟩
 ·exact h
theorem St.fine.closed {s:St} (h:s.fine):s.close.2.fine:=by
 unfold St.close;split
 ·exact h
 ·exact ⟨h.title,h.marks,h.up⟩
theorem St.fine.titled {s:St} (h:s.fine) (t:ByteArray):(s.titled t).2.fine:=by
 unfold St.titled;split
 ·exact h
 ·split
  ·exact h
  ·exact ⟨by simp only;omega,h.marks,h.up⟩
theorem St.fine.paged {s:St} (h:s.fine) (W H:Int):(s.page W H).2.fine:=by
 unfold St.page;split
 ·exact h
 ·split
  ·exact h
  ·split
   ·exact h
   ·refine ⟨h.title,fun m hm=>?_,h.up⟩;have:=h.marks m hm;simp only [ZX];omega
theorem St.fine.marked {s:St} (h:s.fine) (hok:s.ok) (t:ByteArray):(s.mark t).2.fine:=by
 unfold St.mark;split
 ·exact h
 ·rename_i hop
  split
  ·exact h
  ·rename_i ht
   split
   ·exact h
   ·refine ⟨h.title,fun m hm=>?_,?_⟩
    ·rcases Zu.1 hm with hm | hm
     ·exact h.marks m hm
     ·simp at hm;subst hm;obtain ⟨p,l,hp,_⟩:=hok.some (by simpa using hop);have hl:s.pages.length=l.length+1:=by rw [hp];rfl
      simp only;omega
    ·refine List.pairwise_append.2 ⟨h.up,by simp,fun a ha b hb=>?_⟩;simp at hb;subst hb;have:=(h.marks a ha).2.2;simp only;omega
theorem St.fine.drawn {s:St} (h:s.fine) (o:bj):(s.draw o).2.fine:=by
 unfold St.draw;split
 ·exact h
 ·split
  ·exact h
  ·split
   ·exact h
   ·exact ⟨h.title,fun m hm=>by simp only [St.put_len];exact h.marks m hm,h.up⟩
theorem ah.sub {P Q P' Q':As} {w w':World} {S:Bl} (h:ah P Q w S) (hP:∀ S1,P w S1->∃ S1',P' w' S1'/\∀ k,S1' k->S1 k) (hQ:∀ S2,Q w S2->∃ S2',Q' w' S2'/\∀ k,S2' k->S2 k):∃ S',ah P' Q' w' S'/\∀ k,S' k->S k:=by
 obtain ⟨S1,S2,h1,h2,ho,rfl⟩:=h;obtain ⟨S1',h1',e1⟩:=hP S1 h1;obtain ⟨S2',h2',e2⟩:=hQ S2 h2;exact ⟨_,⟨S1',S2',h1',h2',fun k a b=>ho k (e1 k a) (e2 k b),rfl⟩,fun k e=>e.elim (fun a=>.inl (e1 k a)) (fun b=>.inr (e2 k b))⟩
theorem Mv.less {S S':Bl} {w:World} (h:∀ k,S' k->S k):Mv S w S' w:=⟨Fr.refl _ _,fun k hk=>.inl (h k hk)⟩
theorem aS.six {B b:Nat} {a0 a1 a2 a3 a4 a5:Value} {w:World} {S:Bl} (h:aS B b [a0,a1,a2,a3,a4,a5] w S) (v0 v1 v2 v3 v4 v5:Value):w.there b 0 6/\aS B b [v0,v1,v2,v3,v4,v5] (w.setCells b 0 [v0,v1,v2,v3,v4,v5]) S/\Mv S w S (w.setCells b 0 [v0,v1,v2,v3,v4,v5]):=by
 obtain ⟨h0,m0⟩:=h.set 0 v0 (by simp);obtain ⟨h1,m1⟩:=h0.set 1 v1 (by simp);obtain ⟨h2,m2⟩:=h1.set 2 v2 (by simp);obtain ⟨h3,m3⟩:=h2.set 3 v3 (by simp);obtain ⟨h4,m4⟩:=h3.set 4 v4 (by simp);obtain ⟨h5,m5⟩:=h4.set 5 v5 (by simp);refine ⟨fun j hj=>⟨?_,h.fz _⟩,h5,((((m0.trans m1).trans m2).trans m3).trans m4).trans m5⟩;rw [YH]
 match j,hj with
 | 0,_=>rw [h.at 0 _ rfl];rfl
 | 1,_=>rw [h.at 1 _ rfl];rfl
 | 2,_=>rw [h.at 2 _ rfl];rfl
 | 3,_=>rw [h.at 3 _ rfl];rfl
 | 4,_=>rw [h.at 4 _ rfl];rfl
 | 5,_=>rw [h.at 5 _ rfl];rfl
 | (j+6),hj=>omega
theorem tv (n:Wn) (s:St) (w:World) (S:Bl) (hlim:n.lim < 0) (hok:s.ok) (hfine:s.fine) (hB:n.B<=w.heap.size) (ht:bU n.B w) (h:WD n s w S):CP 18 #[zp n.Wb] w (dp n w S s.close):=by
 have HR:=dV n s w S h;unfold St.close;by_cases hcl:s.cl=true
 ·rw [ZM (.inr hcl)];obtain ⟨r1,r2⟩:=h.gone hcl;refine (pu w r1 r2 HR).mono ?_;rintro e w' ⟨rfl,q,rfl⟩;exact dp.same h (ay w q)
 have hc:s.cl=false:=by cases e:s.cl with | false=>rfl | true=>exact absurd e hcl
 by_cases hop:s.op=true
 ·rw [ZM (.inl hop)];obtain ⟨Pg,r2⟩:=h.opened hc hop;refine (uw w Pg r2 HR).mono ?_;rintro e w' ⟨rfl,q,rfl⟩;exact dp.same h (ay w q)
 have hop':s.op=false:=by cases e:s.op with | false=>rfl | true=>exact absurd e hop
 rw [ZO (fun e=>e.elim hop hcl)];obtain ⟨xs,X,hx,hxs,hX,hi⟩:=h.rests hc hop';obtain ⟨c0,r0,t2,r1,r2,r3,r4,fz,hRl,_⟩:=Wn.idle_read hi;have hxl:xs.length=s.pages.length:=by rw [<-hxs];simp
 have hp80:=hok.pages;refine uv w n.Fb _ r1 r2 HR ?_;intro qn;have hiq:=(Wn.idle_thing n s xs X).drewN hi qn;obtain ⟨S1,hrf,_,back1⟩:=ah.snd (aS.thing _ _ _) hiq;obtain ⟨S3,S4,hr,hf,ho34,_,back2⟩:=ah.two2 (de.thing _ _ _ _ _ _ _ _ _) hrf;have hr0:=hr;obtain ⟨vm,Sc,Sm,hcel,hrow,_,hS3⟩:=hr;have hLm:=hrow.lies;obtain ⟨adm,capm,hvm⟩:=hrow.form;subst hvm;have hoff:0 < s.marks.length->∀ b,adm=some ⟨b,0,none⟩->¬ S4 b:=by
  rintro _ b rfl hb;refine ho34 b ?_ hb;rw [hS3,show Sm=_ from hrow.1];exact .inr rfl
 refine (qu (w.drewN qn) n.Rb n.T n.Fb s.marks.length capm adm s.title 0 (0:Int)
  (fun w1=>∃ bg S',ah (aS n.B n.Wb [.pointer (some ⟨n.Rb,0,none⟩)]) (ah (de n.B n.Rb n.T n.Fb (.pointer none) 0 s.title s.marks.length (iz s.marks)) (aX n.K n.B n.Fb n.C 89 n.sk bg (aQ xs) (fO (aA xs) (aQ xs) s.mks s.title.data.toList))) w1 S'/\Mv S w S' w1) (fun _=>False) (fun e w'=>∃ v,e=.returned v/\dp n w S (0,{s with cl:=true}) (.returned v) w') hRl r1 r4 (hcel.at 5 _ rfl) ?_ ?_ ?_)
 ·intro wx hg;have hz:(w.drewN qn).heap.size<=wx.heap.size:=Below.size hg;have hf2:=(aX.thing (jp.thing n.B n.T n.lim) n.Fb n.C 89 n.sk (be 9 0 (aA xs)) (aQ xs) X).grow hf hg;have hzn:n.B<=wx.heap.size:=ZU hB hz;have htw:bU n.B wx:=ht.on ((cU (ZQ _ w)).trans (Zb hg hB));refine (zt n hlim wx S4 xs X s.title s.marks adm capm hx hX (by omega) hfine.title hok.marks (fun m hm=>by have:=hfine.marks m hm;omega) hzn htw (hLm.on hg) hoff hf2).mono ?_;rintro e w1 ⟨rfl,bg,S5,h5,m5⟩;obtain ⟨S6,h6,m6⟩:=back2 _ _ _ h5 ((Mv.grow hg S4).trans m5);obtain ⟨S7,h7,m7⟩:=back1 _ _ _ h6 m6;exact .inl ⟨rfl,bg,S7,h7,m7.undrew⟩
 ·rintro w1 ⟨bg,S1,h1,m1⟩;obtain ⟨S2,hr2,_,back⟩:=ah.mid (aS.thing _ _ _) (aX.thing (jp.thing _ _ _) _ _ _ _ _ _ _) h1;obtain ⟨vm,hr2⟩:=hr2;obtain ⟨S3,hc3,_,back3⟩:=ah.fst (aW.thing _ _ _ _ _ _) hr2;obtain ⟨hth,hc4,m4⟩:=hc3.six (zp n.T) (.pointer none) (.pointer none) (0:Int) (.string ⟨#[]⟩) (.slice none 0 0);obtain ⟨S5,h5,m5⟩:=back3 _ _ _ hc4 m4;obtain ⟨S6,h6,m6⟩:=back _ _ _ h5 m5;refine ⟨hc3.at 0 _ rfl,hth,_,rfl,rfl,?_⟩;obtain ⟨S7,h7,e7⟩:=ah.sub h6 (P':=aS n.B n.Wb [.pointer (some ⟨n.Rb,0,none⟩)]) (Q':=ah (aS n.B n.Rb [.pointer (some ⟨n.T,0,none⟩),.pointer none,.pointer none,.int .i64 0,.string ⟨#[]⟩,.slice none 0 0]) (fun w S=>n.K w S (fO (aA xs) (aQ xs) s.mks s.title.data.toList))) (fun S1 h=>⟨S1,h,fun _ e=>e⟩) (fun S2 h2=>ah.sub h2 (fun S1 h=>by
   obtain ⟨A1,A2,ha,_,_,rfl⟩:=h;exact ⟨A1,ha,fun k e=>.inl e⟩) (fun S1 h=>by
   obtain ⟨A1,A2,_,hck,_,rfl⟩:=h;obtain ⟨R,hk,hR⟩:=hck;exact ⟨R,hk,fun k e=>.inr (by first | exact hR.2.1 k e | (rw [hR.2.1];exact .inr e) | (rw [hR.1];exact .inr e))⟩))
  exact ⟨S7,⟨xs,hx,.inl ⟨rfl,hxs,h7⟩⟩,(m1.trans m6).trans (Mv.less e7)⟩
 ·intro w1 hf;exact hf.elim
def aU (c:Int) (n:Nat):Nat:=if c < 0 then (-(c+1)).toNat % n else c.toNat % n
theorem gz (c:Int) (n:Nat) (h:0 < n):aU c n < n:=by unfold aU;split <;> exact Yt _ h
theorem xE (w:World) (c:Int) (n:Nat) (h0:-9223372036854775808<=c) (h1:c<=9223372036854775807) (hn:0 < n) (hn2:n<=1000000000):
  QE 15 #[c,(n:Int)] w (aU c n:Int):=by
 by_cases hc:c < 0
 ·have HV:Hid (-((c+1).tmod (n:Int))=((aU c n:Nat):Int)):=by
   show _=_
   unfold aU;rw [ZM hc,Int.natCast_emod,XI (by omega), <-Int.neg_tmod,Int.tmod_eq_emod_of_nonneg (by omega)]
  have d0:decide (c < 0)=true:=by simp;omega
  go_enter func15,ntmps15
  go_wp2;go_ret;exact ⟨congrArg (fun z=>Ending.returned (.int .i64 z)) HV.out,rfl⟩
 ·have HV:Hid (c % (n:Int)=((aU c n:Nat):Int)):=by
   show _=_
   unfold aU;rw [ZO hc,Int.natCast_emod,XI (by omega)]
  have d0:decide (c < 0)=false:=by simp;omega
  go_enter func15,ntmps15
  go_wp2;go_ret;exact ⟨congrArg (fun z=>Ending.returned (.int .i64 z)) HV.out,rfl⟩
def aw (c lo:Int):Int:=lo+(aU c (14400000 - lo+1).toNat:Int)
theorem df (c lo:Int) (hl:lo<=14400000):lo<=aw c lo/\aw c lo<=14400000:=by
 have:=gz c (14400000 - lo+1).toNat (by omega);unfold aw;omega
theorem jZ (w:World) (c lo:Int) (h0:-9223372036854775808<=c) (h1:c<=9223372036854775807) (hl:-14400000<=lo) (hl2:lo<=14400000):
  QE 35 #[c,lo] w (aw c lo:Int):=by
 obtain ⟨m,hm⟩:∃ m:Nat,((14400000 - lo+1).toNat)=m:=⟨_,rfl⟩;have e1:(14400000 - lo+1:Int)=(m:Int):=by omega
 have HP:=ai (xE w c m h0 h1 (by omega) (by omega));rw [<-e1] at HP;unfold aw;rw [hm];have hlt:=gz c m (by omega);obtain ⟨q,hq⟩:∃ q,aU c m=q:=⟨_,rfl⟩;rw [hq] at HP hlt ⊢;have ew:wrap64 (lo+(q:Int))=lo+(q:Int):=by unfold wrap64;omega
 have HW:=ai ew;clear hq e1 hm ew;go_enter func35,ntmps35
 go_wp2_with fail
 refine HP.out.mono ?_;rintro e w1 ⟨rfl,rfl⟩;go_wp2;go_ret;exact ⟨congrArg (fun z=>Ending.returned (.int .i64 z)) HW.out,rfl⟩
theorem om (w:World) (s:ByteArray) (hs:s.size<=9223372036854775807):
  QE 37 #[s,(100:Int)] w (.string (s.extract 0 100)):=by
 by_cases h:100 < s.size
 ·have d:decide ((100:Int) < (s.size:Int))=true:=by simp;omega
  go_enter func37,ntmps37
  go_wp2;go_ret;exact ⟨rfl,rfl⟩
 ·have d:decide ((100:Int) < (s.size:Int))=false:=by simp;omega
  have HE:Hid (s.extract 0 100=s):=by
   show _=_
   exact Zh (Array.toList_inj.1 (by rw [Zd,YR];simp only [List.extract,List.drop_zero,Nat.sub_zero];rw [ZA (by rw [aP];omega)]))
  go_enter func37,ntmps37
  go_wp2;go_ret;exact ⟨by rw [HE.out];rfl,rfl⟩
theorem vB (M:Nat) (hM:M<=21000) (w:World):(Instr.makeSlice 66 M M).run prog w=.ok (.slice w M M) (w.alloc (.cells (cells (List.replicate M 0)).toArray 5)):=by
 obtain ⟨i0,hi,hz0,hz1,hz2⟩:=XR Tryz.info5;have h:=run_make (P:=prog) w 66 5 i0 (.int .u8 0) underlying66 hi hz0 .i64 .i64 M M (by omega) (by omega) (by rw [hz2];omega) (by omega);rw [h,hz1];have e:madeCells (Value.int IntKind.u8 0).cells ((M:Int).toNat*1)=(cells (List.replicate M 0)).toArray:=by
  apply Yo;have:=toList_madeCells_one (.int .u8 0) M;rw [Int.toNat_natCast,Nat.mul_one];refine this.trans ?_;simp [cells]
 rw [e,Int.toNat_natCast]
def ly (w:World) (base g M:Nat) (l:List UInt8):Prop:=l.length=M/\w.ownsRow base 5 1 (.slice g M M) M (cells l)
theorem Ez (w:World) (M:Nat) (hM:M<=21000):ly (w.alloc (.cells (cells (List.replicate M 0)).toArray 5)) w.heap.size w.heap.size M (List.replicate M 0):=by
 refine ⟨by simp,by simp [cells],.inr ⟨w.heap.size,M,(cells (List.replicate M 0)).toArray,rfl,ZV _,ZB w _,ZV _,by unfold maxLen;omega,by simp [cells],?_⟩⟩;simp [cells]
theorem ly.at {w:World} {base g M k:Nat} {l:List UInt8} (h:ly w base g M l) (hk:k < M):∃ x,w.cell? (zq g k)=some x:=by
 obtain ⟨h1,h2⟩:=h;rw [World.ownsRow.cellAt h2 k (by omega)];unfold cells;rw [YV,ZN (by omega)];exact ⟨_,rfl⟩
theorem ly.next {w:World} {base g M k:Nat} {l:List UInt8} (h:ly w base g M l) (hk:k < M) (c:UInt8):ly (w.setCell (zq g k) (.int .u8 (c.toNat:Nat))) base g M (l.set k c):=by
 obtain ⟨h1,h2⟩:=h;have hs:=(h2.stored k (.int .u8 (c.toNat:Nat))).1;refine ⟨by simpa using h1,?_⟩;have e:cells (l.set k c)=(cells l).set k (.int .u8 (c.toNat:Nat)):=by unfold cells;rw [<-List.map_set]
 rw [e];exact hs
theorem ly.str {w:World} {base g M:Nat} {l:List UInt8} (h:ly w base g M l):(convert 66 9 (.slice g M M)).run prog w=.ok (.string ⟨l.toArray⟩) w:=by
 obtain ⟨h1,h2⟩:=h;subst h1;have hr:=Yz (P:=prog) w 66 9 5 ⟨g,0,none⟩ l.length l underlying66 underlying5 underlying9 (by
  intro j hj;have hadd:(⟨g,0,none⟩:Addr).add j=⟨g,j,none⟩:=by
   unfold Addr.add;split
   ·next e=>rw [e]
   ·simp
  rw [hadd,World.ownsRow.cellAt h2 j (by omega)];unfold cells;rw [YV,ZN hj];simp)
 exact hr
theorem Cs (z:Int):∃ c:UInt8,(c.toNat:Int)=z % 256:=by
 refine ⟨UInt8.ofNat (z % 256).toNat,?_⟩;have h3:(z % 256).toNat < 256:=by omega
 simp;omega
theorem ly.fz {w:World} {base g M:Nat} {l:List UInt8} (h:ly w base g M l) (o:Nat):w.frozen? (zq g o)=false:=by
 rcases h.2.2 with ⟨hu,_⟩ | ⟨gg,cap,cur,hu,_,hh,_⟩
 ·cases hu
 ·cases hu;simp [World.frozen?,hh]
theorem ya (w:World) (s:ByteArray) (n:Nat) (hs:s.size<=9223372036854775807) (hn:n<=400) (hn0:0 < n):
  CP 76 #[s,(n:Int)] w fun e w'=>∃ b:ByteArray,e=.returned b/\b.size=n/\Below w w w':=by
 have hmk:=fun w=>vB n (by omega) w
 have HF:=ai (Ez w n (by omega));go_enter func76,ntmps76
 go_wp2;go_loopg [6] (n+1) (fun k x wr=>∃ (i:Nat) (l:List UInt8),i<=n/\n - i < k/\x=.int .i64 (i:Int)/\ly wr w.heap.size w.heap.size n l/\Below w w wr)
 case atStart=>exact ⟨0,_,by omega,by omega,rfl,HF.out,(ZQ _ w).alloc (ZV _) _⟩
 case round=>
  obtain ⟨i,l,hi,hk,rfl,hF,hb⟩:=hrel;by_cases hlt:i < n
  ·have d1:decide ((i:Int) < (n:Int))=true:=by simp;omega
   obtain ⟨x0,c0⟩:=hF.at hlt;have f0:=hF.fz i;obtain ⟨c,hc⟩:=Cs (7*(i:Int));have hF1:=hF.next hlt c;rw [hc] at hF1;have hb1:Below w w (wr.setCell (zq w i) (.int .u8 (7*(i:Int) % 256))):=hb.setCell (p:=zq w i) (ZV _) _;obtain ⟨x1,c1⟩:=hF1.at hlt;have f1:=hF1.fz i;by_cases hs0:0 < s.size
   ·have d2:decide ((0:Int) < (s.size:Int))=true:=by simp;omega
    have hj0:(s.size:Int)≠0:=by omega
    have hj1:0<=(i:Int) % (s.size:Int):=Int.emod_nonneg _ hj0;have hj2:(i:Int) % (s.size:Int) < (s.size:Int):=Int.emod_lt_of_pos _ (by omega);have hj3:(((i:Int) % (s.size:Int)).toNat) < s.size:=by omega
    have HF1:=ai hF1;have HB1:=ai hb1;clear hF1 hb1 hF hc;go_wp2;go_roundg (gk - 1)
    case measure=>omega
    case rel=>exact ⟨i+1,_,by omega,by omega,by congr 1,HF1.out.next hlt _,HB1.out.setCell (p:=zq w i) (ZV _) _⟩
   ·have d2:decide ((0:Int) < (s.size:Int))=false:=by
     have:s.size=0:=by omega
     rw [this];rfl
    have HF1:=ai hF1;have HB1:=ai hb1;clear hF1 hb1 hF hc c1 f1;go_wp2;go_roundg (gk - 1)
    case measure=>omega
    case rel=>exact ⟨i+1,_,by omega,by omega,by congr 1,HF1.out,HB1.out⟩
  ·have e:i=n:=by omega
   subst e;have d1:decide ((i:Int) < (i:Int))=false:=by simp
   have hcv:=hF.str;go_wp2;go_ret;exact ⟨⟨l.toArray⟩,rfl,by rw [ae];exact hF.1,hb⟩
theorem Eg {w:World} {g i:Nat} {cs:Array Value} {t:TypeId} {fr:Nat×Nat} (h:w.heap[g]? =some (.cells cs t fr)) (v:Value):(w.setCell (zq g i) v).heap[g]? =some (.cells (cs.setIfInBounds i v) t fr):=by
 obtain ⟨hl,he⟩:=ZF.1 h;simp [World.setCell,Array.getElem?_modify,h]
structure y_ (w0:World) (g:Nat) (cs:List Value) (w:World):Prop where
 row:w.heap[g]? =some (.cells cs.toArray 31 (0,0))
 below:Below w0 w0 w
 ge:w0.heap.size<=g
theorem y_.at {w0 w:World} {g:Nat} {cs:List Value} (h:y_ w0 g cs w) (i:Nat) (v:Value) (hv:cs[i]? =some v):w.cell? (zq g i)=some v:=by rw [Zw w g i _ _ _ h.row];simpa using hv
theorem y_.fz {w0 w:World} {g:Nat} {cs:List Value} (h:y_ w0 g cs w) (o:Nat) (ho:o < 1000000):w.frozen? (zq g o)=false:=by simp [World.frozen?,h.row]
theorem y_.set {w0 w:World} {g:Nat} {cs:List Value} (h:y_ w0 g cs w) (i:Nat) (v:Value):y_ w0 g (cs.set i v) (w.setCell (zq g i) v):=⟨by have:=Eg (i:=i) h.row v;simpa using this,h.below.setCell (p:=zq g i) h.ge v,h.ge⟩
theorem y_.grow {w0 w w':World} {g:Nat} {cs:List Value} (h:y_ w0 g cs w) (hb:Below w w w'):y_ w0 g cs w':=⟨(hb.block g (ZF.1 h.row).1).trans h.row,h.below.trans (hb.mono h.below.size),h.ge⟩
theorem CW (w:World) (K A Bb C D E Co Ro a b:Int) (k:Nat) (s:ByteArray) (hk:k=1) (c:Int) (t:ByteArray)
  (HK:Hid (∀ wx,QE 15 #[K,(8:Int)] wx (k:Int)))
  (HPa:Hid (∀ wx,QE 35 #[A,(-14400000:Int)] wx a))
  (HPb:Hid (∀ wx,QE 35 #[Bb,(-14400000:Int)] wx b))
  (HC:Hid (∀ wx,QE 35 #[C,(1:Int)] wx c))
  (HS:Hid (∀ wx,QE 37 #[s,(100:Int)] wx t)):
  QB 32 #[.agg #[K,A,Bb,C,D,E,Co,Ro,s]] w (.agg #[(1:Int),a,b,c,oz,oz,oz,oz,t]):=by
 go_enter func32,ntmps32
 go_wp2_with fail
 obtain ⟨w0,hw0⟩:∃ w0,(w.alloc (Obj.cells #[Value.int IntKind.i64 K,Value.int IntKind.i64 A,Value.int IntKind.i64 Bb,Value.int IntKind.i64 C,Value.int IntKind.i64 D,Value.int IntKind.i64 E,Value.int IntKind.i64 Co,Value.int IntKind.i64 Ro,Value.string s] 76)).alloc (Obj.cells #[Value.int IntKind.i64 0,Value.int IntKind.i64 0,Value.int IntKind.i64 0,Value.int IntKind.i64 0,Value.int IntKind.i64 0,Value.int IntKind.i64 0,Value.int IntKind.i64 0,Value.int IntKind.i64 0,Value.string ⟨#[]⟩] 31)=w0:=⟨_,rfl⟩;have hb0:Below w w w0:=by rw [<-hw0];exact ((ZQ _ w).alloc (ZV _) _).alloc (by simp) _
 have HA:Hid (∀ w1,af w0 w1->∀ i u,([.int .i64 K,.int .i64 A,.int .i64 Bb,.int .i64 C,.int .i64 D,.int .i64 E,.int .i64 Co,.int .i64 Ro,.string s]:List Value)[i]? =some u->w1.cell? (zq w i)=some u):=by
  intro w1 hG i u hu;rw [<-hw0] at hG;refine ((aS.thing _ _ _).grow ((aS.thing _ _ _).grow (aS.alloc (B:=0) (vs:=[.int .i64 K,.int .i64 A,.int .i64 Bb,.int .i64 C,.int .i64 D,.int .i64 E,.int .i64 Co,.int .i64 Ro,.string s]) (w:=w) (t:=76) (YI _)) ((ZQ _ _).alloc (ZV _) _)) hG).at i u hu
 have hres:w0.heap[w.heap.size+1]? =some (.cells #[oz,oz,oz,oz,oz,oz,oz,oz,.string ⟨#[]⟩] 31 (0,0)):=by rw [<-hw0];exact Yu _ _ _
 have hsz0:w.heap.size+1 < w0.heap.size:=(ZF.1 hres).1;have HRS:=ai hres;rw [hw0];clear hw0 hres;obtain ⟨x0,hx0⟩:∃ x0,w.heap.size=x0:=⟨_,rfl⟩;rw [hx0] at HA HRS hsz0 hb0 ⊢;have HX0:=ai hx0;clear hx0;refine ap 11 _ (C4 w0.heap.size 10 31 #[oz,oz,oz,oz,oz,oz,oz,oz,.string ⟨#[]⟩] [.pointer (some ⟨x0,0,none⟩),.int .i64 K,.int .i64 (k:Int),.pointer (some ⟨x0,1,none⟩),.int .i64 A,.int .i64 a,.pointer (some ⟨x0,2,none⟩),.int .i64 Bb,.int .i64 b,.agg #[(k:Int),a,b,oz,oz,oz,oz,oz,.string ⟨#[]⟩],undef]) (by kernel_rfl) rfl (by kernel_rfl) lL ?_;simp only [TD];refine ⟨fun w1 hG hd=>?_,fun v0=>?_⟩
 ·clear hd;go_wp2;exact RG
 simp only [TN];refine ⟨fun w1 hG hd=>?_,fun v1=>?_⟩
 ·have d0:v0=.pointer (some ⟨x0,0,none⟩):=hd ⟨0,.data⟩ (by simp) rfl;clear hd;subst d0;have cc:=HA.out w1 hG 0 _ rfl;go_wp2;exact RG
 simp only [TN];refine ⟨fun w1 hG hd=>?_,fun v2=>?_⟩
 ·have d1:v1=.int .i64 K:=hd ⟨1,.data⟩ (by simp) rfl;clear hd;subst d1;have HX:=ai (HK.out w1);go_wp2_with fail
  refine HX.out.mono ?_;rintro e w2 ⟨rfl,rfl⟩;go_wp2;exact RG
 simp only [TN];refine ⟨fun w1 hG hd=>?_,fun v3=>?_⟩
 ·clear hd;go_wp2;exact RG
 simp only [TN];refine ⟨fun w1 hG hd=>?_,fun v4=>?_⟩
 ·have d3:v3=.pointer (some ⟨x0,1,none⟩):=hd ⟨3,.data⟩ (by simp) rfl;clear hd;subst d3;have cc:=HA.out w1 hG 1 _ rfl;go_wp2;exact RG
 simp only [TN];refine ⟨fun w1 hG hd=>?_,fun v5=>?_⟩
 ·have d4:v4=.int .i64 A:=hd ⟨4,.data⟩ (by simp) rfl;clear hd;subst d4;have HX:=ai (HPa.out w1);go_wp2_with fail
  refine HX.out.mono ?_;rintro e w2 ⟨rfl,rfl⟩;go_wp2;exact RG
 simp only [TN];refine ⟨fun w1 hG hd=>?_,fun v6=>?_⟩
 ·clear hd;go_wp2;exact RG
 simp only [TN];refine ⟨fun w1 hG hd=>?_,fun v7=>?_⟩
 ·have d6:v6=.pointer (some ⟨x0,2,none⟩):=hd ⟨6,.data⟩ (by simp) rfl;clear hd;subst d6;have cc:=HA.out w1 hG 2 _ rfl;go_wp2;exact RG
 simp only [TN];refine ⟨fun w1 hG hd=>?_,fun v8=>?_⟩
 ·have d7:v7=.int .i64 Bb:=hd ⟨7,.data⟩ (by simp) rfl;clear hd;subst d7;have HX:=ai (HPb.out w1);go_wp2_with fail
  refine HX.out.mono ?_;rintro e w2 ⟨rfl,rfl⟩;go_wp2;exact RG
 simp only [TN];refine ⟨fun w1 hG hd=>?_,fun v9=>?_⟩
 ·have d2:v2=.int .i64 (k:Int):=hd ⟨2,.data⟩ (by simp) rfl;have d5:v5=.int .i64 a:=hd ⟨5,.data⟩ (by simp) rfl;have d8:v8=.int .i64 b:=hd ⟨8,.data⟩ (by simp) rfl;clear hd;subst d2 d5 d8;go_wp2;exact RG
 simp only [TN];refine ⟨fun w1 hG hd=>?_,fun v10=>?_⟩
 ·clear hd;go_wp2;exact ⟨⟨_,rfl,hG.size,ZB _ _⟩,(ZQ _ _).alloc (ZV _) _⟩
 simp only [TN];intro w2 hG hd;have d9:v9=.agg #[(k:Int),a,b,oz,oz,oz,oz,oz,.string ⟨#[]⟩]:=hd 9 (by omega);obtain ⟨g,d10,hzg,hbg⟩:∃ g,v10=.pointer (some ⟨g,0,none⟩)/\w0.heap.size<=g/\w2.heap[g]? =some (.cells #[oz,oz,oz,oz,oz,oz,oz,oz,.string ⟨#[]⟩] 31 (0,0)):=hd 10 (by omega);subst d9 d10;clear hd;have hrow:=YK w2 g _ #[(k:Int),a,b,oz,oz,oz,oz,oz,.string ⟨#[]⟩] _ _ hbg;refine Zi rfl 31 (.tmp 3) (.tmp 13) rfl g #[(k:Int),a,b,oz,oz,oz,oz,oz,.string ⟨#[]⟩] rfl rfl _ _ hbg (by kernel_rfl) rfl (by kernel_rfl) ?_;have hO:y_ w0 g [.int .i64 (k:Int),.int .i64 a,.int .i64 b,.int .i64 0,.int .i64 0,.int .i64 0,.int .i64 0,.int .i64 0,.string ⟨#[]⟩] (w2.setRow g #[(k:Int),a,b,oz,oz,oz,oz,oz,.string ⟨#[]⟩]):=⟨hrow,⟨hG.os,hG.tape,hG.output,ZU hG.size (Nat.le_of_eq (by simp [World.setRow])),fun k hk=>(setRow_other _ _ _ _ (by omega)).trans (hG.block k hk)⟩,hzg⟩;generalize w2.setRow g #[(k:Int),a,b,oz,oz,oz,oz,oz,.string ⟨#[]⟩]=w3 at hO ⊢;clear hG hbg hrow hzg HK HPa HPb;rw [hk] at hO ⊢;clear hk;have act:True:=trivial;have q0:=hO.at 0 _ rfl;have a1:=(hO.below.cell (p:=zq x0 3) (by show x0 < _;omega)).trans (HA.out w0 (af.refl _) 3 _ rfl);go_wp2_with fail
 refine (HC.out _).mono ?_;rintro e wz1 ⟨rfl,rfl⟩;have q1:=hO.at 3 _ rfl;have f1:=hO.fz 3 (by omega);have hO:=hO.set 3 (.int .i64 c);have a2:=(hO.below.cell (p:=zq x0 8) (by show x0 < _;omega)).trans (HA.out w0 (af.refl _) 8 _ rfl);go_wp2_with fail
 refine (HS.out _).mono ?_;rintro e wz2 ⟨rfl,rfl⟩;have q2:=hO.at 8 _ rfl;have f2:=hO.fz 8 (by omega);have hO:=hO.set 8 (.string t);have HRW:=ai hO.row;have HRE:=ai ((hO.below.block (x0+1) (by omega)).trans HRS.out);have hbf:=hb0.trans (hO.below.mono (by omega));have hne:=hO.ge;simp only [List.set_cons_succ,List.set_cons_zero] at HRW;clear HRS HA hO act;go_wp2_with (first
  | (refine YG rfl 31 (.tmp 3) rfl g rfl 31 _ (0,0) _ HRW.out underlying31 rfl (by kernel_rfl) ?_)
  | (refine Zi rfl 31 (.tmp 2) (.tmp 82) rfl (x0+1) #[(1:Int),a,b,c,oz,oz,oz,oz,t] rfl rfl _ _ HRE.out (by kernel_rfl) rfl (by kernel_rfl) ?_))
 have hrf:=YK _ (x0+1) _ #[(1:Int),a,b,c,oz,oz,oz,oz,t] _ _ HRE.out;refine YO (YD rfl _ _ (x0+1) 31 _ (0,0) _ rfl hrf underlying31 rfl (by kernel_rfl)) rfl ?_;refine ⟨rfl,?_⟩;rw [HX0.out];exact ⟨hbf.os,hbf.tape,hbf.output,ZU hbf.size (Nat.le_of_eq (by simp [World.setRow])),fun k hk=>(setRow_other _ _ _ _ (by omega)).trans (hbf.block k hk)⟩
theorem CU (w:World) (K A Bb C D E Co Ro a b:Int) (k:Nat) (s:ByteArray) (hk:k=2) (c d e9:Int)
  (HK:Hid (∀ wx,QE 15 #[K,(8:Int)] wx (k:Int)))
  (HPa:Hid (∀ wx,QE 35 #[A,(-14400000:Int)] wx a))
  (HPb:Hid (∀ wx,QE 35 #[Bb,(-14400000:Int)] wx b))
  (HC:Hid (∀ wx,QE 35 #[C,(-14400000:Int)] wx c))
  (HDd:Hid (∀ wx,QE 35 #[D,(-14400000:Int)] wx d))
  (HEe:Hid (∀ wx,QE 35 #[E,oz] wx e9)):
  QB 32 #[.agg #[K,A,Bb,C,D,E,Co,Ro,s]] w (.agg #[(2:Int),a,b,c,d,e9,oz,oz,.string ⟨#[]⟩]):=by
 go_enter func32,ntmps32
 go_wp2_with fail
 obtain ⟨w0,hw0⟩:∃ w0,(w.alloc (Obj.cells #[Value.int IntKind.i64 K,Value.int IntKind.i64 A,Value.int IntKind.i64 Bb,Value.int IntKind.i64 C,Value.int IntKind.i64 D,Value.int IntKind.i64 E,Value.int IntKind.i64 Co,Value.int IntKind.i64 Ro,Value.string s] 76)).alloc (Obj.cells #[Value.int IntKind.i64 0,Value.int IntKind.i64 0,Value.int IntKind.i64 0,Value.int IntKind.i64 0,Value.int IntKind.i64 0,Value.int IntKind.i64 0,Value.int IntKind.i64 0,Value.int IntKind.i64 0,Value.string ⟨#[]⟩] 31)=w0:=⟨_,rfl⟩;have hb0:Below w w w0:=by rw [<-hw0];exact ((ZQ _ w).alloc (ZV _) _).alloc (by simp) _
 have HA:Hid (∀ w1,af w0 w1->∀ i u,([.int .i64 K,.int .i64 A,.int .i64 Bb,.int .i64 C,.int .i64 D,.int .i64 E,.int .i64 Co,.int .i64 Ro,.string s]:List Value)[i]? =some u->w1.cell? (zq w i)=some u):=by
  intro w1 hG i u hu;rw [<-hw0] at hG;refine ((aS.thing _ _ _).grow ((aS.thing _ _ _).grow (aS.alloc (B:=0) (vs:=[.int .i64 K,.int .i64 A,.int .i64 Bb,.int .i64 C,.int .i64 D,.int .i64 E,.int .i64 Co,.int .i64 Ro,.string s]) (w:=w) (t:=76) (YI _)) ((ZQ _ _).alloc (ZV _) _)) hG).at i u hu
 have hres:w0.heap[w.heap.size+1]? =some (.cells #[oz,oz,oz,oz,oz,oz,oz,oz,.string ⟨#[]⟩] 31 (0,0)):=by rw [<-hw0];exact Yu _ _ _
 have hsz0:w.heap.size+1 < w0.heap.size:=(ZF.1 hres).1;have HRS:=ai hres;rw [hw0];clear hw0 hres;obtain ⟨x0,hx0⟩:∃ x0,w.heap.size=x0:=⟨_,rfl⟩;rw [hx0] at HA HRS hsz0 hb0 ⊢;have HX0:=ai hx0;clear hx0;refine ap 11 _ (C4 w0.heap.size 10 31 #[oz,oz,oz,oz,oz,oz,oz,oz,.string ⟨#[]⟩] [.pointer (some ⟨x0,0,none⟩),.int .i64 K,.int .i64 (k:Int),.pointer (some ⟨x0,1,none⟩),.int .i64 A,.int .i64 a,.pointer (some ⟨x0,2,none⟩),.int .i64 Bb,.int .i64 b,.agg #[(k:Int),a,b,oz,oz,oz,oz,oz,.string ⟨#[]⟩],undef]) (by kernel_rfl) rfl (by kernel_rfl) lL ?_;simp only [TD];refine ⟨fun w1 hG hd=>?_,fun v0=>?_⟩
 ·clear hd;go_wp2;exact RG
 simp only [TN];refine ⟨fun w1 hG hd=>?_,fun v1=>?_⟩
 ·have d0:v0=.pointer (some ⟨x0,0,none⟩):=hd ⟨0,.data⟩ (by simp) rfl;clear hd;subst d0;have cc:=HA.out w1 hG 0 _ rfl;go_wp2;exact RG
 simp only [TN];refine ⟨fun w1 hG hd=>?_,fun v2=>?_⟩
 ·have d1:v1=.int .i64 K:=hd ⟨1,.data⟩ (by simp) rfl;clear hd;subst d1;have HX:=ai (HK.out w1);go_wp2_with fail
  refine HX.out.mono ?_;rintro e w2 ⟨rfl,rfl⟩;go_wp2;exact RG
 simp only [TN];refine ⟨fun w1 hG hd=>?_,fun v3=>?_⟩
 ·clear hd;go_wp2;exact RG
 simp only [TN];refine ⟨fun w1 hG hd=>?_,fun v4=>?_⟩
 ·have d3:v3=.pointer (some ⟨x0,1,none⟩):=hd ⟨3,.data⟩ (by simp) rfl;clear hd;subst d3;have cc:=HA.out w1 hG 1 _ rfl;go_wp2;exact RG
 simp only [TN];refine ⟨fun w1 hG hd=>?_,fun v5=>?_⟩
 ·have d4:v4=.int .i64 A:=hd ⟨4,.data⟩ (by simp) rfl;clear hd;subst d4;have HX:=ai (HPa.out w1);go_wp2_with fail
  refine HX.out.mono ?_;rintro e w2 ⟨rfl,rfl⟩;go_wp2;exact RG
 simp only [TN];refine ⟨fun w1 hG hd=>?_,fun v6=>?_⟩
 ·clear hd;go_wp2;exact RG
 simp only [TN];refine ⟨fun w1 hG hd=>?_,fun v7=>?_⟩
 ·have d6:v6=.pointer (some ⟨x0,2,none⟩):=hd ⟨6,.data⟩ (by simp) rfl;clear hd;subst d6;have cc:=HA.out w1 hG 2 _ rfl;go_wp2;exact RG
 simp only [TN];refine ⟨fun w1 hG hd=>?_,fun v8=>?_⟩
 ·have d7:v7=.int .i64 Bb:=hd ⟨7,.data⟩ (by simp) rfl;clear hd;subst d7;have HX:=ai (HPb.out w1);go_wp2_with fail
  refine HX.out.mono ?_;rintro e w2 ⟨rfl,rfl⟩;go_wp2;exact RG
 simp only [TN];refine ⟨fun w1 hG hd=>?_,fun v9=>?_⟩
 ·have d2:v2=.int .i64 (k:Int):=hd ⟨2,.data⟩ (by simp) rfl;have d5:v5=.int .i64 a:=hd ⟨5,.data⟩ (by simp) rfl;have d8:v8=.int .i64 b:=hd ⟨8,.data⟩ (by simp) rfl;clear hd;subst d2 d5 d8;go_wp2;exact RG
 simp only [TN];refine ⟨fun w1 hG hd=>?_,fun v10=>?_⟩
 ·clear hd;go_wp2;exact ⟨⟨_,rfl,hG.size,ZB _ _⟩,(ZQ _ _).alloc (ZV _) _⟩
 simp only [TN];intro w2 hG hd;have d9:v9=.agg #[(k:Int),a,b,oz,oz,oz,oz,oz,.string ⟨#[]⟩]:=hd 9 (by omega);obtain ⟨g,d10,hzg,hbg⟩:∃ g,v10=.pointer (some ⟨g,0,none⟩)/\w0.heap.size<=g/\w2.heap[g]? =some (.cells #[oz,oz,oz,oz,oz,oz,oz,oz,.string ⟨#[]⟩] 31 (0,0)):=hd 10 (by omega);subst d9 d10;clear hd;have hrow:=YK w2 g _ #[(k:Int),a,b,oz,oz,oz,oz,oz,.string ⟨#[]⟩] _ _ hbg;refine Zi rfl 31 (.tmp 3) (.tmp 13) rfl g #[(k:Int),a,b,oz,oz,oz,oz,oz,.string ⟨#[]⟩] rfl rfl _ _ hbg (by kernel_rfl) rfl (by kernel_rfl) ?_;have hO:y_ w0 g [.int .i64 (k:Int),.int .i64 a,.int .i64 b,.int .i64 0,.int .i64 0,.int .i64 0,.int .i64 0,.int .i64 0,.string ⟨#[]⟩] (w2.setRow g #[(k:Int),a,b,oz,oz,oz,oz,oz,.string ⟨#[]⟩]):=⟨hrow,⟨hG.os,hG.tape,hG.output,ZU hG.size (Nat.le_of_eq (by simp [World.setRow])),fun k hk=>(setRow_other _ _ _ _ (by omega)).trans (hG.block k hk)⟩,hzg⟩;generalize w2.setRow g #[(k:Int),a,b,oz,oz,oz,oz,oz,.string ⟨#[]⟩]=w3 at hO ⊢;clear hG hbg hrow hzg HK HPa HPb;rw [hk] at hO ⊢;clear hk;have act:True:=trivial;have q0:=hO.at 0 _ rfl;have a1:=(hO.below.cell (p:=zq x0 3) (by show x0 < _;omega)).trans (HA.out w0 (af.refl _) 3 _ rfl);go_wp2_with fail
 refine (HC.out _).mono ?_;rintro e wz1 ⟨rfl,rfl⟩;have q1:=hO.at 3 _ rfl;have f1:=hO.fz 3 (by omega);have hO:=hO.set 3 (.int .i64 c);have a2:=(hO.below.cell (p:=zq x0 4) (by show x0 < _;omega)).trans (HA.out w0 (af.refl _) 4 _ rfl);go_wp2_with fail
 refine (HDd.out _).mono ?_;rintro e wz2 ⟨rfl,rfl⟩;have q2:=hO.at 4 _ rfl;have f2:=hO.fz 4 (by omega);have hO:=hO.set 4 (.int .i64 d);have a3:=(hO.below.cell (p:=zq x0 5) (by show x0 < _;omega)).trans (HA.out w0 (af.refl _) 5 _ rfl);go_wp2_with fail
 refine (HEe.out _).mono ?_;rintro e wz3 ⟨rfl,rfl⟩;have q3:=hO.at 5 _ rfl;have f3:=hO.fz 5 (by omega);have hO:=hO.set 5 (.int .i64 e9);have HRW:=ai hO.row;have HRE:=ai ((hO.below.block (x0+1) (by omega)).trans HRS.out);have hbf:=hb0.trans (hO.below.mono (by omega));have hne:=hO.ge;simp only [List.set_cons_succ,List.set_cons_zero] at HRW;clear HRS HA hO act;go_wp2_with (first
  | (refine YG rfl 31 (.tmp 3) rfl g rfl 31 _ (0,0) _ HRW.out underlying31 rfl (by kernel_rfl) ?_)
  | (refine Zi rfl 31 (.tmp 2) (.tmp 82) rfl (x0+1) #[(2:Int),a,b,c,d,e9,oz,oz,.string ⟨#[]⟩] rfl rfl _ _ HRE.out (by kernel_rfl) rfl (by kernel_rfl) ?_))
 have hrf:=YK _ (x0+1) _ #[(2:Int),a,b,c,d,e9,oz,oz,.string ⟨#[]⟩] _ _ HRE.out;refine YO (YD rfl _ _ (x0+1) 31 _ (0,0) _ rfl hrf underlying31 rfl (by kernel_rfl)) rfl ?_;refine ⟨rfl,?_⟩;rw [HX0.out];exact ⟨hbf.os,hbf.tape,hbf.output,ZU hbf.size (Nat.le_of_eq (by simp [World.setRow])),fun k hk=>(setRow_other _ _ _ _ (by omega)).trans (hbf.block k hk)⟩
theorem CV (w:World) (K A Bb C D E Co Ro a b:Int) (k:Nat) (s:ByteArray) (hk:k=3) (c d:Int) (e9:Nat)
  (HK:Hid (∀ wx,QE 15 #[K,(8:Int)] wx (k:Int)))
  (HPa:Hid (∀ wx,QE 35 #[A,(-14400000:Int)] wx a))
  (HPb:Hid (∀ wx,QE 35 #[Bb,(-14400000:Int)] wx b))
  (HC:Hid (∀ wx,QE 35 #[C,oz] wx c))
  (HDd:Hid (∀ wx,QE 35 #[D,oz] wx d))
  (HEe:Hid (∀ wx,QE 15 #[E,(1001:Int)] wx (e9:Int))):
  QB 32 #[.agg #[K,A,Bb,C,D,E,Co,Ro,s]] w (.agg #[(3:Int),a,b,c,d,(e9:Int),oz,oz,.string ⟨#[]⟩]):=by
 go_enter func32,ntmps32
 go_wp2_with fail
 obtain ⟨w0,hw0⟩:∃ w0,(w.alloc (Obj.cells #[Value.int IntKind.i64 K,Value.int IntKind.i64 A,Value.int IntKind.i64 Bb,Value.int IntKind.i64 C,Value.int IntKind.i64 D,Value.int IntKind.i64 E,Value.int IntKind.i64 Co,Value.int IntKind.i64 Ro,Value.string s] 76)).alloc (Obj.cells #[Value.int IntKind.i64 0,Value.int IntKind.i64 0,Value.int IntKind.i64 0,Value.int IntKind.i64 0,Value.int IntKind.i64 0,Value.int IntKind.i64 0,Value.int IntKind.i64 0,Value.int IntKind.i64 0,Value.string ⟨#[]⟩] 31)=w0:=⟨_,rfl⟩;have hb0:Below w w w0:=by rw [<-hw0];exact ((ZQ _ w).alloc (ZV _) _).alloc (by simp) _
 have HA:Hid (∀ w1,af w0 w1->∀ i u,([.int .i64 K,.int .i64 A,.int .i64 Bb,.int .i64 C,.int .i64 D,.int .i64 E,.int .i64 Co,.int .i64 Ro,.string s]:List Value)[i]? =some u->w1.cell? (zq w i)=some u):=by
  intro w1 hG i u hu;rw [<-hw0] at hG;refine ((aS.thing _ _ _).grow ((aS.thing _ _ _).grow (aS.alloc (B:=0) (vs:=[.int .i64 K,.int .i64 A,.int .i64 Bb,.int .i64 C,.int .i64 D,.int .i64 E,.int .i64 Co,.int .i64 Ro,.string s]) (w:=w) (t:=76) (YI _)) ((ZQ _ _).alloc (ZV _) _)) hG).at i u hu
 have hres:w0.heap[w.heap.size+1]? =some (.cells #[oz,oz,oz,oz,oz,oz,oz,oz,.string ⟨#[]⟩] 31 (0,0)):=by rw [<-hw0];exact Yu _ _ _
 have hsz0:w.heap.size+1 < w0.heap.size:=(ZF.1 hres).1;have HRS:=ai hres;rw [hw0];clear hw0 hres;obtain ⟨x0,hx0⟩:∃ x0,w.heap.size=x0:=⟨_,rfl⟩;rw [hx0] at HA HRS hsz0 hb0 ⊢;have HX0:=ai hx0;clear hx0;refine ap 11 _ (C4 w0.heap.size 10 31 #[oz,oz,oz,oz,oz,oz,oz,oz,.string ⟨#[]⟩] [.pointer (some ⟨x0,0,none⟩),.int .i64 K,.int .i64 (k:Int),.pointer (some ⟨x0,1,none⟩),.int .i64 A,.int .i64 a,.pointer (some ⟨x0,2,none⟩),.int .i64 Bb,.int .i64 b,.agg #[(k:Int),a,b,oz,oz,oz,oz,oz,.string ⟨#[]⟩],undef]) (by kernel_rfl) rfl (by kernel_rfl) lL ?_;simp only [TD];refine ⟨fun w1 hG hd=>?_,fun v0=>?_⟩
 ·clear hd;go_wp2;exact RG
 simp only [TN];refine ⟨fun w1 hG hd=>?_,fun v1=>?_⟩
 ·have d0:v0=.pointer (some ⟨x0,0,none⟩):=hd ⟨0,.data⟩ (by simp) rfl;clear hd;subst d0;have cc:=HA.out w1 hG 0 _ rfl;go_wp2;exact RG
 simp only [TN];refine ⟨fun w1 hG hd=>?_,fun v2=>?_⟩
 ·have d1:v1=.int .i64 K:=hd ⟨1,.data⟩ (by simp) rfl;clear hd;subst d1;have HX:=ai (HK.out w1);go_wp2_with fail
  refine HX.out.mono ?_;rintro e w2 ⟨rfl,rfl⟩;go_wp2;exact RG
 simp only [TN];refine ⟨fun w1 hG hd=>?_,fun v3=>?_⟩
 ·clear hd;go_wp2;exact RG
 simp only [TN];refine ⟨fun w1 hG hd=>?_,fun v4=>?_⟩
 ·have d3:v3=.pointer (some ⟨x0,1,none⟩):=hd ⟨3,.data⟩ (by simp) rfl;clear hd;subst d3;have cc:=HA.out w1 hG 1 _ rfl;go_wp2;exact RG
 simp only [TN];refine ⟨fun w1 hG hd=>?_,fun v5=>?_⟩
 ·have d4:v4=.int .i64 A:=hd ⟨4,.data⟩ (by simp) rfl;clear hd;subst d4;have HX:=ai (HPa.out w1);go_wp2_with fail
  refine HX.out.mono ?_;rintro e w2 ⟨rfl,rfl⟩;go_wp2;exact RG
 simp only [TN];refine ⟨fun w1 hG hd=>?_,fun v6=>?_⟩
 ·clear hd;go_wp2;exact RG
 simp only [TN];refine ⟨fun w1 hG hd=>?_,fun v7=>?_⟩
 ·have d6:v6=.pointer (some ⟨x0,2,none⟩):=hd ⟨6,.data⟩ (by simp) rfl;clear hd;subst d6;have cc:=HA.out w1 hG 2 _ rfl;go_wp2;exact RG
 simp only [TN];refine ⟨fun w1 hG hd=>?_,fun v8=>?_⟩
 ·have d7:v7=.int .i64 Bb:=hd ⟨7,.data⟩ (by simp) rfl;clear hd;subst d7;have HX:=ai (HPb.out w1);go_wp2_with fail
  refine HX.out.mono ?_;rintro e w2 ⟨rfl,rfl⟩;go_wp2;exact RG
 simp only [TN];refine ⟨fun w1 hG hd=>?_,fun v9=>?_⟩
 ·have d2:v2=.int .i64 (k:Int):=hd ⟨2,.data⟩ (by simp) rfl;have d5:v5=.int .i64 a:=hd ⟨5,.data⟩ (by simp) rfl;have d8:v8=.int .i64 b:=hd ⟨8,.data⟩ (by simp) rfl;clear hd;subst d2 d5 d8;go_wp2;exact RG
 simp only [TN];refine ⟨fun w1 hG hd=>?_,fun v10=>?_⟩
 ·clear hd;go_wp2;exact ⟨⟨_,rfl,hG.size,ZB _ _⟩,(ZQ _ _).alloc (ZV _) _⟩
 simp only [TN];intro w2 hG hd;have d9:v9=.agg #[(k:Int),a,b,oz,oz,oz,oz,oz,.string ⟨#[]⟩]:=hd 9 (by omega);obtain ⟨g,d10,hzg,hbg⟩:∃ g,v10=.pointer (some ⟨g,0,none⟩)/\w0.heap.size<=g/\w2.heap[g]? =some (.cells #[oz,oz,oz,oz,oz,oz,oz,oz,.string ⟨#[]⟩] 31 (0,0)):=hd 10 (by omega);subst d9 d10;clear hd;have hrow:=YK w2 g _ #[(k:Int),a,b,oz,oz,oz,oz,oz,.string ⟨#[]⟩] _ _ hbg;refine Zi rfl 31 (.tmp 3) (.tmp 13) rfl g #[(k:Int),a,b,oz,oz,oz,oz,oz,.string ⟨#[]⟩] rfl rfl _ _ hbg (by kernel_rfl) rfl (by kernel_rfl) ?_;have hO:y_ w0 g [.int .i64 (k:Int),.int .i64 a,.int .i64 b,.int .i64 0,.int .i64 0,.int .i64 0,.int .i64 0,.int .i64 0,.string ⟨#[]⟩] (w2.setRow g #[(k:Int),a,b,oz,oz,oz,oz,oz,.string ⟨#[]⟩]):=⟨hrow,⟨hG.os,hG.tape,hG.output,ZU hG.size (Nat.le_of_eq (by simp [World.setRow])),fun k hk=>(setRow_other _ _ _ _ (by omega)).trans (hG.block k hk)⟩,hzg⟩;generalize w2.setRow g #[(k:Int),a,b,oz,oz,oz,oz,oz,.string ⟨#[]⟩]=w3 at hO ⊢;clear hG hbg hrow hzg HK HPa HPb;rw [hk] at hO ⊢;clear hk;have act:True:=trivial;have q0:=hO.at 0 _ rfl;have a1:=(hO.below.cell (p:=zq x0 3) (by show x0 < _;omega)).trans (HA.out w0 (af.refl _) 3 _ rfl);go_wp2_with fail
 refine (HC.out _).mono ?_;rintro e wz1 ⟨rfl,rfl⟩;have q1:=hO.at 3 _ rfl;have f1:=hO.fz 3 (by omega);have hO:=hO.set 3 (.int .i64 c);have a2:=(hO.below.cell (p:=zq x0 4) (by show x0 < _;omega)).trans (HA.out w0 (af.refl _) 4 _ rfl);go_wp2_with fail
 refine (HDd.out _).mono ?_;rintro e wz2 ⟨rfl,rfl⟩;have q2:=hO.at 4 _ rfl;have f2:=hO.fz 4 (by omega);have hO:=hO.set 4 (.int .i64 d);have a3:=(hO.below.cell (p:=zq x0 5) (by show x0 < _;omega)).trans (HA.out w0 (af.refl _) 5 _ rfl);go_wp2_with fail
 refine (HEe.out _).mono ?_;rintro e wz3 ⟨rfl,rfl⟩;have q3:=hO.at 5 _ rfl;have f3:=hO.fz 5 (by omega);have hO:=hO.set 5 (.int .i64 (e9:Int));have HRW:=ai hO.row;have HRE:=ai ((hO.below.block (x0+1) (by omega)).trans HRS.out);have hbf:=hb0.trans (hO.below.mono (by omega));have hne:=hO.ge;simp only [List.set_cons_succ,List.set_cons_zero] at HRW;clear HRS HA hO act;go_wp2_with (first
  | (refine YG rfl 31 (.tmp 3) rfl g rfl 31 _ (0,0) _ HRW.out underlying31 rfl (by kernel_rfl) ?_)
  | (refine Zi rfl 31 (.tmp 2) (.tmp 82) rfl (x0+1) #[(3:Int),a,b,c,d,(e9:Int),oz,oz,.string ⟨#[]⟩] rfl rfl _ _ HRE.out (by kernel_rfl) rfl (by kernel_rfl) ?_))
 have hrf:=YK _ (x0+1) _ #[(3:Int),a,b,c,d,(e9:Int),oz,oz,.string ⟨#[]⟩] _ _ HRE.out;refine YO (YD rfl _ _ (x0+1) 31 _ (0,0) _ rfl hrf underlying31 rfl (by kernel_rfl)) rfl ?_;refine ⟨rfl,?_⟩;rw [HX0.out];exact ⟨hbf.os,hbf.tape,hbf.output,ZU hbf.size (Nat.le_of_eq (by simp [World.setRow])),fun k hk=>(setRow_other _ _ _ _ (by omega)).trans (hbf.block k hk)⟩
theorem Av (w:World) (K A Bb C D E Co Ro a b:Int) (k:Nat) (s:ByteArray) (hk1:((k:Int)==1)=false) (hk2:((k:Int)==2)=false) (hk3:((k:Int)==3)=false) (c d:Int) (pc pr m:Nat) (hpc:pc < 20) (hpr:pr < 20) (hm:(1+(pc:Int))*(1+(pr:Int))=(m:Int)) (hm4:m<=400) (Tt:ByteArray->Prop)
  (HK:Hid (∀ wx,QE 15 #[K,(8:Int)] wx (k:Int)))
  (HPa:Hid (∀ wx,QE 35 #[A,(-14400000:Int)] wx a))
  (HPb:Hid (∀ wx,QE 35 #[Bb,(-14400000:Int)] wx b))
  (HC:Hid (∀ wx,QE 35 #[C,(1:Int)] wx c))
  (HDd:Hid (∀ wx,QE 35 #[D,(1:Int)] wx d))
  (HCo:Hid (∀ wx,QE 15 #[Co,(20:Int)] wx (pc:Int)))
  (HRo:Hid (∀ wx,QE 15 #[Ro,(20:Int)] wx (pr:Int)))
  (HIm:Hid (∀ wx,CP 76 #[s,(m:Int)] wx fun e w'=>∃ t,e=.returned (.string t)/\Tt t/\Below wx wx w')):
  CP 32 #[.agg #[K,A,Bb,C,D,E,Co,Ro,s]] w fun e w'=>∃ t,e=.returned (.agg #[(4:Int),a,b,c,d,oz,(1+(pc:Int):Int),(1+(pr:Int):Int),.string t])/\Tt t/\Below w w w':=by
 go_enter func32,ntmps32
 go_wp2_with fail
 obtain ⟨w0,hw0⟩:∃ w0,(w.alloc (Obj.cells #[Value.int IntKind.i64 K,Value.int IntKind.i64 A,Value.int IntKind.i64 Bb,Value.int IntKind.i64 C,Value.int IntKind.i64 D,Value.int IntKind.i64 E,Value.int IntKind.i64 Co,Value.int IntKind.i64 Ro,Value.string s] 76)).alloc (Obj.cells #[Value.int IntKind.i64 0,Value.int IntKind.i64 0,Value.int IntKind.i64 0,Value.int IntKind.i64 0,Value.int IntKind.i64 0,Value.int IntKind.i64 0,Value.int IntKind.i64 0,Value.int IntKind.i64 0,Value.string ⟨#[]⟩] 31)=w0:=⟨_,rfl⟩;have hb0:Below w w w0:=by rw [<-hw0];exact ((ZQ _ w).alloc (ZV _) _).alloc (by simp) _
 have HA:Hid (∀ w1,af w0 w1->∀ i u,([.int .i64 K,.int .i64 A,.int .i64 Bb,.int .i64 C,.int .i64 D,.int .i64 E,.int .i64 Co,.int .i64 Ro,.string s]:List Value)[i]? =some u->w1.cell? (zq w i)=some u):=by
  intro w1 hG i u hu;rw [<-hw0] at hG;refine ((aS.thing _ _ _).grow ((aS.thing _ _ _).grow (aS.alloc (B:=0) (vs:=[.int .i64 K,.int .i64 A,.int .i64 Bb,.int .i64 C,.int .i64 D,.int .i64 E,.int .i64 Co,.int .i64 Ro,.string s]) (w:=w) (t:=76) (YI _)) ((ZQ _ _).alloc (ZV _) _)) hG).at i u hu
 have hres:w0.heap[w.heap.size+1]? =some (.cells #[oz,oz,oz,oz,oz,oz,oz,oz,.string ⟨#[]⟩] 31 (0,0)):=by rw [<-hw0];exact Yu _ _ _
 have hsz0:w.heap.size+1 < w0.heap.size:=(ZF.1 hres).1;have HRS:=ai hres;rw [hw0];clear hw0 hres;obtain ⟨x0,hx0⟩:∃ x0,w.heap.size=x0:=⟨_,rfl⟩;rw [hx0] at HA HRS hsz0 hb0 ⊢;have HX0:=ai hx0;clear hx0;refine ap 11 _ (C4 w0.heap.size 10 31 #[oz,oz,oz,oz,oz,oz,oz,oz,.string ⟨#[]⟩] [.pointer (some ⟨x0,0,none⟩),.int .i64 K,.int .i64 (k:Int),.pointer (some ⟨x0,1,none⟩),.int .i64 A,.int .i64 a,.pointer (some ⟨x0,2,none⟩),.int .i64 Bb,.int .i64 b,.agg #[(k:Int),a,b,oz,oz,oz,oz,oz,.string ⟨#[]⟩],undef]) (by kernel_rfl) rfl (by kernel_rfl) lL ?_;simp only [TD];refine ⟨fun w1 hG hd=>?_,fun v0=>?_⟩
 ·clear hd;go_wp2;exact RG
 simp only [TN];refine ⟨fun w1 hG hd=>?_,fun v1=>?_⟩
 ·have d0:v0=.pointer (some ⟨x0,0,none⟩):=hd ⟨0,.data⟩ (by simp) rfl;clear hd;subst d0;have cc:=HA.out w1 hG 0 _ rfl;go_wp2;exact RG
 simp only [TN];refine ⟨fun w1 hG hd=>?_,fun v2=>?_⟩
 ·have d1:v1=.int .i64 K:=hd ⟨1,.data⟩ (by simp) rfl;clear hd;subst d1;have HX:=ai (HK.out w1);go_wp2_with fail
  refine HX.out.mono ?_;rintro e w2 ⟨rfl,rfl⟩;go_wp2;exact RG
 simp only [TN];refine ⟨fun w1 hG hd=>?_,fun v3=>?_⟩
 ·clear hd;go_wp2;exact RG
 simp only [TN];refine ⟨fun w1 hG hd=>?_,fun v4=>?_⟩
 ·have d3:v3=.pointer (some ⟨x0,1,none⟩):=hd ⟨3,.data⟩ (by simp) rfl;clear hd;subst d3;have cc:=HA.out w1 hG 1 _ rfl;go_wp2;exact RG
 simp only [TN];refine ⟨fun w1 hG hd=>?_,fun v5=>?_⟩
 ·have d4:v4=.int .i64 A:=hd ⟨4,.data⟩ (by simp) rfl;clear hd;subst d4;have HX:=ai (HPa.out w1);go_wp2_with fail
  refine HX.out.mono ?_;rintro e w2 ⟨rfl,rfl⟩;go_wp2;exact RG
 simp only [TN];refine ⟨fun w1 hG hd=>?_,fun v6=>?_⟩
 ·clear hd;go_wp2;exact RG
 simp only [TN];refine ⟨fun w1 hG hd=>?_,fun v7=>?_⟩
 ·have d6:v6=.pointer (some ⟨x0,2,none⟩):=hd ⟨6,.data⟩ (by simp) rfl;clear hd;subst d6;have cc:=HA.out w1 hG 2 _ rfl;go_wp2;exact RG
 simp only [TN];refine ⟨fun w1 hG hd=>?_,fun v8=>?_⟩
 ·have d7:v7=.int .i64 Bb:=hd ⟨7,.data⟩ (by simp) rfl;clear hd;subst d7;have HX:=ai (HPb.out w1);go_wp2_with fail
  refine HX.out.mono ?_;rintro e w2 ⟨rfl,rfl⟩;go_wp2;exact RG
 simp only [TN];refine ⟨fun w1 hG hd=>?_,fun v9=>?_⟩
 ·have d2:v2=.int .i64 (k:Int):=hd ⟨2,.data⟩ (by simp) rfl;have d5:v5=.int .i64 a:=hd ⟨5,.data⟩ (by simp) rfl;have d8:v8=.int .i64 b:=hd ⟨8,.data⟩ (by simp) rfl;clear hd;subst d2 d5 d8;go_wp2;exact RG
 simp only [TN];refine ⟨fun w1 hG hd=>?_,fun v10=>?_⟩
 ·clear hd;go_wp2;exact ⟨⟨_,rfl,hG.size,ZB _ _⟩,(ZQ _ _).alloc (ZV _) _⟩
 simp only [TN];intro w2 hG hd;have d9:v9=.agg #[(k:Int),a,b,oz,oz,oz,oz,oz,.string ⟨#[]⟩]:=hd 9 (by omega);obtain ⟨g,d10,hzg,hbg⟩:∃ g,v10=.pointer (some ⟨g,0,none⟩)/\w0.heap.size<=g/\w2.heap[g]? =some (.cells #[oz,oz,oz,oz,oz,oz,oz,oz,.string ⟨#[]⟩] 31 (0,0)):=hd 10 (by omega);subst d9 d10;clear hd;have hrow:=YK w2 g _ #[(k:Int),a,b,oz,oz,oz,oz,oz,.string ⟨#[]⟩] _ _ hbg;refine Zi rfl 31 (.tmp 3) (.tmp 13) rfl g #[(k:Int),a,b,oz,oz,oz,oz,oz,.string ⟨#[]⟩] rfl rfl _ _ hbg (by kernel_rfl) rfl (by kernel_rfl) ?_;have hO:y_ w0 g [.int .i64 (k:Int),.int .i64 a,.int .i64 b,.int .i64 0,.int .i64 0,.int .i64 0,.int .i64 0,.int .i64 0,.string ⟨#[]⟩] (w2.setRow g #[(k:Int),a,b,oz,oz,oz,oz,oz,.string ⟨#[]⟩]):=⟨hrow,⟨hG.os,hG.tape,hG.output,ZU hG.size (Nat.le_of_eq (by simp [World.setRow])),fun k hk=>(setRow_other _ _ _ _ (by omega)).trans (hG.block k hk)⟩,hzg⟩;generalize w2.setRow g #[(k:Int),a,b,oz,oz,oz,oz,oz,.string ⟨#[]⟩]=w3 at hO ⊢;clear hG hbg hrow hzg HK HPa HPb;have act:True:=trivial;have q0:=hO.at 0 _ rfl;have f0:=hO.fz 0 (by omega);have hO:=hO.set 0 (.int .i64 4);have a1:=(hO.below.cell (p:=zq x0 3) (by show x0 < _;omega)).trans (HA.out w0 (af.refl _) 3 _ rfl);go_wp2_with fail
 refine (HC.out _).mono ?_;rintro e wz1 ⟨rfl,rfl⟩;have q1:=hO.at 3 _ rfl;have f1:=hO.fz 3 (by omega);have hO:=hO.set 3 (.int .i64 c);have a2:=(hO.below.cell (p:=zq x0 4) (by show x0 < _;omega)).trans (HA.out w0 (af.refl _) 4 _ rfl);go_wp2_with fail
 refine (HDd.out _).mono ?_;rintro e wz2 ⟨rfl,rfl⟩;have q2:=hO.at 4 _ rfl;have f2:=hO.fz 4 (by omega);have hO:=hO.set 4 (.int .i64 d);have a3:=(hO.below.cell (p:=zq x0 6) (by show x0 < _;omega)).trans (HA.out w0 (af.refl _) 6 _ rfl);go_wp2_with fail
 refine (HCo.out _).mono ?_;rintro e wz3 ⟨rfl,rfl⟩;have q3:=hO.at 6 _ rfl;have f3:=hO.fz 6 (by omega);have hO:=hO.set 6 (.int .i64 (1+(pc:Int)));have a4:=(hO.below.cell (p:=zq x0 7) (by show x0 < _;omega)).trans (HA.out w0 (af.refl _) 7 _ rfl);go_wp2_with fail
 refine (HRo.out _).mono ?_;rintro e wz4 ⟨rfl,rfl⟩;have q4:=hO.at 7 _ rfl;have f4:=hO.fz 7 (by omega);have hO:=hO.set 7 (.int .i64 (1+(pr:Int)));have a8:=(hO.below.cell (p:=zq x0 8) (by show x0 < _;omega)).trans (HA.out w0 (af.refl _) 8 _ rfl);have r6:=hO.at 6 _ rfl;have r7:=hO.at 7 _ rfl;go_wp2_with fail
 refine (HIm.out _).mono ?_;rintro e wz9 ⟨t,rfl,hTt,hbz⟩;have hO:=hO.grow hbz;have q9:=hO.at 8 _ rfl;have f9:=hO.fz 8 (by omega);have hO:=hO.set 8 (.string t);have HRW:=ai hO.row;have HRE:=ai ((hO.below.block (x0+1) (by omega)).trans HRS.out);have hbf:=hb0.trans (hO.below.mono (by omega));have hne:=hO.ge;simp only [List.set_cons_succ,List.set_cons_zero] at HRW;clear HRS HA hO act;go_wp2_with (first
  | (refine YG rfl 31 (.tmp 3) rfl g rfl 31 _ (0,0) _ HRW.out underlying31 rfl (by kernel_rfl) ?_)
  | (refine Zi rfl 31 (.tmp 2) (.tmp 82) rfl (x0+1) #[(4:Int),a,b,c,d,oz,(1+(pc:Int):Int),(1+(pr:Int):Int),t] rfl rfl _ _ HRE.out (by kernel_rfl) rfl (by kernel_rfl) ?_))
 have hrf:=YK _ (x0+1) _ #[(4:Int),a,b,c,d,oz,(1+(pc:Int):Int),(1+(pr:Int):Int),t] _ _ HRE.out;refine YO (YD rfl _ _ (x0+1) 31 _ (0,0) _ rfl hrf underlying31 rfl (by kernel_rfl)) rfl ?_;refine ⟨t,rfl,hTt,?_⟩;rw [HX0.out];exact ⟨hbf.os,hbf.tape,hbf.output,ZU hbf.size (Nat.le_of_eq (by simp [World.setRow])),fun k hk=>(setRow_other _ _ _ _ (by omega)).trans (hbf.block k hk)⟩
theorem yY (o:bj) (ho:o.is) (hs:o.s.size<=400):o.text.length<=1500:=by
 obtain ⟨ha,hb,h⟩:=ho;have r:∀ {z lo hi:Int},bG z lo hi->-100000000<=lo->hi<=100000000->-100000000<=z/\z<=100000000:=fun h h1 h2=>⟨by have:=h.1;omega,by have:=h.2;omega⟩
 have l1:∀ x:Int,(-100000000<=x/\x<=100000000)->(aG [x]).length<=27:=fun x hx=>dL [x] (fun z hz=>by simp at hz;rw [hz];exact hx)
 have l2:∀ x y:Int,(-100000000<=x/\x<=100000000)->(-100000000<=y/\y<=100000000)->(aG [x,y]).length<=54:=fun x y hx hy=>dL [x,y] (fun z hz=>by simp at hz;rcases hz with rfl | rfl <;> assumption)
 have l3:∀ x y u:Int,(-100000000<=x/\x<=100000000)->(-100000000<=y/\y<=100000000)->(-100000000<=u/\u<=100000000)->(aG [x,y,u]).length<=81:=fun x y u hx hy hu=>dL [x,y,u] (fun z hz=>by simp at hz;rcases hz with rfl | rfl | rfl <;> assumption)
 have l4:∀ x y u v:Int,(-100000000<=x/\x<=100000000)->(-100000000<=y/\y<=100000000)->(-100000000<=u/\u<=100000000)->(-100000000<=v/\v<=100000000)->(aG [x,y,u,v]).length<=108:=fun x y u v hx hy hu hv=>dL [x,y,u,v] (fun z hz=>by simp at hz;rcases hz with rfl | rfl | rfl | rfl <;> assumption)
 have hA:=r ha (by omega) (by omega);have hB:=r hb (by omega) (by omega);rcases h with ⟨hk,hc,_,_,_,_,hz⟩ | ⟨hk,hc,hd,he,_⟩ | ⟨hk,hc,hd,he,_⟩ | ⟨hk,hc,hd,hco,hro,_,_⟩
 ·have q1:=l1 o.c (r hc (by omega) (by omega));have q2:=l2 o.a o.b hA hB;have q3:=gX o.s.data.toList;rw [aP] at q3;unfold bj.text;rw [ZM hk];simp only [ZY,ZX,ZS];omega
 ·have q1:=l1 o.e (r he (by omega) (by omega));have q2:=l2 o.a o.b hA hB;have q3:=l2 o.c o.d (r hc (by omega) (by omega)) (r hd (by omega) (by omega));unfold bj.text;rw [ZO (by omega),ZM hk];simp only [ZY,ZX,ZS];omega
 ·have q1:=l1 o.e (r he (by omega) (by omega));have q2:=l4 o.a o.b o.c o.d hA hB (r hc (by omega) (by omega)) (r hd (by omega) (by omega));unfold bj.text;rw [ZO (by omega),ZO (by omega),ZM hk];simp only [ZY,ZX,ZS];omega
 ·have q1:=l1 o.c (r hc (by omega) (by omega));have q2:=l3 o.d o.a o.b (r hd (by omega) (by omega)) hA hB;have q3:=ar o.co (by have:=hco.1;omega) (by have:=hco.2;omega);have q4:=ar o.ro (by have:=hro.1;omega) (by have:=hro.2;omega);unfold bj.text;rw [ZO (by omega),ZO (by omega),ZO (by omega)];simp only [ZY,ZX,ZS,aP];omega
theorem au {w w':World} (h:af w w') {a:Addr} {v:Value} (hc:w.cell? a=some v):w'.cell? a=some v:=by
 rw [h.cell (ZD w a hc)];exact hc
def Di (z:Int):Prop:=-9223372036854775808<=z/\z<=9223372036854775807
structure rj where
 (k a b c d e co ro:Int)
 (s:ByteArray)
def rj.fits (x:rj):Prop:=Di x.k/\Di x.a/\Di x.b/\Di x.c/\Di x.d/\Di x.e/\Di x.co/\Di x.ro/\x.s.size<=9223372036854775807
def rj.val (x:rj):Value:=.agg #[x.k,x.a,x.b,x.c,x.d,x.e,x.co,x.ro,x.s]
theorem D1 (w:World) (x:rj) (hx:x.fits):
  CP 32 #[x.val] w fun e w'=>∃ o:bj,e=.returned o.val/\o.is/\o.s.size<=400/\Below w w w':=by
 obtain ⟨h1,h2,h3,h4,h5,h6,h7,h8,h9⟩:=hx;have HK:=fun wx=>xE wx x.k 8 h1.1 h1.2 (by omega) (by omega)
 have HA:=fun wx=>jZ wx x.a (-14400000) h2.1 h2.2 (by omega) (by omega)
 have HB:=fun wx=>jZ wx x.b (-14400000) h3.1 h3.2 (by omega) (by omega)
 have pa:=df x.a (-14400000) (by omega);have pb:=df x.b (-14400000) (by omega);have PT:=fun (c lo:Int) (hc:Di c) (h:-14400000<=lo) (h':lo<=14400000) wx=>jZ wx c lo hc.1 hc.2 h h'
 obtain ⟨k,hk⟩:∃ k,aU x.k 8=k:=⟨_,rfl⟩;rw [hk] at HK;by_cases k1:k=1
 ·refine (CW w x.k x.a x.b x.c x.d x.e x.co x.ro _ _ k x.s k1 (aw x.c 1) (x.s.extract 0 100) HK HA HB (PT x.c 1 h4 (by omega) (by omega)) (fun wx=>om wx x.s h9)).mono ?_;rintro e w' ⟨rfl,hb⟩;have hsz:(x.s.extract 0 100).size<=100:=by simp;omega
  refine ⟨⟨1,aw x.a (-14400000),aw x.b (-14400000),aw x.c 1,0,0,0,0,x.s.extract 0 100⟩,rfl,⟨pa,pb,.inl ⟨rfl,df x.c 1 (by omega),rfl,rfl,rfl,rfl,hsz⟩⟩,by show (x.s.extract 0 100).size<=400;omega,hb⟩
 by_cases k2:k=2
 ·refine (CU w x.k x.a x.b x.c x.d x.e x.co x.ro _ _ k x.s k2 (aw x.c (-14400000)) (aw x.d (-14400000)) (aw x.e 0) HK HA HB (PT x.c _ h4 (by omega) (by omega)) (PT x.d _ h5 (by omega) (by omega)) (PT x.e 0 h6 (by omega) (by omega))).mono ?_;rintro e w' ⟨rfl,hb⟩;exact ⟨⟨2,aw x.a (-14400000),aw x.b (-14400000),aw x.c (-14400000),aw x.d (-14400000),aw x.e 0,0,0,⟨#[]⟩⟩,rfl,⟨pa,pb,.inr (.inl ⟨rfl,df x.c _ (by omega),df x.d _ (by omega),df x.e 0 (by omega),rfl,rfl,rfl⟩)⟩,by show (⟨#[]⟩:ByteArray).size<=400;decide,hb⟩
 by_cases k3:k=3
 ·have h11:=gz x.e 1001 (by omega);refine (CV w x.k x.a x.b x.c x.d x.e x.co x.ro _ _ k x.s k3 (aw x.c 0) (aw x.d 0) (aU x.e 1001) HK HA HB (PT x.c 0 h4 (by omega) (by omega)) (PT x.d 0 h5 (by omega) (by omega)) (fun wx=>xE wx x.e 1001 h6.1 h6.2 (by omega) (by omega))).mono ?_;rintro e w' ⟨rfl,hb⟩;exact ⟨⟨3,aw x.a (-14400000),aw x.b (-14400000),aw x.c 0,aw x.d 0,(aU x.e 1001:Int),0,0,⟨#[]⟩⟩,rfl,⟨pa,pb,.inr (.inr (.inl ⟨rfl,df x.c _ (by omega),df x.d _ (by omega),⟨by show (0:Int)<=(aU x.e 1001:Int);omega,by show (aU x.e 1001:Int)<=1000;omega⟩,rfl,rfl,rfl⟩))⟩,by show (⟨#[]⟩:ByteArray).size<=400;decide,hb⟩
 ·have c1:=gz x.co 20 (by omega);have c2:=gz x.ro 20 (by omega);have hm:(1+(aU x.co 20:Int))*(1+(aU x.ro 20:Int))=(((1+aU x.co 20)*(1+aU x.ro 20):Nat):Int):=by simp [Int.natCast_mul,Int.natCast_add]
  have hm4:(1+aU x.co 20)*(1+aU x.ro 20)<=400:=Xz (by omega:1+aU x.co 20<=20) (by omega:1+aU x.ro 20<=20);have hm0:0 < (1+aU x.co 20)*(1+aU x.ro 20):=Nat.mul_pos (by omega) (by omega);refine (Av w x.k x.a x.b x.c x.d x.e x.co x.ro _ _ k x.s (by simp;omega) (by simp;omega) (by simp;omega) (aw x.c 1) (aw x.d 1) (aU x.co 20) (aU x.ro 20) _ c1 c2 hm hm4 (fun t=>t.size=(1+aU x.co 20)*(1+aU x.ro 20)) HK HA HB (PT x.c 1 h4 (by omega) (by omega)) (PT x.d 1 h5 (by omega) (by omega)) (fun wx=>xE wx x.co 20 h7.1 h7.2 (by omega) (by omega)) (fun wx=>xE wx x.ro 20 h8.1 h8.2 (by omega) (by omega)) (fun wx=>ya wx x.s _ h9 hm4 hm0)).mono ?_;rintro e w' ⟨t,rfl,ht,hb⟩;refine ⟨⟨4,aw x.a (-14400000),aw x.b (-14400000),aw x.c 1,aw x.d 1,0,1+(aU x.co 20:Int),1+(aU x.ro 20:Int),t⟩,rfl,⟨pa,pb,.inr (.inr (.inr ⟨rfl,df x.c _ (by omega),df x.d _ (by omega),⟨by show (1:Int)<=1+_;omega,by show 1+_<=(64:Int);omega⟩,⟨by show (1:Int)<=1+_;omega,by show 1+_<=(64:Int);omega⟩,rfl,?_⟩))⟩,by show t.size<=400;omega,hb⟩;show (t.size:Int)=(1+(aU x.co 20:Int))*(1+(aU x.ro 20:Int))
  rw [ht,hm]
theorem xG (w:World) (y:Nat) (c:Nat) (hc:c<=1000000000) (B:Nat) (vs:List Value) (S:Bl) (hC:aS B y vs w S) (h6:vs[6]? =some (.int .i64 0)) (h7:vs[7]? =some (.int .i64 (c:Int))):
  CP 52 #[zp y] w fun e w'=>e=.returned true/\af (w.setCell (zq y 7) ((c:Int)+1:Int)) w':=by
 have c6:=hC.at 6 _ h6;have c7:=hC.at 7 _ h7;have f7:=hC.fz 7;have k6:=(hC.set 7 (.int .i64 ((c:Int)+1)) (Zx.1 h7).1).1.at 6 (0:Int) (by rw [List.getElem?_set_ne (by decide)];exact h6);clear hC h6 h7;go_enter func52,ntmps52
 go_wp2_with fail
 clear c6 c7 f7;refine ap 16 _ (ag [zp y,zp y,zq y 6,oz,true,true,undef,undef,undef,undef,undef,undef,undef,undef,undef,undef]) (by kernel_rfl) rfl (by kernel_rfl) aq ?_;simp only [TD];refine ⟨fun w1 hG hd=>?_,fun v0=>?_⟩
 ·clear hd;go_wp2;exact RG
 simp only [TN];refine ⟨fun w1 hG hd=>?_,fun v1=>?_⟩
 ·have d0:v0=.pointer (some ⟨y,0,none⟩):=hd ⟨0,.data⟩ (by simp) rfl;clear hd;subst d0;go_wp2;exact RG
 simp only [TN];refine ⟨fun w1 hG hd=>?_,fun v2=>?_⟩
 ·have d1:v1=.pointer (some ⟨y,0,none⟩):=hd ⟨1,.data⟩ (by simp) rfl;clear hd;subst d1;go_wp2;exact RG
 simp only [TN];refine ⟨fun w1 hG hd=>?_,fun v3=>?_⟩
 ·have d2:v2=.pointer (some ⟨y,6,none⟩):=hd ⟨2,.data⟩ (by simp) rfl;clear hd;subst d2;have c:=au hG k6;go_wp2;exact RG
 simp only [TN];refine ⟨fun w1 hG hd=>?_,fun v4=>?_⟩
 ·have d3:v3=.int .i64 0:=hd ⟨3,.data⟩ (by simp) rfl;clear hd;subst d3;go_wp2;exact RG
 simp only [TN];refine ⟨fun w1 hG hd=>?_,fun v5=>?_⟩
 ·have d4:v4=.bool true:=hd ⟨4,.data⟩ (by simp) rfl;clear hd;subst d4;go_wp2;exact RG
 simp only [TN];refine ⟨fun w1 hG hd=>?_,fun v6=>?_⟩
 ·have d5:v5=.bool true:=hd ⟨5,.guard⟩ (by simp) rfl;clear hd;subst d5;go_wp2;exact RG
 simp only [TN];refine ⟨fun w1 hG hd=>?_,fun v7=>?_⟩
 ·have d6:v6=undef:=hd ⟨6,.data⟩ (by simp) rfl;have d5:v5=.bool true:=hd ⟨5,.guard⟩ (by simp) rfl;clear hd;subst d6 d5;go_wp2;exact RG
 simp only [TN];refine ⟨fun w1 hG hd=>?_,fun v8=>?_⟩
 ·have d7:v7=undef:=hd ⟨7,.data⟩ (by simp) rfl;have d5:v5=.bool true:=hd ⟨5,.guard⟩ (by simp) rfl;clear hd;subst d7 d5;go_wp2;exact RG
 simp only [TN];refine ⟨fun w1 hG hd=>?_,fun v9=>?_⟩
 ·have d8:v8=undef:=hd ⟨8,.data⟩ (by simp) rfl;have d5:v5=.bool true:=hd ⟨5,.guard⟩ (by simp) rfl;clear hd;subst d8 d5;go_wp2;exact RG
 simp only [TN];refine ⟨fun w1 hG hd=>?_,fun v10=>?_⟩
 ·have d5:v5=.bool true:=hd ⟨5,.guard⟩ (by simp) rfl;clear hd;subst d5;go_wp2;exact RG
 simp only [TN];refine ⟨fun w1 hG hd=>?_,fun v11=>?_⟩
 ·have d10:v10=undef:=hd ⟨10,.data⟩ (by simp) rfl;have d5:v5=.bool true:=hd ⟨5,.guard⟩ (by simp) rfl;clear hd;subst d10 d5;go_wp2;exact RG
 simp only [TN];refine ⟨fun w1 hG hd=>?_,fun v12=>?_⟩
 ·have d11:v11=undef:=hd ⟨11,.data⟩ (by simp) rfl;have d5:v5=.bool true:=hd ⟨5,.guard⟩ (by simp) rfl;clear hd;subst d11 d5;go_wp2;exact RG
 simp only [TN];refine ⟨fun w1 hG hd=>?_,fun v13=>?_⟩
 ·have d12:v12=undef:=hd ⟨12,.data⟩ (by simp) rfl;have d5:v5=.bool true:=hd ⟨5,.guard⟩ (by simp) rfl;clear hd;subst d12 d5;go_wp2;exact RG
 simp only [TN];refine ⟨fun w1 hG hd=>?_,fun v14=>?_⟩
 ·have d9:v9=undef:=hd ⟨9,.data⟩ (by simp) rfl;have d13:v13=undef:=hd ⟨13,.data⟩ (by simp) rfl;have d5:v5=.bool true:=hd ⟨5,.guard⟩ (by simp) rfl;clear hd;subst d9 d13 d5;go_wp2;exact RG
 simp only [TN];refine ⟨fun w1 hG hd=>?_,fun v15=>?_⟩
 ·have d14:v14=undef:=hd ⟨14,.data⟩ (by simp) rfl;have d5:v5=.bool true:=hd ⟨5,.guard⟩ (by simp) rfl;clear hd;subst d14 d5;go_wp2;exact RG
 simp only [TN];intro w2 hG hd;have d5:v5=.bool true:=hd 5 (by omega);subst d5;clear hd;have HG:=ai hG;go_wp2;go_ret;exact ⟨rfl,HG.out⟩
theorem xc (w:World) (lim sp fl:Int):
  CP 21 #[lim,sp,fl] w fun e w'=>e=.returned (zp (w.heap.size+5))/\w'=(fU w lim).alloc (.cells #[zp (w.heap.size+4),.string ⟨#[]⟩,.slice none 0 0,.slice none 0 0,false,sp,fl,oz] 64):=by
 have HN:=ai (D6 w lim);have HZ:Hid ((fU w lim).heap.size=w.heap.size+5):=by show _=_;simp [fU]
 generalize fU w lim=u at HN HZ ⊢;go_enter func21,ntmps21
 go_wp2_with fail
 refine HN.out.mono ?_;rintro e w1 ⟨rfl,rfl⟩;go_wp2;go_ret;exact ⟨by rw [HZ.out];rfl,rfl⟩
theorem Cw (w:World) (B y g Wb:Nat) (N cap n cp I:Nat) (ad:Option Addr) (K A X C D E Co Ro:Int) (t:ByteArray) (os:List Value) (hI:I+1=N) (hN2:N<=1000) (hcap:N<=cap) (hcap2:cap<=9223372036854775807) (hn:n<=1000000000) (c0:w.cell? y=zp Wb) (c1:w.cell? (zq y 2)=some (.slice g N cap)) (c5:w.cell? (zq y 5)=(0:Int)) (cg2:w.cell? (zq g (I*3+2))=some (.slice ad n cp)) (fg:w.frozen? (zq g (I*3+2))=false) (hy:y < w.heap.size) (hgl:g < w.heap.size) (hgy:y≠g) (hB:B<=w.heap.size) (ow:w.ownsRow B 31 9 (.slice ad n cp) n os) (ne:(Value.slice ad n cp).ownBlock≠some y) (neg:(Value.slice ad n cp).ownBlock≠some g) (Z:Ending->World->Prop)
  (HZ:Hid (∀ v w7,(w.alloc (.cells #[K,A,X,C,D,E,Co,Ro,t] 31)).grownBy w7 (Value.slice ad n cp).ownBlock->gq (w.alloc (.cells #[K,A,X,C,D,E,Co,Ro,t] 31)) (Value.slice ad n cp).ownBlock B 31 9 (n+1) (os++[.int .i64 K,.int .i64 A,.int .i64 X,.int .i64 C,.int .i64 D,.int .i64 E,.int .i64 Co,.int .i64 Ro,.string t]) v w7->∀ w9,af (w7.setCell (zq g (I*3+2)) v) w9->CP 42 #[zp Wb,.agg #[K,A,X,C,D,E,Co,Ro,t]] w9 fun e w'=>e=.returned (0:Int)/\Z (.returned true) w')):
  CP 99 #[zp y,.agg #[K,A,X,C,D,E,Co,Ro,t]] w Z:=by
 have hIN:(N:Int) - 1=(I:Int):=by omega
 have hlt:I < N:=by omega
 have up:∀ i v,w.cell? (zq y i)=some v->(w.alloc (.cells #[K,A,X,C,D,E,Co,Ro,t] 31)).cell? (zq y i)=some v:=fun i v c=>(ZR (a:=zq y i) (YQ w _ y hy)).trans c
 have c1a:=up _ _ c1;have c0a:=up _ _ c0;have c5a:=up _ _ c5;clear up;go_enter func99,ntmps99
 go_wp2_with fail
 have HOB:Hid (∀ (w1:World),(w.alloc (.cells #[K,A,X,C,D,E,Co,Ro,t] 31)).grownBy w1 (Value.slice ad n cp).ownBlock->w1.heap[w.heap.size]? =some (.cells #[K,A,X,C,D,E,Co,Ro,t] 31 (0,0))):=fun w1 hG=>(hG.block w.heap.size (by simp) (fun e=>by have:=(ow.lt _ e.symm).2;omega)).trans (ZB w _)
 have owa:(w.alloc (.cells #[K,A,X,C,D,E,Co,Ro,t] 31)).ownsRow B 31 9 (.slice ad n cp) n os:=ow.alloc _;have hBa:B<=(w.alloc (.cells #[K,A,X,C,D,E,Co,Ro,t] 31)).heap.size:=by simp;omega
 have cga:(w.alloc (.cells #[K,A,X,C,D,E,Co,Ro,t] 31)).cell? (zq g (I*3+2))=some (.slice ad n cp):=(ZR (a:=zq g (I*3+2)) (YQ w _ g hgl)).trans cg2;have fga:(w.alloc (.cells #[K,A,X,C,D,E,Co,Ro,t] 31)).frozen? (zq g (I*3+2))=false:=(ZH (a:=zq g (I*3+2)) (YQ w _ g hgl)).trans fg;have hya:y < (w.alloc (.cells #[K,A,X,C,D,E,Co,Ro,t] 31)).heap.size:=by simp;omega
 have hga:g < (w.alloc (.cells #[K,A,X,C,D,E,Co,Ro,t] 31)).heap.size:=by simp;omega
 have hb0g:w.heap.size≠g:=by omega
 clear c0 c1 c5 cg2 fg hy hgl hB ow;generalize w.heap.size=b0 at HOB hb0g ⊢;generalize w.alloc (.cells #[K,A,X,C,D,E,Co,Ro,t] 31)=wa at HOB owa hBa cga fga hya hga c1a c0a c5a HZ ⊢;refine cW 18 _ 17 (fun w w'=>w.grownBy w' (Value.slice ad n cp).ownBlock) (pK wa [.pointer (some ⟨y,0,none⟩),.pointer (some ⟨y,0,none⟩),.pointer (some ⟨y,1,none⟩),.pointer (some ⟨y,2,none⟩),.slice g N cap,.int .i64 (I:Int),.pointer (some ⟨y,0,none⟩),.pointer (some ⟨y,0,none⟩),.pointer (some ⟨y,1,none⟩),.pointer (some ⟨y,2,none⟩),.slice g N cap,.int .i64 (I:Int),.pointer (some ⟨g,I*3,none⟩),.pointer (some ⟨g,I*3+2,none⟩),.slice ad n cp,.agg #[K,A,X,C,D,E,Co,Ro,t],undef,undef] 16 17 [.int .i64 K,.int .i64 A,.int .i64 X,.int .i64 C,.int .i64 D,.int .i64 E,.int .i64 Co,.int .i64 Ro,.string t] (Value.slice ad n cp).ownBlock B 31 9 (n+1) (os++[.int .i64 K,.int .i64 A,.int .i64 X,.int .i64 C,.int .i64 D,.int .i64 E,.int .i64 Co,.int .i64 Ro,.string t])) (by kernel_rfl) rfl (by kernel_rfl) (lT _) (fun _ _ _=>lV) (fun _ _ _=>fE) pZ jy ?_;simp only [TD];refine ⟨aB (by decide) fun w1 hG hd=>?_,fun v0=>?_⟩
 ·clear hd;go_wp2;exact RG
 simp only [TN];refine ⟨aB (by decide) fun w1 hG hd=>?_,fun v1=>?_⟩
 ·have d0:v0=.pointer (some ⟨y,0,none⟩):=hd ⟨0,.data⟩ (by simp) rfl;clear hd;subst d0;go_wp2;exact RG
 simp only [TN];refine ⟨aB (by decide) fun w1 hG hd=>?_,fun v2=>?_⟩
 ·have d1:v1=.pointer (some ⟨y,0,none⟩):=hd ⟨1,.data⟩ (by simp) rfl;clear hd;subst d1;go_wp2;exact RG
 simp only [TN];refine ⟨aB (by decide) fun w1 hG hd=>?_,fun v3=>?_⟩
 ·have d2:v2=.pointer (some ⟨y,1,none⟩):=hd ⟨2,.data⟩ (by simp) rfl;clear hd;subst d2;go_wp2;exact RG
 simp only [TN];refine ⟨aB (by decide) fun w1 hG hd=>?_,fun v4=>?_⟩
 ·have d3:v3=.pointer (some ⟨y,2,none⟩):=hd ⟨3,.data⟩ (by simp) rfl;clear hd;subst d3;have c:=(ZR (a:=zq y 2) (hG.block y hya (fun e=>ne e.symm))).trans c1a;go_wp2;exact RG
 simp only [TN];refine ⟨aB (by decide) fun w1 hG hd=>?_,fun v5=>?_⟩
 ·clear hd;go_wp2;exact RG
 simp only [TN];refine ⟨aB (by decide) fun w1 hG hd=>?_,fun v6=>?_⟩
 ·clear hd;go_wp2;exact RG
 simp only [TN];refine ⟨aB (by decide) fun w1 hG hd=>?_,fun v7=>?_⟩
 ·have d6:v6=.pointer (some ⟨y,0,none⟩):=hd ⟨6,.data⟩ (by simp) rfl;clear hd;subst d6;go_wp2;exact RG
 simp only [TN];refine ⟨aB (by decide) fun w1 hG hd=>?_,fun v8=>?_⟩
 ·have d7:v7=.pointer (some ⟨y,0,none⟩):=hd ⟨7,.data⟩ (by simp) rfl;clear hd;subst d7;go_wp2;exact RG
 simp only [TN];refine ⟨aB (by decide) fun w1 hG hd=>?_,fun v9=>?_⟩
 ·have d8:v8=.pointer (some ⟨y,1,none⟩):=hd ⟨8,.data⟩ (by simp) rfl;clear hd;subst d8;go_wp2;exact RG
 simp only [TN];refine ⟨aB (by decide) fun w1 hG hd=>?_,fun v10=>?_⟩
 ·have d9:v9=.pointer (some ⟨y,2,none⟩):=hd ⟨9,.data⟩ (by simp) rfl;clear hd;subst d9;have c:=(ZR (a:=zq y 2) (hG.block y hya (fun e=>ne e.symm))).trans c1a;go_wp2;exact RG
 simp only [TN];refine ⟨aB (by decide) fun w1 hG hd=>?_,fun v11=>?_⟩
 ·clear hd;go_wp2;exact RG
 simp only [TN];refine ⟨aB (by decide) fun w1 hG hd=>?_,fun v12=>?_⟩
 ·have d10:v10=.slice g N cap:=hd ⟨10,.data⟩ (by simp) rfl;have d11:v11=.int .i64 (I:Int):=hd ⟨11,.data⟩ (by simp) rfl;clear hd;subst d10 d11;go_wp2;exact RG
 simp only [TN];refine ⟨aB (by decide) fun w1 hG hd=>?_,fun v13=>?_⟩
 ·have d12:v12=.pointer (some ⟨g,I*3,none⟩):=hd ⟨12,.data⟩ (by simp) rfl;clear hd;subst d12;go_wp2;exact RG
 simp only [TN];refine ⟨aB (by decide) fun w1 hG hd=>?_,fun v14=>?_⟩
 ·have d13:v13=.pointer (some ⟨g,I*3+2,none⟩):=hd ⟨13,.data⟩ (by simp) rfl;clear hd;subst d13;have c:=(ZR (a:=zq g (I*3+2)) (hG.block g hga (fun e=>neg e.symm))).trans cga;go_wp2;exact RG
 simp only [TN];refine ⟨aB (by decide) fun w1 hG hd=>?_,fun v15=>?_⟩
 ·clear hd;refine YG rfl 31 (.tmp 3) rfl b0 rfl 31 _ (0,0) _ (HOB.out _ hG) underlying31 rfl (by kernel_rfl) ?_;refine YB ?_;exact ⟨rfl,rfl,rfl,af.refl _⟩
 simp only [TN];refine ⟨aB (by decide) fun w1 hG hd=>?_,fun v16=>?_⟩
 ·have d15:v15=.agg #[K,A,X,C,D,E,Co,Ro,t]:=hd ⟨15,.data⟩ (by simp) rfl;clear hd;subst d15;go_wp2;exact ⟨jI _ _ (fun k hk=>ZK (owa.lt k hk).2 (World.grownBy.size hG)),(ZQ _ _).alloc (ZV _) _⟩
 simp only [TN];refine ⟨dO rfl fun w1 hG hd=>?_,fun v17=>?_⟩
 ·have d14:v14=.slice ad n cp:=hd ⟨14,.data⟩ (by simp) rfl;have d16:pO _ _ v16 w1:=hd ⟨16,.data⟩ (by simp) rfl;clear hd;subst d14;exact nJ rfl (.tmp 27) (.tmp 29) 86 rfl 31 (.agg #[oz,oz,oz,oz,oz,oz,oz,oz,.string ⟨#[]⟩]) 9 80 Tryz.infoOp2 rfl (by omega) underlying86 B (Value.slice ad n cp) n (os) rfl owa hBa hG v16 rfl [.int .i64 K,.int .i64 A,.int .i64 X,.int .i64 C,.int .i64 D,.int .i64 E,.int .i64 Co,.int .i64 Ro,.string t] d16 rfl (by intro u hu;simp at hu;rcases hu with rfl | rfl | rfl | rfl | rfl | rfl | rfl | rfl | rfl <;> rfl) (by omega) (by omega) ⟨_,rfl,by simp [Act.put]⟩
 simp only [TN];intro w7 hG hd;have d4:v4=.slice g N cap:=hd 4 (by omega);have d5:v5=.int .i64 (I:Int):=hd 5 (by omega);have d17:gq _ _ _ _ _ _ _ v17 w7:=hd 17 (by omega);subst d4 d5;obtain ⟨ad7,cap7,hv7⟩:=d17.form;subst hv7;have HX:=ai (HZ.out _ w7 hG d17);have hb:=hG.block g hga (fun e=>neg e.symm);have hby:=hG.block y hya (fun e=>ne e.symm);have k2:=(ZR (a:=zq g (I*3+2)) hb).trans cga;have kf:=(ZH (a:=zq g (I*3+2)) hb).trans fga;have oth:∀ k,k≠g->∀ v,(w7.setCell (zq g (I*3+2)) v).heap[k]? =w7.heap[k]? :=fun k hk v=>Yr w7 ⟨g,I*3+2,none⟩ k v hk
 have HR:=ai ((oth b0 hb0g (.slice ad7 (n+1) cap7)).trans (HOB.out _ hG));have q0:(w7.setCell (zq g (I*3+2)) (.slice ad7 (n+1) cap7)).cell? y=zp Wb:=(ZR (a:=y) ((oth y hgy _).trans hby)).trans c0a;have q5:(w7.setCell (zq g (I*3+2)) (.slice ad7 (n+1) cap7)).cell? (zq y 5)=(0:Int):=(ZR (a:=zq y 5) ((oth y hgy _).trans hby)).trans c5a;have rk:(w7.setCell (zq g (I*3+2)) (.slice ad7 (n+1) cap7)).cell? b0=K:=by rw [Zw _ b0 0 _ _ _ HR.out];rfl
 clear hd HZ d17 hG hb hby oth c1a c0a c5a cga fga owa HOB;obtain ⟨bk,hbk⟩:∃ bk:Bool,(K==4)=bk:=⟨_,rfl⟩
 cases bk with
 | true=>
  go_wp2_with fail
  generalize w7.setCell (zq g (I*3+2)) (.slice ad7 (n+1) cap7)=w8 at HX HR q0 q5 rk ⊢;clear k2 kf;refine ap 5 _ (ag [zp y,zp y,zp y,zp Wb,.agg #[K,A,X,C,D,E,Co,Ro,t]]) (by kernel_rfl) rfl (by kernel_rfl) aq ?_;simp only [TD];refine ⟨fun w1 hG hd=>?_,fun v0=>?_⟩
  ·clear hd;go_wp2;exact RG
  simp only [TN];refine ⟨fun w1 hG hd=>?_,fun v1=>?_⟩
  ·have d0:v0=.pointer (some ⟨y,0,none⟩):=hd ⟨0,.data⟩ (by simp) rfl;clear hd;subst d0;go_wp2;exact RG
  simp only [TN];refine ⟨fun w1 hG hd=>?_,fun v2=>?_⟩
  ·have d1:v1=.pointer (some ⟨y,0,none⟩):=hd ⟨1,.data⟩ (by simp) rfl;clear hd;subst d1;go_wp2;exact RG
  simp only [TN];refine ⟨fun w1 hG hd=>?_,fun v3=>?_⟩
  ·have d2:v2=.pointer (some ⟨y,0,none⟩):=hd ⟨2,.data⟩ (by simp) rfl;clear hd;subst d2;have c:=au hG q0;go_wp2;exact RG
  simp only [TN];refine ⟨fun w1 hG hd=>?_,fun v4=>?_⟩
  ·clear hd;refine YG rfl 31 (.tmp 3) rfl b0 rfl 31 _ (0,0) _ ((hG.block b0 (ZF.1 HR.out).1).trans HR.out) underlying31 rfl (by kernel_rfl) ?_;refine YB ?_;exact ⟨rfl,rfl,rfl,af.refl _⟩
  simp only [TN];intro w9 hG hd;have d3:v3=.pointer (some ⟨Wb,0,none⟩):=hd 3 (by omega);have d4:v4=.agg #[K,A,X,C,D,E,Co,Ro,t]:=hd 4 (by omega);subst d3 d4;clear hd;go_wp2_with fail
  refine (HX.out _ hG).mono ?_;rintro e w10 ⟨rfl,hz⟩;have HZZ:=ai hz;clear hz;go_wp2
  first | exact HZZ.out | (go_ret;exact HZZ.out)
 | false=>
  go_wp2_with fail
  generalize w7.setCell (zq g (I*3+2)) (.slice ad7 (n+1) cap7)=w8 at HX HR q0 q5 rk ⊢;clear k2 kf;refine ap 5 _ (ag [zp y,zp y,zp y,zp Wb,.agg #[K,A,X,C,D,E,Co,Ro,t]]) (by kernel_rfl) rfl (by kernel_rfl) aq ?_;simp only [TD];refine ⟨fun w1 hG hd=>?_,fun v0=>?_⟩
  ·clear hd;go_wp2;exact RG
  simp only [TN];refine ⟨fun w1 hG hd=>?_,fun v1=>?_⟩
  ·have d0:v0=.pointer (some ⟨y,0,none⟩):=hd ⟨0,.data⟩ (by simp) rfl;clear hd;subst d0;go_wp2;exact RG
  simp only [TN];refine ⟨fun w1 hG hd=>?_,fun v2=>?_⟩
  ·have d1:v1=.pointer (some ⟨y,0,none⟩):=hd ⟨1,.data⟩ (by simp) rfl;clear hd;subst d1;go_wp2;exact RG
  simp only [TN];refine ⟨fun w1 hG hd=>?_,fun v3=>?_⟩
  ·have d2:v2=.pointer (some ⟨y,0,none⟩):=hd ⟨2,.data⟩ (by simp) rfl;clear hd;subst d2;have c:=au hG q0;go_wp2;exact RG
  simp only [TN];refine ⟨fun w1 hG hd=>?_,fun v4=>?_⟩
  ·clear hd;refine YG rfl 31 (.tmp 3) rfl b0 rfl 31 _ (0,0) _ ((hG.block b0 (ZF.1 HR.out).1).trans HR.out) underlying31 rfl (by kernel_rfl) ?_;refine YB ?_;exact ⟨rfl,rfl,rfl,af.refl _⟩
  simp only [TN];intro w9 hG hd;have d3:v3=.pointer (some ⟨Wb,0,none⟩):=hd 3 (by omega);have d4:v4=.agg #[K,A,X,C,D,E,Co,Ro,t]:=hd 4 (by omega);subst d3 d4;clear hd;go_wp2_with fail
  refine (HX.out _ hG).mono ?_;rintro e w10 ⟨rfl,hz⟩;have HZZ:=ai hz;clear hz;go_wp2
  first | exact HZZ.out | (go_ret;exact HZZ.out)
def ni (Wb:Nat) (d:St) (vp vm:Value) (sp fl c:Nat):List Value:=[.pointer (some ⟨Wb,0,none⟩),.string d.title,vp,vm,.bool d.op,.int .i64 (sp:Int),.int .i64 (fl:Int),.int .i64 (c:Int)]
def JS (B jb Wb:Nat) (d:St) (sp fl c:Nat):As:=fun w S=>∃ ps vp vm,ps.map (·.2)=d.pages/\ah (aS B jb (ni Wb d vp vm sp fl c)) (lQ B ps d.marks vp vm) w S
theorem JS.thing (B jb Wb:Nat) (d:St) (sp fl c:Nat):aJ B (JS B jb Wb d sp fl c) where
 keep:=by
  rintro w w' S ⟨ps,vp,vm,hp,h⟩ hk hz;exact ⟨ps,vp,vm,hp,(ah.thing (aS.thing _ _ _) (lQ.thing _ _ _ _ _)).keep h hk hz⟩
 lt:=by
  rintro w S k ⟨ps,vp,vm,hp,h⟩ hk;exact (ah.thing (aS.thing _ _ _) (lQ.thing _ _ _ _ _)).lt h hk
 ge:=by
  rintro w S k ⟨ps,vp,vm,hp,h⟩ hk;exact (ah.thing (aS.thing _ _ _) (lQ.thing _ _ _ _ _)).ge h hk
def JD (n:Wn) (jb:Nat) (s d:St) (sp fl c:Nat):As:=ah (JS n.B jb n.Wb d sp fl c) (WD n s)
theorem JD.thing (n:Wn) (jb:Nat) (s d:St) (sp fl c:Nat):aJ n.B (JD n jb s d sp fl c):=ah.thing (JS.thing _ _ _ _ _ _ _) (WD.thing _ _)
def EZ (n:Wn) (jb:Nat) (w:World) (S:Bl) (s:St) (sp fl c:Nat) (e:Ending) (w':World):Prop:=e=.returned true/\∃ S',JD n jb s s sp fl c w' S'/\Mv S w S' w'
theorem zj {s:St} {o:bj} (hdr:s.drawing=true) (ho:o.is) (hr:s.size+o.text.length<=1048576):s.draw o=(0,{s with pages:=s.put o,size:=s.size+o.text.length}):=by
 unfold St.draw;rw [ZO (by simp [hdr]),ZO (fun h=>h ho),ZO (by omega)]
theorem xV (n:Wn) (jb:Nat) (s:St) (fl c:Nat) (w:World) (S:Bl) (o:bj) (ho:o.is) (hos:o.s.size<=9223372036854775807) (hlim:n.lim < 0) (hok:s.ok) (hdr:s.drawing=true) (hroom:s.size+o.text.length<=1048576) (hB:n.B<=w.heap.size) (ht:bU n.B w) (h:JD n jb s s 0 fl c w S):
  CP 99 #[zp jb,o.val] w (EZ n jb w S (s.draw o).2 0 fl c):=by
 have hop:s.op=true:=by unfold St.drawing at hdr;simp at hdr;exact hdr.1
 obtain ⟨p,l,hpl,hpz⟩:=hok.some hop;have hl:=hok.pages;have hsz:=hok.size;obtain ⟨SJ,hJ,hsubJ,backJ⟩:=ah.fst (WD.thing _ _) h;obtain ⟨ps,vp,vm,hp,hS⟩:=hJ;rw [hpl] at hp;obtain ⟨x,ps',rfl⟩:∃ x ps',ps=x::ps':=by
  cases ps with
  | nil=>simp at hp
  | cons x ps'=>exact ⟨x,ps',rfl⟩
 obtain ⟨v0,q⟩:=x;simp only [Yh,List.cons.injEq] at hp;obtain ⟨rfl,hp⟩:=hp;obtain ⟨W,H,ops⟩:=q;have hlen:ps'.length+1<=80:=by
  rw [hpl] at hl;simp at hl;rw [<-hp] at hl;simpa using hl
 have hpn:ops.length<=1000000000:=by
  simp only at hpz;omega
 obtain ⟨Sa,Sb,hc,hr,hoff,back⟩:=ah.two (aS.thing _ _ _) hS;obtain ⟨Sp,Sq,hrp,hrq,hoff2,hsubq,backq⟩:=ah.two2 (aW.thing _ _ _ _ _ _) hr;obtain ⟨So,hro,hsubo,backo⟩:=ah.fst (aW.thing _ _ _ _ _ _) hrq;obtain ⟨S1,hm,hsub1,back1⟩:=ah.snd (dh.thing _ _) hro;obtain ⟨hS1,ow⟩:=hm;simp only at hS1 ow;obtain ⟨ad,cp,hform⟩:=eL ow;obtain ⟨g,cap,hfp,hcap,hcap2,hgl⟩:=iF hrp.2 (by simp);obtain ⟨Sr0,hrr0,hsubr0,_⟩:=ah.fst (ah.thing (dh.thing _ _) (aW.thing _ _ _ _ _ _)) hr;have hgy:jb≠g:=fun e=>hoff jb (by rw [hc.1];rfl) (hsubr0 jb (by rw [hrr0.1,hfp,e];rfl))
 have inq:∀ k,(Value.slice ad ops.length cp).ownBlock=some k->Sq k:=fun k e=>hsubo k (hsub1 k (by rw [hS1,hform];exact e))
 have ne:(Value.slice ad ops.length cp).ownBlock≠some jb:=fun e=>hoff jb (by rw [hc.1];rfl) (hsubq jb (inq jb e))
 have neg:(Value.slice ad ops.length cp).ownBlock≠some g:=fun e=>hoff2 g (by rw [hrp.1,hfp];rfl) (inq g e)
 have cg:=(show w.ownsRow n.B 100 3 (.slice g ((v0,W,H,ops)::ps').length cap) _ _ by rw [<-hfp];exact hrp.2).cellAt (ps'.length*3+2) (by simp;omega);have hget:(iy ((v0,(W,H,ops))::ps'))[ps'.length*3+2]? =some v0:=by
  rw [iy,Ze (by rw [eT];omega),eT,show ps'.length*3+2 - ps'.length*3=2 by omega];rfl
 rw [hget,hform] at cg;have hrp':=hrp;rw [hfp] at hrp';have fg:=(hrp'.cellAt (ps'.length*3+2) (by rw [eT];simp;omega)).2;refine Cw w n.B jb g n.Wb (ps'.length+1) cap ops.length cp ps'.length ad o.k o.a o.b o.c o.d o.e o.co o.ro o.s (k_ ops) rfl (by omega) (by simpa using hcap) hcap2 hpn (hc.at 0 _ rfl) (by rw [hc.at 2 _ rfl,hfp];rfl) (hc.at 5 _ rfl) cg fg hc.2.2.1 hgl hgy hB (by rw [<-hform];exact ow) ne neg _ ?_;intro v w7 hg hA w9 hG9;obtain ⟨kr,km⟩:=hA.moved hg;rw [<-hform] at km;have m0:Mv S1 w (ob v) w7:=by rw [hS1];exact (Mv.grow ((ZQ _ w).alloc (ZV _) _) (ob v0)).trans km
 obtain ⟨So',ho',mo⟩:=back1 (aW n.B 31 9 v (ops++[o]).length (k_ (ops++[o]))) w7 _ (by rw [qG,ZY];exact kr) m0;obtain ⟨Sq',hq',mq⟩:=backo _ _ _ ho' mo;obtain ⟨Sb',hb',mb⟩:=backq _ _ _ hq' mq;rw [hfp] at hb';obtain ⟨Sr,hrr,_,backr⟩:=ah.fst (ah.thing (ah.thing (dh.thing _ _) (aW.thing _ _ _ _ _ _)) (aW.thing _ _ _ _ _ _)) hb';obtain ⟨kp,mp⟩:=hrr.put (ps'.length*3+2) v;rw [Aj _ _ _ _ (ops++[o])] at kp;obtain ⟨Sz,hz,mz⟩:=backr _ _ _ kp mp;obtain ⟨SJ',hJ',mJ'⟩:=back _ _ _ hz (mb.trans mz);rw [<-hfp] at hJ';have hE:=zj hdr ho hroom;have hJn:JS n.B jb n.Wb (s.draw o).2 0 fl c (w7.setCell (zq g (ps'.length*3+2)) v) SJ':=by
  rw [hE];exact ⟨(v,(W,H,ops++[o]))::ps',vp,vm,by simp [St.put,hpl,hp],hJ'⟩
 obtain ⟨S8,h8,m8⟩:=backJ _ _ _ hJn mJ';have h9:=(ah.thing (JS.thing _ _ _ _ _ _ _) (WD.thing _ _)).grow h8 hG9;have m9:=m8.trans (Mv.grow hG9 S8);have tb:=m9.tabBelow (JD.thing n jb s s 0 fl c) h hB;obtain ⟨SW,hW,_,backW⟩:=ah.snd (JS.thing _ _ _ _ _ _ _) h9;refine (xd n s w9 SW o hos hlim hok (ZU hB m9.size) (ht.on tb) hW).mono ?_;rintro e w' ⟨rfl,SW',hW',mW⟩;obtain ⟨S',h',m'⟩:=backW _ _ _ hW' mW;exact ⟨by rw [hE],rfl,S',h',m9.trans m'⟩
theorem zW (w:World) (B y Wb:Nat) (K A X C D E Co Ro:Int) (t:ByteArray) (vs:List Value) (S:Bl) (hC:aS B y vs w S) (HK:Hid (∀ wx,QE 15 #[K,(8:Int)] wx (6:Int))) (Z:Ending->World->Prop) (h0:vs[0]? =some (.pointer (some ⟨Wb,0,none⟩))) (h1:1 < vs.length) (t':ByteArray) (HT:Hid (∀ wx,QE 37 #[t,(100:Int)] wx t')) (HW:Hid (∀ wa w9,af w wa->af (wa.setCell (zq y 1) t') w9->CP 36 #[zp Wb,t'] w9 fun e w'=>e=.returned (0:Int)/\Z (.returned true) w')):
  CP 51 #[zp y,.agg #[K,A,X,C,D,E,Co,Ro,t]] w Z:=by
 go_enter func51,ntmps51
 go_wp2_with fail
 refine (HK.out _).mono ?_;rintro e w1 ⟨rfl,rfl⟩;clear HK;have hrow:(w.alloc (.cells #[K,A,X,C,D,E,Co,Ro,t] 76)).heap[w.heap.size]? =some (.cells #[K,A,X,C,D,E,Co,Ro,t] 76 (0,0)):=ZB w _;have hgw:af w (w.alloc (.cells #[K,A,X,C,D,E,Co,Ro,t] 76)):=(ZQ _ w).alloc (ZV _) _;have hCa:=(aS.thing B y vs).grow hC hgw;have hyb:y < w.heap.size:=hC.2.2.1;have HRW:=ai hrow;have HGW:=ai hgw;generalize hwa:w.alloc (.cells #[K,A,X,C,D,E,Co,Ro,t] 76)=wa at HRW HGW hCa ⊢;clear hrow hgw hwa;generalize hb0:w.heap.size=b0 at HRW hyb ⊢;clear hb0;have c8:wa.cell? (zq b0 8)=t:=by rw [Zw _ b0 8 _ _ _ HRW.out];rfl
 have c0:=hCa.at 0 _ h0;have f1:=hCa.fz 1;obtain ⟨u1,hu1⟩:∃ u1,vs[1]? =some u1:=⟨_,ZN h1⟩;have c1:=hCa.at 1 _ hu1;have hCb:=(hCa.set 1 (.string t') h1).1;have k0:=hCb.at 0 _ (by rw [List.getElem?_set_ne (by decide)];exact h0);have k1:=hCb.at 1 _ (by rw [List.getElem?_set_self h1]);have HW2:=ai (fun w9 h=>HW.out wa w9 HGW.out h);clear hCa hCb hC hu1 HW;go_wp2_with fail
 refine (HT.out _).mono ?_;rintro e w1 ⟨rfl,rfl⟩;go_wp2_with fail
 refine ap 9 _ (ag [zp y,zp y,zp y,zp Wb,zp y,zp y,zq y 1,zq y 1,t']) (by kernel_rfl) rfl (by kernel_rfl) aq ?_;simp only [TD];refine ⟨fun w1 hG hd=>?_,fun v0=>?_⟩
 ·clear hd;go_wp2;exact RG
 simp only [TN];refine ⟨fun w1 hG hd=>?_,fun v1=>?_⟩
 ·have d0:v0=.pointer (some ⟨y,0,none⟩):=hd ⟨0,.data⟩ (by simp) rfl;clear hd;subst d0;go_wp2;exact RG
 simp only [TN];refine ⟨fun w1 hG hd=>?_,fun v2=>?_⟩
 ·have d1:v1=.pointer (some ⟨y,0,none⟩):=hd ⟨1,.data⟩ (by simp) rfl;clear hd;subst d1;go_wp2;exact RG
 simp only [TN];refine ⟨fun w1 hG hd=>?_,fun v3=>?_⟩
 ·have d2:v2=.pointer (some ⟨y,0,none⟩):=hd ⟨2,.data⟩ (by simp) rfl;clear hd;subst d2;have c:=au hG k0;go_wp2;exact RG
 simp only [TN];refine ⟨fun w1 hG hd=>?_,fun v4=>?_⟩
 ·clear hd;go_wp2;exact RG
 simp only [TN];refine ⟨fun w1 hG hd=>?_,fun v5=>?_⟩
 ·have d4:v4=.pointer (some ⟨y,0,none⟩):=hd ⟨4,.data⟩ (by simp) rfl;clear hd;subst d4;go_wp2;exact RG
 simp only [TN];refine ⟨fun w1 hG hd=>?_,fun v6=>?_⟩
 ·have d5:v5=.pointer (some ⟨y,0,none⟩):=hd ⟨5,.data⟩ (by simp) rfl;clear hd;subst d5;go_wp2;exact RG
 simp only [TN];refine ⟨fun w1 hG hd=>?_,fun v7=>?_⟩
 ·have d6:v6=.pointer (some ⟨y,1,none⟩):=hd ⟨6,.data⟩ (by simp) rfl;clear hd;subst d6;go_wp2;exact RG
 simp only [TN];refine ⟨fun w1 hG hd=>?_,fun v8=>?_⟩
 ·have d7:v7=.pointer (some ⟨y,1,none⟩):=hd ⟨7,.data⟩ (by simp) rfl;clear hd;subst d7;have c:=au hG k1;go_wp2;exact RG
 simp only [TN];intro w9 hG hd;have d3:v3=.pointer (some ⟨Wb,0,none⟩):=hd 3 (by omega);have d8:v8=.string t':=hd 8 (by omega);subst d3 d8;clear hd;go_wp2_with fail
 refine (HW2.out w9 hG).mono ?_;rintro e w10 ⟨rfl,hz⟩;have HZZ:=ai hz;clear hz;go_wp2
 first | exact HZZ.out | (go_ret;exact HZZ.out)
theorem zO (w:World) (B y Wb:Nat) (K A X C D E Co Ro:Int) (t:ByteArray) (vs:List Value) (S:Bl) (hC:aS B y vs w S) (HK:Hid (∀ wx,QE 15 #[K,(8:Int)] wx (7:Int))) (Z:Ending->World->Prop) (h0:vs[0]? =some (.pointer (some ⟨Wb,0,none⟩))) (HW:Hid (∀ wa,af w wa->CP 38 #[zp Wb] wa fun e w'=>e=.returned (0:Int)/\Z (.returned true) w')):
  CP 51 #[zp y,.agg #[K,A,X,C,D,E,Co,Ro,t]] w Z:=by
 go_enter func51,ntmps51
 go_wp2_with fail
 refine (HK.out _).mono ?_;rintro e w1 ⟨rfl,rfl⟩;clear HK;have hrow:(w.alloc (.cells #[K,A,X,C,D,E,Co,Ro,t] 76)).heap[w.heap.size]? =some (.cells #[K,A,X,C,D,E,Co,Ro,t] 76 (0,0)):=ZB w _;have hgw:af w (w.alloc (.cells #[K,A,X,C,D,E,Co,Ro,t] 76)):=(ZQ _ w).alloc (ZV _) _;have hCa:=(aS.thing B y vs).grow hC hgw;have hyb:y < w.heap.size:=hC.2.2.1;have HRW:=ai hrow;have HGW:=ai hgw;generalize hwa:w.alloc (.cells #[K,A,X,C,D,E,Co,Ro,t] 76)=wa at HRW HGW hCa ⊢;clear hrow hgw hwa;generalize hb0:w.heap.size=b0 at HRW hyb ⊢;clear hb0;have c0:=hCa.at 0 _ h0;have HW2:=ai (HW.out wa HGW.out);clear hCa hC HW;go_wp2_with fail
 refine HW2.out.mono ?_;rintro e w10 ⟨rfl,hz⟩;have HZZ:=ai hz;clear hz;go_wp2
 first | exact HZZ.out | (go_ret;exact HZZ.out)
theorem Cc (w:World) (B y Wb:Nat) (K A X C D E Co Ro:Int) (t:ByteArray) (vs:List Value) (S:Bl) (hC:aS B y vs w S) (Z:Ending->World->Prop) (k:Nat) (HK:Hid (∀ wx,QE 15 #[K,(8:Int)] wx (k:Int))) (hk8:k < 8) (h6:((k:Int)==6)=false) (h7:((k:Int)==7)=false) (h50:((k:Int)==0)=false) (h5:((k:Int)==5)=false) (h4:vs[4]? =some (.bool true)) (HO:Hid (∀ wa,af w wa->CP 32 #[.agg #[K,A,X,C,D,E,Co,Ro,t]] wa fun e w'=>∃ ov,e=.returned ov/\CP 99 #[zp y,ov] w' fun e w'=>e=.returned true/\Z (.returned true) w')):
  CP 51 #[zp y,.agg #[K,A,X,C,D,E,Co,Ro,t]] w Z:=by
 go_enter func51,ntmps51
 go_wp2_with fail
 refine (HK.out _).mono ?_;rintro e w1 ⟨rfl,rfl⟩;clear HK;have hrow:(w.alloc (.cells #[K,A,X,C,D,E,Co,Ro,t] 76)).heap[w.heap.size]? =some (.cells #[K,A,X,C,D,E,Co,Ro,t] 76 (0,0)):=ZB w _;have hgw:af w (w.alloc (.cells #[K,A,X,C,D,E,Co,Ro,t] 76)):=(ZQ _ w).alloc (ZV _) _;have hCa:=(aS.thing B y vs).grow hC hgw;have hyb:y < w.heap.size:=hC.2.2.1;have HRW:=ai hrow;have HGW:=ai hgw;generalize hwa:w.alloc (.cells #[K,A,X,C,D,E,Co,Ro,t] 76)=wa at HRW HGW hCa ⊢;clear hrow hgw hwa;generalize hb0:w.heap.size=b0 at HRW hyb ⊢;clear hb0;have c4:=hCa.at 4 _ h4;have HW2:=ai (HO.out wa HGW.out);clear hCa hC HO;go_wp2_with (first
  | (refine YG rfl 76 (.tmp 3) rfl b0 rfl 76 _ (0,0) _ HRW.out underlying76 rfl (by kernel_rfl) ?_))
 refine HW2.out.mono ?_;rintro e w10 ⟨ov,rfl,hz⟩;have HZZ:=ai hz;clear hz;go_wp2_with fail
 refine HZZ.out.mono ?_;rintro e w11 ⟨rfl,hz⟩;have HZ2:=ai hz;clear hz;go_wp2
 first | exact HZ2.out | (go_ret;exact HZ2.out)
theorem aW.grown {B:Nat} {e:TypeId} {z n:Nat} {v:Value} {xs:List Value} {w w':World} (h:w.ownsRow B e z v n xs) (hb:af w w'):w'.ownsRow B e z v n xs:=((aW.thing B e z v n xs).grow (S:=ob v) ⟨rfl,h⟩ hb).2
theorem C6 {B:Nat} {e:TypeId} {z n:Nat} {v:Value} {xs:List Value} {w:World} (h:w.ownsRow B e z v n xs) {g:Nat} (hg:w.heap.size<=g):some g≠v.ownBlock:=fun e=>by have:=(h.lt g e.symm).2;omega
theorem Cf (w:World) (B y Wb:Nat) (K A X C D E Co Ro:Int) (t:ByteArray) (vs:List Value) (S:Bl) (hC:aS B y vs w S) (HK:Hid (∀ wx,QE 15 #[K,(8:Int)] wx (5:Int))) (Z:Ending->World->Prop) (n cap N capp:Nat) (ad adp:Option Addr) (ms:List Value) (h0:vs[0]? =some (.pointer (some ⟨Wb,0,none⟩))) (hp:vs[2]? =some (.slice adp N capp)) (hf:vs[3]? =some (.slice ad n cap)) (h4:vs[4]? =some (.bool true)) (hn:n < 20) (hN:0 < N) (hN2:N<=1000) (ht0:t.toList.isEmpty=false) (hB:B<=w.heap.size) (ow:w.ownsRow B 98 2 (.slice ad n cap) n ms) (ne:(Value.slice ad n cap).ownBlock≠some y) (t':ByteArray) (HT:Hid (∀ wx,QE 37 #[t,(100:Int)] wx t')) (HW:Hid (∀ w0 v w7 w9,af w w0->w0.grownBy w7 (Value.slice ad n cap).ownBlock->gq w0 (Value.slice ad n cap).ownBlock B 98 2 (n+1) (ms++[.string t',.int .i64 ((N:Int) - 1)]) v w7->af (w7.setCell (zq y 3) v) w9->CP 39 #[zp Wb,t'] w9 fun e w'=>e=.returned (0:Int)/\Z (.returned true) w')):
  CP 51 #[zp y,.agg #[K,A,X,C,D,E,Co,Ro,t]] w Z:=by
 go_enter func51,ntmps51
 go_wp2_with fail
 refine (HK.out _).mono ?_;rintro e w1 ⟨rfl,rfl⟩;clear HK;have hrow:(w.alloc (.cells #[K,A,X,C,D,E,Co,Ro,t] 76)).heap[w.heap.size]? =some (.cells #[K,A,X,C,D,E,Co,Ro,t] 76 (0,0)):=ZB w _;have hgw:af w (w.alloc (.cells #[K,A,X,C,D,E,Co,Ro,t] 76)):=(ZQ _ w).alloc (ZV _) _;have hCa:=(aS.thing B y vs).grow hC hgw;have hyb:y < w.heap.size:=hC.2.2.1;have HRW:=ai hrow;have HGW:=ai hgw;generalize hwa:w.alloc (.cells #[K,A,X,C,D,E,Co,Ro,t] 76)=wa at HRW HGW hCa ⊢;clear hrow hgw hwa;generalize hb0:w.heap.size=b0 at HRW hyb ⊢;clear hb0;have hb0l:b0 < wa.heap.size:=(ZF.1 HRW.out).1;have c8:wa.cell? (zq b0 8)=t:=by rw [Zw _ b0 8 _ _ _ HRW.out];rfl
 have c4:=hCa.at 4 _ h4;have c3:=hCa.at 3 _ hf;have c2:=hCa.at 2 _ hp;have d20:decide (20<=(n:Int))=false:=by simp;omega
 have hCb:=hCa;have owb:=aW.grown ow HGW.out;have hBb:B<=wa.heap.size:=ZU hB HGW.out.size;obtain ⟨S3,hS3⟩:∃ S3,S=S3:=⟨_,rfl⟩;rw [hS3] at hCb;clear hCa hC hS3 ow;go_wp2_with fail
 refine ap 12 _ (C4 wa.heap.size 11 98 #[.string ⟨#[]⟩,oz] [.pointer (some ⟨b0,8,none⟩),.string t,.string t',.pointer (some ⟨y,0,none⟩),.pointer (some ⟨y,0,none⟩),.pointer (some ⟨y,1,none⟩),.pointer (some ⟨y,2,none⟩),.slice adp N capp,.int .i64 (N:Int),.int .i64 ((N:Int) - 1),.agg #[t',((N:Int) - 1:Int)],undef]) (by kernel_rfl) rfl (by kernel_rfl) lL ?_;simp only [TD];refine ⟨fun w1 hG hd=>?_,fun v0=>?_⟩
 ·clear hd;go_wp2;exact RG
 simp only [TN];refine ⟨fun w1 hG hd=>?_,fun v1=>?_⟩
 ·have d0:v0=.pointer (some ⟨b0,8,none⟩):=hd ⟨0,.data⟩ (by simp) rfl;clear hd;subst d0;have c:w1.cell? (zq b0 8)=t:=by rw [Zw _ b0 8 _ _ _ ((hG.block b0 hb0l).trans HRW.out)];rfl
  go_wp2;exact RG
 simp only [TN];refine ⟨fun w1 hG hd=>?_,fun v2=>?_⟩
 ·have d1:v1=.string t:=hd ⟨1,.data⟩ (by simp) rfl;clear hd;subst d1;have HX:=ai (HT.out w1);go_wp2_with fail
  refine HX.out.mono ?_;rintro e w2 ⟨rfl,rfl⟩;go_wp2;exact RG
 simp only [TN];refine ⟨fun w1 hG hd=>?_,fun v3=>?_⟩
 ·clear hd;go_wp2;exact RG
 simp only [TN];refine ⟨fun w1 hG hd=>?_,fun v4=>?_⟩
 ·have d3:v3=.pointer (some ⟨y,0,none⟩):=hd ⟨3,.data⟩ (by simp) rfl;clear hd;subst d3;go_wp2;exact RG
 simp only [TN];refine ⟨fun w1 hG hd=>?_,fun v5=>?_⟩
 ·have d4:v4=.pointer (some ⟨y,0,none⟩):=hd ⟨4,.data⟩ (by simp) rfl;clear hd;subst d4;go_wp2;exact RG
 simp only [TN];refine ⟨fun w1 hG hd=>?_,fun v6=>?_⟩
 ·have d5:v5=.pointer (some ⟨y,1,none⟩):=hd ⟨5,.data⟩ (by simp) rfl;clear hd;subst d5;go_wp2;exact RG
 simp only [TN];refine ⟨fun w1 hG hd=>?_,fun v7=>?_⟩
 ·have d6:v6=.pointer (some ⟨y,2,none⟩):=hd ⟨6,.data⟩ (by simp) rfl;clear hd;subst d6;have c:=au hG c2;go_wp2;exact RG
 simp only [TN];refine ⟨fun w1 hG hd=>?_,fun v8=>?_⟩
 ·have d7:v7=.slice adp N capp:=hd ⟨7,.data⟩ (by simp) rfl;clear hd;subst d7;go_wp2;exact RG
 simp only [TN];refine ⟨fun w1 hG hd=>?_,fun v9=>?_⟩
 ·have d8:v8=.int .i64 (N:Int):=hd ⟨8,.data⟩ (by simp) rfl;clear hd;subst d8;go_wp2;exact RG
 simp only [TN];refine ⟨fun w1 hG hd=>?_,fun v10=>?_⟩
 ·have d2:v2=.string t':=hd ⟨2,.data⟩ (by simp) rfl;have d9:v9=.int .i64 ((N:Int) - 1):=hd ⟨9,.data⟩ (by simp) rfl;clear hd;subst d2 d9;go_wp2;exact RG
 simp only [TN];refine ⟨fun w1 hG hd=>?_,fun v11=>?_⟩
 ·clear hd;go_wp2;exact ⟨⟨_,rfl,hG.size,ZB _ _⟩,(ZQ _ _).alloc (ZV _) _⟩
 simp only [TN];intro w2 hG hd;have dag:v10=.agg #[t',((N:Int) - 1:Int)]:=hd 10 (by omega);obtain ⟨g,dnb,hzg,hbg⟩:∃ g,v11=.pointer (some ⟨g,0,none⟩)/\wa.heap.size<=g/\w2.heap[g]? =some (.cells #[.string ⟨#[]⟩,oz] 98 (0,0)):=hd 11 (by omega);subst dag dnb;clear hd;have hrow:=YK w2 g _ #[t',((N:Int) - 1:Int)] _ _ hbg;have hb3:af wa (w2.setRow g #[t',((N:Int) - 1:Int)]):=⟨hG.os,hG.tape,hG.output,ZU hG.size (Nat.le_of_eq (by simp [World.setRow])),fun k hk=>(setRow_other _ _ _ _ (by omega)).trans (hG.block k hk)⟩;refine Zi rfl 98 (.tmp 7) (.tmp 132) rfl g #[t',((N:Int) - 1:Int)] rfl rfl _ _ hbg (by kernel_rfl) rfl (by kernel_rfl) ?_;generalize w2.setRow g #[t',((N:Int) - 1:Int)]=w3 at hrow hb3 ⊢;clear hG hbg;have HR3:=ai hrow;have HB3:=ai hb3;have hC3:=(aS.thing B y vs).grow hCb hb3;have ow3:=aW.grown owb hb3;have hB3:B<=w3.heap.size:=ZU hBb hb3.size;have cf3:=hC3.at 3 _ hf;have hy3:y < w3.heap.size:=hC3.2.2.1;have hgy:g≠y:=fun e=>by have:=hCb.2.2.1;omega
 have hgo:some g≠(Value.slice ad n cap).ownBlock:=C6 owb hzg;have hg3:g < w3.heap.size:=(ZF.1 hrow).1;clear hrow hb3;go_wp2_with fail
 refine cW 9 _ 8 (fun w w'=>w.grownBy w' (Value.slice ad n cap).ownBlock) (pK w3 [.pointer (some ⟨y,0,none⟩),.pointer (some ⟨y,0,none⟩),.pointer (some ⟨y,0,none⟩),.pointer (some ⟨y,1,none⟩),.pointer (some ⟨y,3,none⟩),.slice ad n cap,.agg #[t',((N:Int) - 1:Int)],undef,undef] 7 8 [.string t',.int .i64 ((N:Int) - 1)] (Value.slice ad n cap).ownBlock B 98 2 (n+1) (ms++[.string t',.int .i64 ((N:Int) - 1)])) (by kernel_rfl) rfl (by kernel_rfl) (lT _) (fun _ _ _=>lV) (fun _ _ _=>fE) pZ jy ?_;simp only [TD];refine ⟨aB (by decide) fun w1 hG hd=>?_,fun v0=>?_⟩
 ·clear hd;go_wp2;exact RG
 simp only [TN];refine ⟨aB (by decide) fun w1 hG hd=>?_,fun v1=>?_⟩
 ·clear hd;go_wp2;exact RG
 simp only [TN];refine ⟨aB (by decide) fun w1 hG hd=>?_,fun v2=>?_⟩
 ·have d1:v1=.pointer (some ⟨y,0,none⟩):=hd ⟨1,.data⟩ (by simp) rfl;clear hd;subst d1;go_wp2;exact RG
 simp only [TN];refine ⟨aB (by decide) fun w1 hG hd=>?_,fun v3=>?_⟩
 ·have d2:v2=.pointer (some ⟨y,0,none⟩):=hd ⟨2,.data⟩ (by simp) rfl;clear hd;subst d2;go_wp2;exact RG
 simp only [TN];refine ⟨aB (by decide) fun w1 hG hd=>?_,fun v4=>?_⟩
 ·have d3:v3=.pointer (some ⟨y,1,none⟩):=hd ⟨3,.data⟩ (by simp) rfl;clear hd;subst d3;go_wp2;exact RG
 simp only [TN];refine ⟨aB (by decide) fun w1 hG hd=>?_,fun v5=>?_⟩
 ·have d4:v4=.pointer (some ⟨y,3,none⟩):=hd ⟨4,.data⟩ (by simp) rfl;clear hd;subst d4;have c:=(ZR (a:=zq y 3) (hG.block y hy3 (fun e=>ne e.symm))).trans cf3;go_wp2;exact RG
 simp only [TN];refine ⟨aB (by decide) fun w1 hG hd=>?_,fun v6=>?_⟩
 ·clear hd;refine YG rfl 98 (.tmp 7) rfl g rfl 98 _ (0,0) _ ((hG.block g hg3 hgo).trans HR3.out) underlying98 rfl (by kernel_rfl) ?_;refine YB ?_;exact ⟨rfl,rfl,rfl,af.refl _⟩
 simp only [TN];refine ⟨aB (by decide) fun w1 hG hd=>?_,fun v7=>?_⟩
 ·have d6:v6=.agg #[t',((N:Int) - 1:Int)]:=hd ⟨6,.data⟩ (by simp) rfl;clear hd;subst d6;go_wp2;exact ⟨jI _ _ (fun k hk=>ZK (ow3.lt k hk).2 (World.grownBy.size hG)),(ZQ _ _).alloc (ZV _) _⟩
 simp only [TN];refine ⟨dO rfl fun w1 hG hd=>?_,fun v8=>?_⟩
 ·have d5:v5=.slice ad n cap:=hd ⟨5,.data⟩ (by simp) rfl;have d7:pO _ _ v7 w1:=hd ⟨7,.data⟩ (by simp) rfl;clear hd;subst d5;exact nJ rfl (.tmp 138) (.tmp 140) 27 rfl 98 (.agg #[.string ⟨#[]⟩,oz]) 2 24 Tryz.infoMk rfl (by omega) underlying27 B (Value.slice ad n cap) n (ms) rfl ow3 hB3 hG v7 rfl [.string t',.int .i64 ((N:Int) - 1)] d7 rfl (by intro u hu;simp at hu;rcases hu with rfl | rfl <;> rfl) (by omega) (by omega) ⟨_,rfl,by simp [Act.put]⟩
 simp only [TN];intro w7 hG hd;have d0:v0=.pointer (some ⟨y,0,none⟩):=hd 0 (by omega);have d8:gq _ _ _ _ _ _ _ v8 w7:=hd 8 (by omega);subst d0;obtain ⟨ad7,cap7,hv7⟩:=d8.form;subst hv7;have hby:=hG.block y hy3 (fun e=>ne e.symm);have hC7:aS B y vs w7 S3:=(aS.thing B y vs).keep hC3 (fun k hk=>by have e1:=hC3.1;rw [e1] at hk;have e2:k=y:=hk;rw [e2];exact hby) (World.grownBy.size hG);have HG7:=ai hG;have HA7:=ai d8;have cf7:=hC7.at 3 _ hf;have ff7:=hC7.fz 3;have hC8:=(hC7.set 3 (.slice ad7 (n+1) cap7) (Zx.1 hf).1).1;have hr8:=(Yr w7 ⟨y,3,none⟩ g (.slice ad7 (n+1) cap7) hgy).trans ((hG.block g hg3 hgo).trans HR3.out);clear hd hG d8 hby cf3;have k0:=hC8.at 0 _ (by rw [List.getElem?_set_ne (by decide)];exact h0);have kt:(w7.setCell (zq y 3) (.slice ad7 (n+1) cap7)).cell? g=t':=by rw [Zw _ g 0 _ _ _ hr8];rfl
 have HW2:=ai (fun w9 h=>HW.out w3 _ w7 w9 (af.trans HGW.out HB3.out) HG7.out HA7.out h);clear hr8 hC8 hC7 HW HG7 HA7 hC3 ow3;go_wp2_with fail
 refine ap 6 _ (ag [zp y,zp y,zp y,zp Wb,zp g,t']) (by kernel_rfl) rfl (by kernel_rfl) aq ?_;simp only [TD];refine ⟨fun w1 hG hd=>?_,fun v0=>?_⟩
 ·clear hd;go_wp2;exact RG
 simp only [TN];refine ⟨fun w1 hG hd=>?_,fun v1=>?_⟩
 ·have d0:v0=.pointer (some ⟨y,0,none⟩):=hd ⟨0,.data⟩ (by simp) rfl;clear hd;subst d0;go_wp2;exact RG
 simp only [TN];refine ⟨fun w1 hG hd=>?_,fun v2=>?_⟩
 ·have d1:v1=.pointer (some ⟨y,0,none⟩):=hd ⟨1,.data⟩ (by simp) rfl;clear hd;subst d1;go_wp2;exact RG
 simp only [TN];refine ⟨fun w1 hG hd=>?_,fun v3=>?_⟩
 ·have d2:v2=.pointer (some ⟨y,0,none⟩):=hd ⟨2,.data⟩ (by simp) rfl;clear hd;subst d2;have c:=au hG k0;go_wp2;exact RG
 simp only [TN];refine ⟨fun w1 hG hd=>?_,fun v4=>?_⟩
 ·clear hd;go_wp2;exact RG
 simp only [TN];refine ⟨fun w1 hG hd=>?_,fun v5=>?_⟩
 ·have d4:v4=.pointer (some ⟨g,0,none⟩):=hd ⟨4,.data⟩ (by simp) rfl;clear hd;subst d4;have c:=au hG kt;go_wp2;exact RG
 simp only [TN];intro w9 hG hd;have d3:v3=.pointer (some ⟨Wb,0,none⟩):=hd 3 (by omega);have d5:v5=.string t':=hd 5 (by omega);subst d3 d5;clear hd;go_wp2_with fail
 refine (HW2.out w9 hG).mono ?_;rintro e w10 ⟨rfl,hz⟩;have HZZ:=ai hz;clear hz;go_wp2
 first | exact HZZ.out | (go_ret;exact HZZ.out)
theorem yJ (w:World) (jb Wb:Nat) (a0:Option Addr) (len cap:Nat) (HB:Hid (CP 21 #[(-1:Int),oz,oz] w fun e w1=>e=.returned (zp jb)/\CP 22 #[zp jb,.slice a0 len cap] w1 fun e w2=>e=.returned true/\w2.cell? jb=some (.pointer (some ⟨Wb,0,none⟩))/\CP 20 #[zp Wb] w2 fun e w3=>∃ f,e=.returned (.string f)/\CP 19 #[.string f] w3 fun e w4=>∃ ti a1 n1 k1 a2 n2 k2 td vp vm,e=.returned (.tuple #[.agg #[.string ti,.slice a1 n1 k1,.slice a2 n2 k2],oz])/\∀ w5,af w4 w5->w5.rangeAt jb 1 [.string td,vp,vm]/\CP 23 #[.agg #[.string ti,.slice a1 n1 k1,.slice a2 n2 k2],.agg #[.string td,vp,vm]] w5 fun e w6=>e=.returned true/\Below w w w6)):
  QB 6 #[.slice a0 len cap] w true:=by
 go_enter func6,ntmps6
 go_wp2_with fail
 refine HB.out.mono ?_;rintro e w1 ⟨rfl,h1⟩;have H1:=ai h1;clear h1 HB;go_wp2_with fail
 refine H1.out.mono ?_;rintro e w2 ⟨rfl,c0,h2⟩;have H2:=ai h2;clear h2 H1;go_wp2_with fail
 refine H2.out.mono ?_;rintro e w3 ⟨f,rfl,h3⟩;have H3:=ai h3;clear h3 H2 c0;go_wp2_with fail
 refine H3.out.mono ?_;rintro e w4 ⟨ti,a1,n1,k1,a2,n2,k2,td,vp,vm,rfl,h4⟩;have H4:=ai h4;clear h4 H3;go_wp2_with fail
 have hr4:(w4.alloc (.cells #[ti,.slice a1 n1 k1,.slice a2 n2 k2] 29)).heap[w4.heap.size]? =some (.cells #[ti,.slice a1 n1 k1,.slice a2 n2 k2] 29 (0,0)):=ZB w4 _;have g5:af w4 (w4.alloc (.cells #[ti,.slice a1 n1 k1,.slice a2 n2 k2] 29)):=(ZQ _ w4).alloc (ZV _) _;have HR4:=ai hr4;have G5:=ai g5;clear hr4 g5;generalize w4.alloc (.cells #[ti,.slice a1 n1 k1,.slice a2 n2 k2] 29)=w5 at HR4 G5 ⊢;generalize w4.heap.size=b4 at HR4 ⊢;have hb4:b4 < w5.heap.size:=(ZF.1 HR4.out).1;refine ap 5 _ (ag [.agg #[ti,.slice a1 n1 k1,.slice a2 n2 k2],zp jb,zp jb,zq jb 1,.agg #[td,vp,vm]]) (by kernel_rfl) rfl (by kernel_rfl) aq ?_;simp only [TD];refine ⟨fun w1 hG hd=>?_,fun v0=>?_⟩
 ·clear hd;refine YG rfl 29 (.tmp 5) rfl b4 rfl 29 _ (0,0) _ ((hG.block b4 hb4).trans HR4.out) underlying29 rfl (by kernel_rfl) ?_;refine YB ?_;exact ⟨rfl,rfl,rfl,af.refl _⟩
 simp only [TN];refine ⟨fun w1 hG hd=>?_,fun v1=>?_⟩
 ·clear hd;go_wp2;exact RG
 simp only [TN];refine ⟨fun w1 hG hd=>?_,fun v2=>?_⟩
 ·have d1:v1=.pointer (some ⟨jb,0,none⟩):=hd ⟨1,.data⟩ (by simp) rfl;clear hd;subst d1;go_wp2;exact RG
 simp only [TN];refine ⟨fun w1 hG hd=>?_,fun v3=>?_⟩
 ·have d2:v2=.pointer (some ⟨jb,0,none⟩):=hd ⟨2,.data⟩ (by simp) rfl;clear hd;subst d2;go_wp2;exact RG
 simp only [TN];refine ⟨fun w1 hG hd=>?_,fun v4=>?_⟩
 ·have d3:v3=.pointer (some ⟨jb,1,none⟩):=hd ⟨3,.data⟩ (by simp) rfl;clear hd;subst d3;refine wpList_load_mid rfl 29 (.tmp 28) rfl jb 1 rfl [.string td,vp,vm] _ (H4.out w1 (af.trans G5.out hG)).1 underlying29 rfl (by kernel_rfl) ?_;refine YB ?_;exact ⟨rfl,rfl,rfl,af.refl _⟩
 simp only [TN];intro w6 hG hd;have d0:v0=.agg #[ti,.slice a1 n1 k1,.slice a2 n2 k2]:=hd 0 (by omega);have d4:v4=.agg #[td,vp,vm]:=hd 4 (by omega);subst d0 d4;clear hd;have H6:=ai (H4.out w6 (af.trans G5.out hG)).2;clear H4 HR4 G5 hG;go_wp2_with fail
 refine H6.out.mono ?_;rintro e w7 ⟨rfl,hb⟩;have HZ:=ai hb;clear hb H6;go_wp2
 first | exact ⟨rfl,HZ.out⟩ | (go_ret;exact ⟨rfl,HZ.out⟩)
end Go.Proofs.YtbklfkpjoinofaaGreatDoor
