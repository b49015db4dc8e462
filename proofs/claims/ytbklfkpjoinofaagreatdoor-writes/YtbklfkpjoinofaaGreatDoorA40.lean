import Derived.Test.YtbklfkpjoinofaaGreatDoorA32
import Derived.Test.YtbklfkpjoinofaaGreatDoorA39
set_option linter.all false
set_option maxRecDepth 100000
set_option maxHeartbeats 8000000
namespace Go.Proofs.YtbklfkpjoinofaaGreatDoor
open Go.RowKit Go.Proofs.Tryz
theorem yY (w:World) (r:Nat) (first:Int) (Z:Ending->World->Prop)
  (H1:Hid (CP 115 #[zp r,.string ⟨#[60,60,32,47,84,121,112,101,32,47,79,117,116,108,105,110,101,115]⟩] w fun e w'=>e=.returned false/\Z (.returned (0:Int)) w')):
  CP 72 #[zp r,first] w Z:=by
 go_enter func72,ntmps72
 go_wp2_with fail
 refine H1.out.mono ?_;rintro e w1 ⟨rfl,hZ⟩;go_wp2_with fail
 first
  | exact hZ
  | (go_ret;exact hZ)
theorem aW.moved2 {B:Nat} {e:TypeId} {z:Nat} {v v':Value} {n':Nat} {xs':List Value} {w w':World} (hg:w.grownBy w' v.ownBlock) (ho:w'.ownsRow B e z v' n' xs') (hat:v'.ownBlock=v.ownBlock\/∃ k,v'.ownBlock=some k/\w.heap.size<=k):aW B e z v' n' xs' w' (ob v')/\Mv (ob v) w (ob v') w':=by
 refine ⟨⟨rfl,ho⟩,⟨⟨hg.os,hg.tape,hg.output,hg.size,fun k hk hb=>hg.block k hk (fun e=>hb e.symm)⟩,?_⟩⟩;intro k hk;rcases hat with e | ⟨j,e,hj⟩
 ·exact .inl (by unfold ob at hk ⊢;rw [<-e];exact hk)
 ·unfold ob at hk;rw [e] at hk;cases hk;exact .inr hj
theorem jA.marked {B r c:Nat} {ti:ByteArray} {vp vm:Value} {starts:List Nat} {w:World} {S:Bl} (h:jA B r c ti vp vm starts w S) (v:Value):∃ S',jA B r c ti vp v starts (w.setCell (zq r 3) v) S'/\Mv S w S' (w.setCell (zq r 3) v):=by
 obtain ⟨vs,h⟩:=h;obtain ⟨Sc,hc1,_,k2⟩:=h.fst (aW.thing B _ _ _ _ _);obtain ⟨hc2,hm2⟩:=hc1.set 3 v (by simp);obtain ⟨S'',hs'',hm''⟩:=k2 _ _ _ hc2 hm2;exact ⟨S'',⟨vs,hs''⟩,hm''⟩
theorem dq.marked {B r c p:Nat} {s ti:ByteArray} {vp vm:Value} {starts:List Nat} {w:World} {S:Bl} (h:dq B r c s p ti vp vm starts w S) (v:Value):∃ S',dq B r c s p ti vp v starts (w.setCell (zq r 3) v) S'/\Mv S w S' (w.setCell (zq r 3) v):=by
 obtain ⟨S1,hR,_,k⟩:=h.fst (aS.thing B c _);obtain ⟨S1',hR',m'⟩:=hR.marked v;exact k _ _ _ hR' m'
def kQ (B r c:Nat) (s:ByteArray) (p:Nat) (ti:ByteArray) (vp vm:Value) (starts:List Nat) (n:Nat) (mc:List Value):As:=ah (dq B r c s p ti vp vm starts) (aW B 98 2 vm n mc)
theorem kQ.thing (B r c:Nat) (s:ByteArray) (p:Nat) (ti:ByteArray) (vp vm:Value) (starts:List Nat) (n:Nat) (mc:List Value):aJ B (kQ B r c s p ti vp vm starts n mc):=ah.thing (dq.thing _ _ _ _ _ _ _ _ _) (aW.thing _ _ _ _ _ _)
theorem kQ.put {B r c p:Nat} {s ti:ByteArray} {vp vm:Value} {starts:List Nat} {n:Nat} {mc mc':List Value} {w:World} {S:Bl} (h:kQ B r c s p ti vp vm starts n mc w S) (v':Value) (w':World) (hg:w.grownBy w' vm.ownBlock) (ho:w'.ownsRow B 98 2 v' (n+1) mc') (hat:v'.ownBlock=vm.ownBlock\/∃ k,v'.ownBlock=some k/\w.heap.size<=k):
  ∃ S',kQ B r c s p ti vp v' starts (n+1) mc' (w'.setCell (zq r 3) v') S'/\Mv S w S' (w'.setCell (zq r 3) v'):=by
 obtain ⟨Sb,hb1,_,k1⟩:=ah.snd (dq.thing B r c s p ti vp vm starts) h;obtain ⟨hr,hm⟩:=aW.moved2 (n':=n+1) hg ho hat;have eb:Sb=ob vm:=hb1.1;subst eb;obtain ⟨S',hs',hm'⟩:=k1 (aW B 98 2 v' (n+1) mc') w' _ hr hm;obtain ⟨Sc,hc1,_,k2⟩:=hs'.fst (aW.thing B _ _ _ _ _);obtain ⟨Sd,hc2,hm2⟩:=hc1.marked v';obtain ⟨S'',hs'',hm''⟩:=k2 _ _ _ hc2 hm2;exact ⟨S'',hs'',hm'.trans hm''⟩
theorem kQ.off {B r c p:Nat} {s ti:ByteArray} {vp vm:Value} {starts:List Nat} {n:Nat} {mc:List Value} {w:World} {S:Bl} (h:kQ B r c s p ti vp vm starts n mc w S):w.ownsRow B 98 2 vm n mc/\vm.ownBlock≠some r:=by
 obtain ⟨S1,S2,h1,h2,ho,_⟩:=h;refine ⟨h2.2,fun e=>ho r h1.own ?_⟩;rw [h2.1];exact e
theorem sE (o m fp i:Nat) (t:List UInt8) (p:Nat) (ho:0 < o):iK o m fp i t p++eh=[60,60,32,47,84,105,116,108,101,32]++(bc t++(([32,47,80,97,114,101,110,116,32]++aD (o:Int)++[32])++(bt [47,80,114,101,118] (if i=0 then 0 else ((o+i:Nat):Int))++(bt [47,78,101,120,116] (if i+1=m then 0 else ((o+i+2:Nat):Int))++([47,68,101,115,116,32,91]++(Lib.decDigits (fp+p)++[32,48,32,82,32,47,70,105,116,93,32,62,62,10,101,110,100,111,98,106,10])))))):=by
 have e1:bt [47,80,97,114,101,110,116] (o:Int)=[47,80,97,114,101,110,116]++[32]++aD (o:Int)++[32]:=by
  unfold bt;rw [ZU (by omega)]
 have e2:aD ((fp+p:Nat):Int)=Lib.decDigits (fp+p)++[32,48,32,82]:=by
  rw [aD,Lib.itoa_nonneg]
 unfold iK;rw [e1,e2];simp only [eh,ZQ,Zy,Yx]
theorem uh (o m:Nat):f_ o m++eh=([60,60,32,47,84,121,112,101,32,47,79,117,116,108,105,110,101,115,32,47,70,105,114,115,116,32]++aD ((o+1:Nat):Int)++[32,47,76,97,115,116,32])++(Lib.decDigits (o+m)++([32,48,32,82,32,47,67,111,117,110,116,32]++Lib.itoa (m:Int)++[32,62,62,10,101,110,100,111,98,106,10]))\/o+m=0:=by
 by_cases h:o+m=0
 ·exact .inr h
 refine .inl ?_;have e1:bt [47,70,105,114,115,116] ((o+1:Nat):Int)=[47,70,105,114,115,116]++[32]++aD ((o+1:Nat):Int)++[32]:=by
  unfold bt;rw [ZU (by omega)]
 have e2:bt [47,76,97,115,116] ((o+m:Nat):Int)=[47,76,97,115,116]++[32]++aD ((o+m:Nat):Int)++[32]:=by
  unfold bt;rw [ZU (by omega)]
 have e3:aD ((o+m:Nat):Int)=Lib.decDigits (o+m)++[32,48,32,82]:=by rw [aD,Lib.itoa_nonneg]
 unfold f_;rw [e1,e2,e3];simp only [eh,ZQ,Zy,Yx]
theorem Al (L:List (List UInt8)) (o k:Nat) (hk:k < L.length):∃ Y,aF o L=aF o (L.take k)++(aK (o+k) L[k]++Y):=by
 refine ⟨aF (o+k+1) (L.drop (k+1)),?_⟩
 conv=>lhs;rw [<-YI k L]
 rw [dX,YZ hk,aF,Zx,Zr (by omega)]
theorem au.obj {s:ByteArray} {p o:Nat} {L:List (List UInt8)} (h:au s p (aF o L)) (k:Nat) (hk:k < L.length):au s (p+(aF o (L.take k)).length) (aK (o+k) L[k]):=by
 obtain ⟨Y,hY⟩:=Al L o k hk;rw [hY] at h;exact h.right.left
theorem kD (all m fp:Nat):∀ (l:List (List UInt8×Nat)) (i k:Nat) (hk:k < l.length),(bK all m fp i l)[k]? =some (iK all m fp (i+k) l[k].1 l[k].2)
 | [],_,_,hk=>by simp at hk
 | x::l,i,0,_=>by simp [bK]
 | x::l,i,k+1,hk=>by
  have:=kD all m fp l (i+1) k (by simpa using hk);simp only [bK,List.getElem?_cons_succ,List.getElem_cons_succ];rw [this];congr 2;omega
def rh (ms:List (ByteArray×Nat)):Nat->Nat
 | 0=>0
 | i+1=>(ms.getD i (⟨#[]⟩,0)).2
theorem vn (w:World) (B r c p first N:Nat) (s ti:ByteArray) (vp:Value) (starts:List Nat) (S:Bl) (ms:List (ByteArray×Nat)) (hvp:∃ ad cap,vp=.slice ad N cap) (hN:N<=80) (hfirst:first<=1000) (h:kQ B r c s p ti vp (.slice none 0 0) starts 0 [] w S) (hB:B<=w.heap.size) (ht:bU B w) (hs:s.size<=2000000000) (hl:starts.length<=1000) (hp:p<=s.size) (hm:ms.length<=20) (hms:∀ m∈ms,0 < m.1.size/\m.1.size<=100/\m.2 < N) (hup:ms.Pairwise (fun a b=>a.2<=b.2))
  (hno:ms=[]->¬ au s p (aL (starts.length+1)++[60,60,32,47,84,121,112,101,32,47,79,117,116,108,105,110,101,115]))
  (hg:au s p (aF (starts.length+1) (dd (starts.length+1) first (ax ms)))):
  CP 72 #[zp r,(first:Int)] w fun e w'=>e=.returned ((if ax ms=[] then 0 else starts.length+1:Nat):Int)/\∃ vm S',kQ B r c s (p+(aF (starts.length+1) (dd (starts.length+1) first (ax ms))).length) ti vp vm (starts++aO p (starts.length+1) (dd (starts.length+1) first (ax ms))) ms.length (iz ms) w' S'/\Mv S w S' w':=by
 by_cases h0:ms=[]
 ·subst h0;refine yY w r (first:Int) _ ?_;obtain ⟨S1,hd,_,back⟩:=ah.fst (aW.thing _ _ _ _ _ _) h;refine (hd.seen hB ht hs (by omega) hp [60,60,32,47,84,121,112,101,32,47,79,117,116,108,105,110,101,115] (by decide) false ⟨fun e=>by simp at e,fun g=>absurd g (hno rfl)⟩).mono ?_;rintro e w' ⟨rfl,S',h',m'⟩;obtain ⟨S2,h2,m2⟩:=back _ _ _ h' m';refine ⟨rfl,by simp [ax],.slice none 0 0,S2,?_,m2⟩;simp only [ax,XT,dd,if_true,aF,aO,ZW,iz,Yp,Zm];exact h2
 have hl0:0 < ms.length:=Xw.2 h0;have hne:ax ms≠[]:=by simp [ax,h0]
 have hmm:(ax ms).length=ms.length:=by simp [ax]
 rw [ZU hne];obtain ⟨o,ho⟩:∃ o,o=starts.length+1:=⟨_,rfl⟩;have ho0:0 < o:=by omega
 have hmk:dd (starts.length+1) first (ax ms)=f_ o ms.length::bK o ms.length first 0 (ax ms):=by rw [dd,ZU hne,hmm, <-ho]
 rw [hmk] at hg ⊢;rw [<-ho] at hg ⊢;obtain ⟨L,hL⟩:∃ L,L=f_ o ms.length::bK o ms.length first 0 (ax ms):=⟨_,rfl⟩;rw [<-hL] at hg ⊢;have hLl:L.length=ms.length+1:=by rw [hL,ZY,dN,hmm]
 have at_:∀ i,i < ms.length->∃ x,ms[i]? =some x/\ms.getD i (⟨#[]⟩,0)=x/\0 < x.1.size/\x.1.size<=100/\x.2 < N:=fun i hi=>⟨ms[i],ZK hi,by simp [hi],hms _ (YK hi)⟩
 have hL0:∀ h,L[0]'h=f_ o ms.length:=by intro h;subst hL;rfl
 have hLi:∀ i (hi:i < ms.length) h,L[i+1]'h=iK o ms.length first i (ms.getD i (⟨#[]⟩,0)).1.data.toList (ms.getD i (⟨#[]⟩,0)).2:=by
  intro i hi h;have h1:L[i+1]? =some (iK o ms.length first i (ms.getD i (⟨#[]⟩,0)).1.data.toList (ms.getD i (⟨#[]⟩,0)).2):=by
   rw [hL,List.getElem?_cons_succ,kD o ms.length first (ax ms) 0 i (by omega),Zc];congr 1;simp [ax,hi]
  rw [ZK h] at h1;exact Zd h1
 clear hL hmk;have gi:∀ k,k < ms.length+1->∀ hk,au s (p+(aF o (L.take k)).length) (aL (o+k)++(L[k]'hk++eh)):=fun k _ hk=>hg.obj k hk
 obtain ⟨pos,hpos⟩:∃ pos:Nat->Nat,∀ k,pos k=p+(aF o (L.take k)).length:=⟨_,fun _=>rfl⟩;have hpn:∀ k (hk:k < L.length),pos (k+1)=pos k+(aL (o+k)).length+(L[k]++eh).length:=by
  intro k hk;rw [hpos,hpos,ZH hk,fj,ZZ,Zx,Zr (by omega),aK,ZZ];omega
 have hbg:∀ k (hk:k < L.length),aO p o (L.take (k+1))=aO p o (L.take k)++[pos k]:=by
  intro k hk;rw [hpos,ZH hk,il]
 have hbl:∀ k,k<=L.length->(starts++aO p o (L.take k)).length+1=o+k:=by
  intro k hk;rw [ZZ,ck,Zx,Zr hk];omega
 have hout:=(uh o ms.length).resolve_right (by omega);have g0:au s (pos 0) (aL o++(f_ o ms.length++eh)):=by
  have:=gi 0 (by omega) (by omega);rw [hL0] at this;rw [hpos];exact this
 have gm:∀ i,i < ms.length->au s (pos (i+1)) (aL (o+(i+1))++(L.getD (i+1) []++eh)):=by
  intro i hi;have:=gi (i+1) (by omega) (by omega);rw [hpos];have e:L.getD (i+1) []=L[i+1]'(by omega):=by rw [ZB,ZK (by omega)];rfl
  rw [e];exact this
 have hmar2:∀ i,i < ms.length->L.getD (i+1) []++eh=[60,60,32,47,84,105,116,108,101,32]++(bc (ms.getD i (⟨#[]⟩,0)).1.data.toList++(([32,47,80,97,114,101,110,116,32]++aD (o:Int)++[32])++(bt [47,80,114,101,118] (if i=0 then 0 else ((o+i:Nat):Int))++(bt [47,78,101,120,116] (if i+1=ms.length then 0 else ((o+i+2:Nat):Int))++([47,68,101,115,116,32,91]++(Lib.decDigits (first+(ms.getD i (⟨#[]⟩,0)).2)++[32,48,32,82,32,47,70,105,116,93,32,62,62,10,101,110,100,111,98,106,10])))))):=by
  intro i hi;have e:L.getD (i+1) []=L[i+1]'(by omega):=by rw [ZB,ZK (by omega)];rfl
  rw [e,hLi i hi (by omega)];exact sE o ms.length first i _ _ ho0
 have hpm:∀ i,i < ms.length->pos (i+2)=pos (i+1)+(aL (o+(i+1))).length+(L.getD (i+1) []++eh).length:=by
  intro i hi;have e:L.getD (i+1) []=L[i+1]'(by omega):=by rw [ZB,ZK (by omega)];rfl
  rw [e];exact hpn (i+1) (by omega)
 have hp1:pos 1=pos 0+(aL o).length+(f_ o ms.length++eh).length:=by
  have:=hpn 0 (by omega);rw [hL0] at this;exact this
 have hp00:pos 0=p:=by rw [hpos];simp [aF]
 have hpE:p+(aF o L).length=pos (ms.length+1):=by rw [hpos,ZF (by omega)]
 have hbE:aO p o L=aO p o (L.take (ms.length+1)):=by rw [ZF (by omega)]
 rw [hpE,hbE];clear hLi hL0 hpn gi hg hpE hbE hpos;rw [hout] at g0 hp1;have g0':=g0;have gA:=g0.right.left;have gB:=g0.right.right.left;have gC:=g0.right.right.right;obtain ⟨tt,htt⟩:∃ tt:Nat->ByteArray,tt=fun i=>(ms.getD i (⟨#[]⟩,0)).1:=⟨_,rfl⟩
 have qs:∀ i,bc (ms.getD i (⟨#[]⟩,0)).1.data.toList=bc (tt i).data.toList:=fun i=>by rw [htt]
 have dg:∀ i,first+(ms.getD i (⟨#[]⟩,0)).2=first+rh ms (i+1):=fun i=>rfl
 let p1:Nat->Nat:=fun i=>pos (i+1)+(aL (o+(i+1))).length
 let p2:Nat->Nat:=fun i=>p1 i+10
 let p3:Nat->Nat:=fun i=>p2 i+(bc (ms.getD i (⟨#[]⟩,0)).1.data.toList).length
 let p4:Nat->Nat:=fun i=>p3 i+([32,47,80,97,114,101,110,116,32]++aD (o:Int)++[32]).length
 let p5:Nat->Nat:=fun i=>p4 i+(bt [47,80,114,101,118] (if i=0 then 0 else ((o+i:Nat):Int))).length
 let p6:Nat->Nat:=fun i=>p5 i+(bt [47,78,101,120,116] (if i+1=ms.length then 0 else ((o+i+2:Nat):Int))).length
 let p7:Nat->Nat:=fun i=>p6 i+7
 let p8:Nat->Nat:=fun i=>p7 i+(Lib.decDigits (first+(ms.getD i (⟨#[]⟩,0)).2)).length
 let p9:Nat->Nat:=fun i=>p8 i+21
 have hp9:∀ i,i < ms.length->p9 i=pos (i+2):=by
  intro i hi;rw [hpm i hi,hmar2 i hi];show pos (i+1)+(aL (o+(i+1))).length+10+(bc (ms.getD i (⟨#[]⟩,0)).1.data.toList).length+([32,47,80,97,114,101,110,116,32]++aD (o:Int)++[32]).length+(bt [47,80,114,101,118] (if i=0 then 0 else ((o+i:Nat):Int))).length+(bt [47,78,101,120,116] (if i+1=ms.length then 0 else ((o+i+2:Nat):Int))).length+7+(Lib.decDigits (first+(ms.getD i (⟨#[]⟩,0)).2)).length+21=_
  simp only [ZZ,ZY,ZW];omega
 have G:∀ i,i < ms.length->au s (pos (i+1)) (aL (o+(i+1)))/\au s (p1 i) [60,60,32,47,84,105,116,108,101,32]/\au s (p2 i) (bc (ms.getD i (⟨#[]⟩,0)).1.data.toList)/\au s (p3 i) ([32,47,80,97,114,101,110,116,32]++aD (o:Int)++[32])/\au s (p4 i) (bt [47,80,114,101,118] (if i=0 then 0 else ((o+i:Nat):Int)))/\au s (p5 i) (bt [47,78,101,120,116] (if i+1=ms.length then 0 else ((o+i+2:Nat):Int)))/\au s (p6 i) [47,68,101,115,116,32,91]/\au s (p7 i) (Lib.decDigits (first+(ms.getD i (⟨#[]⟩,0)).2)++[32])/\au s (p8 i) [32,48,32,82,32,47,70,105,116,93,32,62,62,10,101,110,100,111,98,106,10]:=by
  intro i hi;have g:=gm i hi;rw [hmar2 i hi] at g;have a1:=g.right;have a2:=a1.right;have a3:=a2.right;have a4:=a3.right;have a5:=a4.right;have a6:=a5.right;have a7:=a6.right;have a8:=a7.right;have e7:Lib.decDigits (first+(ms.getD i (⟨#[]⟩,0)).2)++[32,48,32,82,32,47,70,105,116,93,32,62,62,10,101,110,100,111,98,106,10]=(Lib.decDigits (first+(ms.getD i (⟨#[]⟩,0)).2)++[32])++[48,32,82,32,47,70,105,116,93,32,62,62,10,101,110,100,111,98,106,10]:=by
   rw [ZQ];rfl
  rw [e7] at a7;exact ⟨g.left,a1.left,a2.left,a3.left,a4.left,a5.left,a6.left,a7.left,a8⟩
 obtain ⟨P1,hP1⟩:∃ f,f=p1:=⟨_,rfl⟩;obtain ⟨P2,hP2⟩:∃ f,f=p2:=⟨_,rfl⟩;obtain ⟨P3,hP3⟩:∃ f,f=p3:=⟨_,rfl⟩;obtain ⟨P4,hP4⟩:∃ f,f=p4:=⟨_,rfl⟩;obtain ⟨P5,hP5⟩:∃ f,f=p5:=⟨_,rfl⟩;obtain ⟨P6,hP6⟩:∃ f,f=p6:=⟨_,rfl⟩;obtain ⟨P7,hP7⟩:∃ f,f=p7:=⟨_,rfl⟩;obtain ⟨P8,hP8⟩:∃ f,f=p8:=⟨_,rfl⟩;obtain ⟨P9,hP9⟩:∃ f,f=p9:=⟨_,rfl⟩;have e12:∀ i,P2 i=P1 i+10:=by intro i;rw [hP2,hP1]
 have e23:∀ i,P3 i=P2 i+(bc (ms.getD i (⟨#[]⟩,0)).1.data.toList).length:=by intro i;rw [hP2,hP3]
 have e34:∀ i,P4 i=P3 i+([32,47,80,97,114,101,110,116,32]++aD (o:Int)++[32]).length:=by intro i;rw [hP3,hP4]
 have e45:∀ i,P5 i=P4 i+(bt [47,80,114,101,118] (if i=0 then 0 else ((o+i:Nat):Int))).length:=by intro i;rw [hP4,hP5]
 have e56:∀ i,P6 i=P5 i+(bt [47,78,101,120,116] (if i+1=ms.length then 0 else ((o+i+2:Nat):Int))).length:=by intro i;rw [hP5,hP6]
 have e67:∀ i,P7 i=P6 i+7:=by intro i;rw [hP6,hP7]
 have e78:∀ i,P8 i=P7 i+(Lib.decDigits (first+(ms.getD i (⟨#[]⟩,0)).2)).length:=by intro i;rw [hP7,hP8]
 have e89:∀ i,P9 i=P8 i+21:=by intro i;rw [hP8,hP9]
 have e01:∀ i,P1 i=pos (i+1)+(aL (o+(i+1))).length:=by intro i;rw [hP1]
 rw [<-hP9] at hp9;rw [<-hP1, <-hP2, <-hP3, <-hP4, <-hP5, <-hP6, <-hP7, <-hP8] at G;clear hP1 hP2 hP3 hP4 hP5 hP6 hP7 hP8 hP9 p1 p2 p3 p4 p5 p6 p7 p8 p9 gm hmar2 hpm g0;obtain ⟨ad,cap,hvp⟩:=hvp;have hT:=kQ.thing B r c s p ti vp (.slice none 0 0) starts 0 [];have hbel:∀ {S' w'},Mv S w S' w'->Below B w w':=fun m=>m.below (fun k e=>hT.ge h e) hB
 have tabs:∀ {S1 w1},Mv S w S1 w1->∀ {w2},Below w1 w1 w2->bU B w2:=fun {S1 w1} m1 {w2} hb2=>ht.on ((hbel m1).trans (hb2.mono (by have:=(hbel m1).size;omega)))
 have eats:∀ {q vm st n mc w1 S1 t},kQ B r c s q ti vp vm st n mc w1 S1->Mv S w S1 w1->∀ w2,Below w1 w1 w2->au s q t->CP 114 #[zp c,.string ⟨t.toArray⟩] w2 fun e w'=>e=.returned (.tuple #[])/\∃ vm S',kQ B r c s (q+t.length) ti vp vm st n mc w' S'/\Mv S w S' w':=by
  intro q vm st n mc w1 S1 t h1 m1 w2 hb2 hgo;have h2:=(kQ.thing _ _ _ _ _ _ _ _ _ _ _).grow h1 hb2;obtain ⟨R,hd,_,back⟩:=ah.fst (aW.thing _ _ _ _ _ _) h2;refine (hd.eat hs t hgo).mono ?_;rintro e w' ⟨rfl,S',h',m'⟩;obtain ⟨S3,h3,m3⟩:=back _ _ _ h' m';exact ⟨rfl,vm,S3,h3,(m1.trans (Mv.grow hb2 _)).trans m3⟩
 have digs:∀ {q vm st n mc w1 S1 u},kQ B r c s q ti vp vm st n mc w1 S1->Mv S w S1 w1->u < 1000000000000->au s q (Lib.decDigits u++[32])->CP 121 #[zp c] w1 fun e w'=>e=.returned (u:Int)/\∃ vm S',kQ B r c s (q+(Lib.decDigits u).length) ti vp vm st n mc w' S'/\Mv S w S' w':=by
  intro q vm st n mc w1 S1 u h1 m1 hu hgo;obtain ⟨R,hd,_,back⟩:=ah.fst (aW.thing _ _ _ _ _ _) h1;refine (hd.digits hs u 32 hu hgo (by decide)).mono ?_;rintro e w' ⟨rfl,S',h',m'⟩;obtain ⟨S3,h3,m3⟩:=back _ _ _ h' m';exact ⟨rfl,vm,S3,h3,m1.trans m3⟩
 have opens:∀ {q vm st n mc w1 S1},kQ B r c s q ti vp vm st n mc w1 S1->Mv S w S1 w1->st.length<=10000->au s q (aL (st.length+1))->CP 117 #[zp r] w1 fun e w'=>e=.returned ((st.length+1:Nat):Int)/\∃ vm S',kQ B r c s (q+(aL (st.length+1)).length) ti vp vm (st++[q]) n mc w' S'/\Mv S w S' w':=by
  intro q vm st n mc w1 S1 h1 m1 hst hgo;obtain ⟨R,hd,_,back⟩:=ah.fst (aW.thing _ _ _ _ _ _) h1;refine (gp w1 B r c q s ti vp vm st R hd (ZN hB m1.size) (ht.on (hbel m1)) hs (by omega) hgo).mono ?_;rintro e w' ⟨rfl,S',h',m'⟩;obtain ⟨S3,h3,m3⟩:=back _ _ _ h' m';exact ⟨rfl,vm,S3,h3,m1.trans m3⟩
 have curs:∀ {q vm st n mc w1 S1},kQ B r c s q ti vp vm st n mc w1 S1->w1.cell? r=zp c/\r < w1.heap.size/\w1.cell? (zq c 2)=false/\w1.cell? (zq r 2)=some vp/\w1.cell? (zq r 3)=some vm/\w1.frozen? (zq r 3)=false:=by
  intro q vm st n mc w1 S1 h1;obtain ⟨R,hd,_,_⟩:=ah.fst (aW.thing _ _ _ _ _ _) h1;obtain ⟨ad,cap,c0,c1,c2,c3,_,fz,hr⟩:=hd.read;obtain ⟨S2,hC⟩:=hd.cur;exact ⟨c0,hr,hC.at 2 _ rfl,c2,c3,fz 3⟩
 have him:=av (ms.length:Int) (by omega) (by omega);have hstl:∀ k,k<=ms.length+1->(starts++aO p o (L.take k)).length=starts.length+k:=fun k hk=>by
  rw [ZZ,ck,Zx,Zr (by omega)]
 refine tu w B r c first o ms.length N s (rh ms) (fun i=>(ms.getD i (⟨#[]⟩,0)).1) (fun i=>iz (ms.take i)) (Lib.itoa (ms.length:Int))
  (fun w1=>∃ S1,kQ B r c s p ti vp (.slice none 0 0) starts 0 [] w1 S1/\Mv S w S1 w1)
  (fun j q w1=>∃ vm S1,kQ B r c s q ti vp vm (starts++aO p o (L.take (j+1))) (j - 1) (iz (ms.take (j - 1))) w1 S1/\Mv S w S1 w1)
  (fun i w1=>∃ vm S1,kQ B r c s (pos (i+1)) ti vp vm (starts++aO p o (L.take (i+1))) i (iz (ms.take i)) w1 S1/\Mv S w S1 w1)
  _ (by omega) (by omega) hl0 hm (by omega) (by omega) rfl ?_ ?_ ?_
  (pos 0+(aL o).length) (pos 0+(aL o).length+([60,60,32,47,84,121,112,101,32,47,79,117,116,108,105,110,101,115,32,47,70,105,114,115,116,32]++aD ((o+1:Nat):Int)++[32,47,76,97,115,116,32]).length) (pos 0+(aL o).length+([60,60,32,47,84,121,112,101,32,47,79,117,116,108,105,110,101,115,32,47,70,105,114,115,116,32]++aD ((o+1:Nat):Int)++[32,47,76,97,115,116,32]).length+(Lib.decDigits (o+ms.length)).length) (pos 1)
  ?_ ?_ ?_ ?_ ?_ ?_ ⟨gA,rfl⟩ ?_ ⟨gC,?_⟩ ?_ P1 P2 P3 P4 P5 P6 P7 P8 P9 ?_ ?_ ?_ ?_ ?_ ?_ ?_ ?_ ?_ ?_ ?_ ?_ ?_
 ·intro i hi;obtain ⟨x,hx,e,_,_,hxN⟩:=at_ i hi;have e1:rh ms (i+1)=x.2:=by simp only [rh,e]
  rw [e1];refine ⟨?_,hxN⟩
  match i,hi with
  | 0,_=>exact XM _
  | k+1,hi=>
   obtain ⟨y,hy,e2,_⟩:=at_ k (by omega);have e3:rh ms (k+1)=y.2:=by simp only [rh,e2]
   rw [e3];have hx':ms[k+1]=x:=by rw [ZK (by omega)] at hx;exact Zd hx
   have hy':ms[k]=y:=by rw [ZK (by omega)] at hy;exact Zd hy
   have:=List.pairwise_iff_getElem.1 hup k (k+1) (by omega) (by omega) (by omega);rw [hx',hy'] at this;exact this
 ·intro i hi;obtain ⟨x,hx,e,h1,h2,_⟩:=at_ i hi;show 1<=(ms.getD i (⟨#[]⟩,0)).1.size/\(ms.getD i (⟨#[]⟩,0)).1.size<=100
  rw [e];omega
 ·obtain ⟨S1,hd,_,back⟩:=ah.fst (aW.thing _ _ _ _ _ _) h;have gs:au s p (aL (starts.length+1)++[60,60,32,47,84,121,112,101,32,47,79,117,116,108,105,110,101,115]):=by
   rw [hp00] at g0';rw [<-ho];refine au.left (u:=[32,47,70,105,114,115,116,32]++aD ((o+1:Nat):Int)++[32,47,76,97,115,116,32]++(Lib.decDigits (o+ms.length)++([32,48,32,82,32,47,67,111,117,110,116,32]++Lib.itoa (ms.length:Int)++[32,62,62,10,101,110,100,111,98,106,10]))) ?_;simpa only [ZQ,Zy,Yx] using g0'
  refine (hd.seen hB ht hs (by omega) hp [60,60,32,47,84,121,112,101,32,47,79,117,116,108,105,110,101,115] (by decide) true ⟨fun _=>gs,fun _=>rfl⟩).mono ?_;rintro e w' ⟨rfl,S',h',m'⟩;obtain ⟨S2,h2,m2⟩:=back _ _ _ h' m';exact ⟨rfl,S2,h2,m2⟩
 ·rintro w1 ⟨S1,h1,m1⟩;have hgo:au s p (aL (starts.length+1)):=by
   have:=g0'.left;rw [hp00,ho] at this;exact this
  refine (opens h1 m1 (by omega) hgo).mono ?_;rintro e w' ⟨rfl,vm,S',h',m'⟩;refine ⟨by rw [ho],vm,S',?_,m'⟩;have e9:aO p o (L.take (0+1))=[p]:=by
   rw [hbg 0 (by omega),hp00];simp [aO]
  rw [e9,hp00,ho];exact h'
 ·rintro j q w1 ⟨vm,S1,h1,m1⟩;obtain ⟨c0,hr,cc,c2,_⟩:=curs h1;exact ⟨c0,hr,cc,ad,cap,by rw [c2,hvp]⟩
 ·rintro i w1 ⟨vm,S1,h1,m1⟩;obtain ⟨c0,hr,cc,c2,_⟩:=curs h1;exact ⟨c0,cc⟩
 ·rintro j q w1 t ⟨vm,S1,h1,m1⟩ w2 hb2 hgo;exact eats h1 m1 w2 hb2 hgo
 ·rintro j q w1 ⟨vm,S1,h1,m1⟩ n hn w2 hb2;exact cE B w2 _ (by omega) (by omega) (tabs m1 hb2)
 ·rintro j q w1 ⟨vm,S1,h1,m1⟩ w2 hb2;exact bp B w2 _ (by omega) (by omega) (tabs m1 hb2)
 ·rintro w1 ⟨vm,S1,h1,m1⟩;have hgo:au s (pos 0+(aL o).length+([60,60,32,47,84,121,112,101,32,47,79,117,116,108,105,110,101,115,32,47,70,105,114,115,116,32]++aD ((o+1:Nat):Int)++[32,47,76,97,115,116,32]).length) (Lib.decDigits (o+ms.length)++[32]):=by
   have:=g0'.right.right;refine au.left (u:=[48,32,82,32,47,67,111,117,110,116,32]++Lib.itoa (ms.length:Int)++[32,62,62,10,101,110,100,111,98,106,10]) ?_;simpa only [ZQ,Zy,Yx] using this
  exact digs h1 m1 (by omega) hgo
 ·rw [hp1];simp only [ZZ];omega
 ·rintro w1 ⟨vm,S1,h1,m1⟩;exact ⟨vm,S1,h1,m1⟩
 ·rintro i w1 hi ⟨vm,S1,h1,m1⟩;have hst:=hstl (i+1) (by omega);have hgo:au s (pos (i+1)) (aL ((starts++aO p o (L.take (i+1))).length+1)):=by
   rw [hbl (i+1) (by omega)];exact (G i hi).1
  refine ⟨(((starts++aO p o (L.take (i+1))).length+1:Nat):Int),(opens h1 m1 (by omega) hgo).mono ?_⟩;rintro e w' ⟨rfl,vm',S',h',m'⟩;refine ⟨rfl,vm',S',?_,m'⟩;rw [hbg (i+1) (by omega),e01, <-ZQ, <-hbl (i+1) (by omega)];exact h'
 ·intro i hi;exact ⟨(G i hi).2.1,(e12 i).symm⟩
 ·rintro i w1 hi ⟨vm,S1,h1,m1⟩;obtain ⟨x,hx,e,_,hx2,_⟩:=at_ i hi;obtain ⟨R,hd,_,back⟩:=ah.fst (aW.thing _ _ _ _ _ _) h1;refine (hd.quoted hs (ms.getD i (⟨#[]⟩,0)).1.data.toList (by rw [e,aP];omega) (G i hi).2.2.1).mono ?_;rintro e9 w' ⟨rfl,S',h',m'⟩;obtain ⟨S3,h3,m3⟩:=back _ _ _ h' m';refine ⟨by simp,vm,S3,?_,m1.trans m3⟩;rw [e23];exact h3
 ·intro i hi;exact ⟨(G i hi).2.2.2.1,(e34 i).symm⟩
 ·have:=e45 0;rw [ZO rfl] at this;have e:bt [47,80,114,101,118] 0=[]:=rfl;rw [e,ZW,Yp] at this;exact this.symm
 ·intro i hi hi0;have g:=(G i hi).2.2.2.2.1;have e:=e45 i;have en:bt [47,80,114,101,118] (if i=0 then 0 else ((o+i:Nat):Int))=[47,80,114,101,118,32]++aD ((o+i:Nat):Int)++[32]:=by
   rw [ZU (by omega)];unfold bt;rw [ZU (by omega)];simp
  rw [en] at g e;exact ⟨g,e.symm⟩
 ·have:=e56 (ms.length - 1);rw [ZO (by omega)] at this;have e:bt [47,78,101,120,116] 0=[]:=rfl;rw [e,ZW,Yp] at this;exact this.symm
 ·intro i hi hi1;have g:=(G i hi).2.2.2.2.2.1;have e:=e56 i;have en:bt [47,78,101,120,116] (if i+1=ms.length then 0 else ((o+i+2:Nat):Int))=[47,78,101,120,116,32]++aD ((o+i+2:Nat):Int)++[32]:=by
   rw [ZU (by omega)];unfold bt;rw [ZU (by omega)];simp
  rw [en] at g e;exact ⟨g,e.symm⟩
 ·intro i hi;exact ⟨(G i hi).2.2.2.2.2.2.1,(e67 i).symm⟩
 ·rintro i w1 hi ⟨vm,S1,h1,m1⟩;obtain ⟨x,hx,e,_,_,hxN⟩:=at_ i hi;refine (digs h1 m1 (by rw [e];omega) (G i hi).2.2.2.2.2.2.2.1).mono ?_;rintro e9 w' ⟨rfl,vm',S',h',m'⟩;refine ⟨rfl,vm',S',?_,m'⟩;rw [e78];exact h'
 ·intro i hi;exact ⟨(G i hi).2.2.2.2.2.2.2.2,(e89 i).symm⟩
 ·rintro i w1 hi ⟨vm,S1,h1,m1⟩;rw [Nat.add_sub_cancel] at h1;obtain ⟨c0,hr,cc,c2,c3,f3⟩:=curs h1;obtain ⟨ow,hne9⟩:=h1.off;obtain ⟨ad3,cap3,rfl⟩:=eL ow;refine ⟨ZN hB m1.size,ad3,cap3,c3,ow,hne9,f3,?_⟩;intro v w7 hgr ⟨hown,hat⟩;obtain ⟨x,hx,e,_⟩:=at_ i hi;have htk:ms.take (i+1)=ms.take i++[x]:=by
   rw [ZH hi];congr 2;rw [ZK hi] at hx;exact Zd hx
  have hown2:w7.ownsRow B 98 2 v (i+1) (iz (ms.take (i+1))):=by
   rw [htk,nf];have e1:rh ms (i+1)=x.2:=by simp only [rh,e]
   simp only [e,e1] at hown;exact hown
  obtain ⟨S2,h2,m2⟩:=h1.put v w7 hgr hown2 hat;refine ⟨v,S2,?_,m1.trans m2⟩;rw [<-hp9 i hi];exact h2
 ·rintro w1 ⟨vm,S1,h1,m1⟩;refine ⟨rfl,vm,S1,?_,m1⟩;rw [ZF (ZX _)] at h1;exact h1
end Go.Proofs.YtbklfkpjoinofaaGreatDoor
