import Derived.Test.YtbklfkpjoinofaaGreatDoorA10
import Derived.Test.YtbklfkpjoinofaaGreatDoorA11
set_option linter.all false
set_option maxRecDepth 100000
set_option maxHeartbeats 8000000
namespace Go.Proofs.YtbklfkpjoinofaaGreatDoor
open Go.RowKit Go.Proofs.Tryz
def pn (lw lh ep ec ef:List UInt8):List UInt8:=[60,60,32,47,84,121,112,101,32,47,80,97,103,101,32]++ep++([47,77,101,100,105,97,66,111,120,32,91,48,32,48,32]++lw++[32]++lh++[93,32])++ec++[47,82,101,115,111,117,114,99,101,115,32,60,60,32,47,70,111,110,116,32,60,60,32]++ef++[62,62,32,62,62,32,62,62]
theorem og (w:World) (W H p c f:Int) (lw lh ep ec ef:List UInt8) (l1:lw.length<=30) (l2:lh.length<=30) (l3:ep.length<=200) (l4:ec.length<=200) (l5:ef.length<=200)
  (H1:Hid (∀ wx,af w wx->QB 211 #[W] wx (.string ⟨lw.toArray⟩)))
  (H2:Hid (∀ wx,af w wx->QB 211 #[H] wx (.string ⟨lh.toArray⟩)))
  (H3:Hid (∀ wx,af w wx->QB 181 #[.string ⟨#[47,80,97,114,101,110,116]⟩,p] wx (.string ⟨ep.toArray⟩)))
  (H4:Hid (∀ wx,af w wx->QB 181 #[.string ⟨#[47,67,111,110,116,101,110,116,115]⟩,c] wx (.string ⟨ec.toArray⟩)))
  (H5:Hid (∀ wx,af w wx->QB 181 #[.string ⟨#[47,70,49]⟩,f] wx (.string ⟨ef.toArray⟩))):
  QB 174 #[.agg #[W,H],p,c,f] w (.string ⟨(pn lw lh ep ec ef).toArray⟩):=by
 have zlw:=ae lw;have zlh:=ae lh;have zep:=ae ep;have zec:=ae ec;have zef:=ae ef;obtain ⟨a3,ha3⟩:∃ x,([47,77,101,100,105,97,66,111,120,32,91,48,32,48,32]:List UInt8)++lw=x:=⟨_,rfl⟩;have za3:=ae a3;have la3:a3.length=(([47,77,101,100,105,97,66,111,120,32,91,48,32,48,32]:List UInt8)).length+(lw).length:=by rw [<-ha3,ZY]
 (try simp only [ZX,ZR] at la3)
 have Ea3:=ai ha3;obtain ⟨a4,ha4⟩:∃ x,a3++([32]:List UInt8)=x:=⟨_,rfl⟩;have za4:=ae a4;have la4:a4.length=(a3).length+(([32]:List UInt8)).length:=by rw [<-ha4,ZY]
 (try simp only [ZX,ZR] at la4)
 have Ea4:=ai ha4;obtain ⟨a8,ha8⟩:∃ x,a4++lh=x:=⟨_,rfl⟩;have za8:=ae a8;have la8:a8.length=(a4).length+(lh).length:=by rw [<-ha8,ZY]
 (try simp only [ZX,ZR] at la8)
 have Ea8:=ai ha8;obtain ⟨a9,ha9⟩:∃ x,a8++([93,32]:List UInt8)=x:=⟨_,rfl⟩;have za9:=ae a9;have la9:a9.length=(a8).length+(([93,32]:List UInt8)).length:=by rw [<-ha9,ZY]
 (try simp only [ZX,ZR] at la9)
 have Ea9:=ai ha9;have HE:Hid (pn lw lh ep ec ef=[60,60,32,47,84,121,112,101,32,47,80,97,103,101,32]++ep++a9++ec++[47,82,101,115,111,117,114,99,101,115,32,60,60,32,47,70,111,110,116,32,60,60,32]++ef++[62,62,32,62,62,32,62,62]):=by
  show _=_
  unfold pn;rw [ha3,ha4,ha8,ha9]
 clear ha3 ha4 ha8 ha9;have HC:=ai (fun (w1:World) (hG:af (w.alloc (Obj.cells #[W,H] 224)) w1)=>fD (vs:=[.int .i64 W,.int .i64 H]) hG);have L1:=ai (fun (w1:World) (hG:af (w.alloc (Obj.cells #[W,H] 224)) w1)=>H1.out w1 (HC.out w1 hG).1);have L2:=ai (fun (w1:World) (hG:af (w.alloc (Obj.cells #[W,H] 224)) w1)=>H2.out w1 (HC.out w1 hG).1);go_enter func174,ntmps174
 go_wp2;refine ap 10 33 (ag [zp w.heap.size,W,.string ⟨(lw).toArray⟩,.string ⟨(a3).toArray⟩,.string ⟨(a4).toArray⟩,zq w.heap.size 1,H,.string ⟨(lh).toArray⟩,.string ⟨(a8).toArray⟩,.string ⟨(a9).toArray⟩]) (by kernel_rfl) rfl (by kernel_rfl) aq ?_;simp only [TD];refine ⟨fun w1 hG hd=>?_,fun v0=>?_⟩
 ·go_wp2;exact RG
 refine ⟨fun w1 hG hd=>?_,fun v1=>?_⟩
 ·have d0:=hd ⟨0,.data⟩ (by simp) rfl;clear hd;simp [ag] at d0;subst d0;have c:=(HC.out w1 hG).2.2 0 _ rfl;go_wp2;exact RG
 refine ⟨fun w1 hG hd=>?_,fun v2=>?_⟩
 ·have d1:=hd ⟨1,.data⟩ (by simp) rfl;clear hd;simp [ag] at d1;subst d1;have HX:=ai (L1.out w1 hG);go_wp2_with fail
  refine HX.out.mono ?_;rintro e w2 ⟨rfl,hB2⟩;go_wp2;exact ⟨rfl,hB2⟩
 refine ⟨fun w1 hG hd=>?_,fun v3=>?_⟩
 ·have d2:=hd ⟨2,.data⟩ (by simp) rfl;clear hd;simp [ag] at d2;subst d2;go_wp2;exact ⟨by unfold ag;rw [show ([.pointer (some ⟨w,0,none⟩),.int .i64 W,.string ⟨(lw).toArray⟩,.string ⟨(a3).toArray⟩,.string ⟨(a4).toArray⟩,.pointer (some ⟨w,1,none⟩),.int .i64 H,.string ⟨(lh).toArray⟩,.string ⟨(a8).toArray⟩,.string ⟨(a9).toArray⟩]:List Value).getD 3 undef=Value.string ⟨a3.toArray⟩ from rfl, <-Ea3.out];exact congrArg Value.string (an (([47,77,101,100,105,97,66,111,120,32,91,48,32,48,32]:List UInt8)) (lw)),af.refl _⟩
 refine ⟨fun w1 hG hd=>?_,fun v4=>?_⟩
 ·have d3:=hd ⟨3,.data⟩ (by simp) rfl;clear hd;simp [ag] at d3;subst d3;go_wp2;exact ⟨by unfold ag;rw [show ([.pointer (some ⟨w,0,none⟩),.int .i64 W,.string ⟨(lw).toArray⟩,.string ⟨(a3).toArray⟩,.string ⟨(a4).toArray⟩,.pointer (some ⟨w,1,none⟩),.int .i64 H,.string ⟨(lh).toArray⟩,.string ⟨(a8).toArray⟩,.string ⟨(a9).toArray⟩]:List Value).getD 4 undef=Value.string ⟨a4.toArray⟩ from rfl, <-Ea4.out];exact congrArg Value.string (an (a3) (([32]:List UInt8))),af.refl _⟩
 refine ⟨fun w1 hG hd=>?_,fun v5=>?_⟩
 ·go_wp2;exact RG
 refine ⟨fun w1 hG hd=>?_,fun v6=>?_⟩
 ·have d5:=hd ⟨5,.data⟩ (by simp) rfl;clear hd;simp [ag] at d5;subst d5;have c:=(HC.out w1 hG).2.2 1 _ rfl;go_wp2;exact RG
 refine ⟨fun w1 hG hd=>?_,fun v7=>?_⟩
 ·have d6:=hd ⟨6,.data⟩ (by simp) rfl;clear hd;simp [ag] at d6;subst d6;have HX:=ai (L2.out w1 hG);go_wp2_with fail
  refine HX.out.mono ?_;rintro e w2 ⟨rfl,hB2⟩;go_wp2;exact ⟨rfl,hB2⟩
 refine ⟨fun w1 hG hd=>?_,fun v8=>?_⟩
 ·have d4:=hd ⟨4,.data⟩ (by simp) rfl;have d7:=hd ⟨7,.data⟩ (by simp) rfl;clear hd;simp [ag] at d4 d7;subst d4 d7;go_wp2;exact ⟨by unfold ag;rw [show ([.pointer (some ⟨w,0,none⟩),.int .i64 W,.string ⟨(lw).toArray⟩,.string ⟨(a3).toArray⟩,.string ⟨(a4).toArray⟩,.pointer (some ⟨w,1,none⟩),.int .i64 H,.string ⟨(lh).toArray⟩,.string ⟨(a8).toArray⟩,.string ⟨(a9).toArray⟩]:List Value).getD 8 undef=Value.string ⟨a8.toArray⟩ from rfl, <-Ea8.out];exact congrArg Value.string (an (a4) (lh)),af.refl _⟩
 refine ⟨fun w1 hG hd=>?_,fun v9=>?_⟩
 ·have d8:=hd ⟨8,.data⟩ (by simp) rfl;clear hd;simp [ag] at d8;subst d8;go_wp2;exact ⟨by unfold ag;rw [show ([.pointer (some ⟨w,0,none⟩),.int .i64 W,.string ⟨(lw).toArray⟩,.string ⟨(a3).toArray⟩,.string ⟨(a4).toArray⟩,.pointer (some ⟨w,1,none⟩),.int .i64 H,.string ⟨(lh).toArray⟩,.string ⟨(a8).toArray⟩,.string ⟨(a9).toArray⟩]:List Value).getD 9 undef=Value.string ⟨a9.toArray⟩ from rfl, <-Ea9.out];exact congrArg Value.string (an (a8) (([93,32]:List UInt8))),af.refl _⟩
 intro w3 hG3 hd;have da:=hd 9 (by omega);simp [ag] at da;subst da;have hGw:=(HC.out w3 hG3).1;have M3:=ai (fun (w1:World) (hG:af w3 w1)=>H3.out w1 (af.trans hGw hG));have M4:=ai (fun (w1:World) (hG:af w3 w1)=>H4.out w1 (af.trans hGw hG));have M5:=ai (fun (w1:World) (hG:af w3 w1)=>H5.out w1 (af.trans hGw hG));have lx:a9.length<=200:=by omega
 clear hd HC L1 L2 H1 H2 H3 H4 H5 hG3 la3 la4 la8 la9 Ea3 Ea4 Ea8 Ea9 za3 za4 za8;have X3:=ai (M3.out w3 (af.refl _));go_wp2_with fail
 refine X3.out.mono ?_;rintro e w5 ⟨rfl,hB5⟩;have X4:=ai (M4.out w5 hB5);go_wp2_with fail
 refine X4.out.mono ?_;rintro e w6 ⟨rfl,hB6⟩;have hB36:=af.trans hB5 hB6;have X5:=ai (M5.out w6 hB36);go_wp2_with fail
 refine X5.out.mono ?_;rintro e w7 ⟨rfl,hB7⟩;have HG:=ai (af.trans hGw (af.trans hB36 hB7));clear M3 M4 M5 X3 X4 X5 hB5 hB6 hB36 hB7 hGw;go_wp2;go_ret;exact ⟨congrArg Ending.returned (aT (by rw [HE.out];simp)),HG.out⟩
def gP (rows:List (Int×Int×Int)) (v:Value) (w:World):Prop:=
 ∃ b cap,v=.slice (zp b) rows.length cap/\rows.length<=cap/\cap<=9223372036854775807/\b < w.heap.size/\∀ (j:Nat) r,rows[j]? =some r->w.cell? (zq b (j*3))=some (.int .i64 r.1)/\w.cell? (zq b (j*3+1))=some (.int .i64 r.2.1)/\w.cell? (zq b (j*3+2))=some (.int .i64 r.2.2)
theorem gP.on {rows:List (Int×Int×Int)} {v:Value} {w w':World} (h:gP rows v w) (g:af w w'):gP rows v w':=by
 obtain ⟨b,cap,h1,h2,h3,h4,h5⟩:=h;refine ⟨b,cap,h1,h2,h3,ZK h4 g.size,fun j r hr=>?_⟩;obtain ⟨a1,a2,a3⟩:=h5 j r hr;exact ⟨(Zc g (p:=⟨b,_,none⟩) h4).trans a1,(Zc g (p:=⟨b,_,none⟩) h4).trans a2,(Zc g (p:=⟨b,_,none⟩) h4).trans a3⟩
theorem su (w:World) (rows:List (Int×Int×Int)) (v:Value) (h:gP rows v w) (r:Nat) (i:Int) (hr:r+1=rows.length):
  QD 175 #[v,(r:Int),i] w (0:Int):=by
 obtain ⟨b,cap,rfl,hc,hcm,hb,hcell⟩:=h;clear hcell;rw [<-hr] at hc ⊢;go_enter func175,ntmps175
 go_wp2;go_ret;exact ⟨rfl,0,rfl⟩
theorem u_ (w:World) (rows:List (Int×Int×Int)) (v:Value) (h:gP rows v w) (r:Nat) (i:Nat) (p:Int×Int×Int) (hr:rows[r+1]? =some p) (hp0:0<=p.1) (hp1:p.1<=1000000) (hi:i<=1000000):
  QD 175 #[v,(r:Int),(i:Int)] w (p.1+((i / 8:Nat):Int):Int):=by
 obtain ⟨b,cap,rfl,hc,hcm,hb,hcell⟩:=h;obtain ⟨a1,a2,a3⟩:=hcell (r+1) p hr;have hlt:r+1 < rows.length:=(Zx.1 hr).1;clear hcell;obtain ⟨n,hn⟩:∃ n,rows.length=n:=⟨_,rfl⟩;rw [hn] at hc hlt ⊢;obtain ⟨f,hf⟩:∃ f,p.1=f:=⟨_,rfl⟩;rw [hf] at a1 hp0 hp1 ⊢;clear hn hf a2 a3;go_enter func175,ntmps175
 have hne:¬ (r:Int)=(n:Int) - 1:=by omega
 have hne2:((r:Int)==(n:Int) - 1)=false:=by simpa using hne
 go_wp2;go_ret;exact ⟨bI (by omega),0,rfl⟩
theorem nN (w:World) (rows:List (Int×Int×Int)) (v:Value) (h:gP rows v w) (r i:Nat) (p p0:Int×Int×Int) (hr:rows[r]? =some p) (h0:rows[0]? =some p0) (hs0:0<=p.2.2) (hs1:p.2.2<=1000000) (hc0:0<=p0.2.1) (hc1:p0.2.1<=1000000) (hi:i<=1000000):
  QD 213 #[v,(r:Int),(i:Int)] w (min p.2.2 (p0.2.1 - (i:Int)*p.2.2):Int):=by
 obtain ⟨b,cap,rfl,hc,hcm,hb,hcell⟩:=h;obtain ⟨_,_,a3⟩:=hcell r p hr;obtain ⟨_,b2,_⟩:=hcell 0 p0 h0;have hlt:r < rows.length:=(Zx.1 hr).1;have hlt0:0 < rows.length:=(Zx.1 h0).1;clear hcell;rw [show 0*3+1=1 from rfl] at b2;obtain ⟨n,hn⟩:∃ n,rows.length=n:=⟨_,rfl⟩;rw [hn] at hc hlt hlt0 ⊢;obtain ⟨s,hs⟩:∃ s,p.2.2=s:=⟨_,rfl⟩;obtain ⟨c,hcc⟩:∃ c,p0.2.1=c:=⟨_,rfl⟩;rw [hs] at a3 hs0 hs1 ⊢;rw [hcc] at b2 hc0 hc1 ⊢;clear hn hs hcc;obtain ⟨m,hm⟩:∃ m,(i:Int)*s=m:=⟨_,rfl⟩;have hm0:0<=m:=by rw [<-hm];exact Xy (by omega) hs0
 have hm1:m<=1000000000000:=by
  rw [<-hm];have:(i:Int)*s<=1000000*1000000:=XM (by omega) hs1 hs0 (by omega);omega
 rw [hm];by_cases hle:s<=c - m
 ·go_enter func213,ntmps213
  go_wp2;go_quiet (fail)
  go_wp2;go_ret;exact ⟨bI (by omega),_,rfl⟩
 ·have hle':c - m < s:=by omega
  go_enter func213,ntmps213
  go_wp2;go_quiet (fail)
  go_wp2;go_ret;exact ⟨bI (by omega),_,rfl⟩
def cf (a:Nat):Nat->List (List UInt8)
 | 0=>[]
 | m+1=>cf a m++[aD ((a+m:Nat):Int)]
theorem jH (a m:Nat):(cf a m).length=m:=by
 induction m with
 | zero=>rfl
 | succ m ih=>simp [cf,ih]
theorem tY (l:List (List UInt8)) (j:Nat) (x:ByteArray) (h:(l.map fun s=>(⟨s.toArray⟩:ByteArray))[j]? =some x):(gl l)[j]? =some (.string x):=by
 simp only [gl,YR] at h ⊢
 cases hl:l[j]? with
 | none=>rw [hl] at h;simp at h
 | some y=>rw [hl] at h;simp at h;subst h;rfl
theorem xb (B:Nat) (w:World) (b n cap r i f c s kn:Nat) (hB:B<=w.heap.size) (ht:bU B w) (hr:r+1 < n) (hn:n<=cap) (hc:cap<=9223372036854775807) (hi:i<=1000) (hf:f<=1000000) (hcc:c<=1000000) (hk:kn=min 8 (c - 8*i)) (hb:b < w.heap.size)
  (c0:w.cell? (zq b (r*3))=(f:Int)) (c1:w.cell? (zq b (r*3+1))=(c:Int)) (c2:w.cell? (zq b (r*3+2))=(s:Int))
  (HJ:Hid (∀ (wr:World) (v:Value),wr.ownsRow B 9 1 v kn (gl (cf (f+8*i) kn))->QB 245 #[v,.string ⟨#[32]⟩] wr (.string ⟨(Lib.join (cf (f+8*i) kn) [32]).toArray⟩))):
  QB 212 #[.slice b n cap,((r:Int)+1:Int),(i:Int)] w (.string ⟨(Lib.join (cf (f+8*i) kn) [32]).toArray⟩):=by
 have hk8:kn<=8:=by omega
 obtain ⟨res,hres⟩:∃ res,Lib.join (cf (f+8*i) kn) [32]=res:=⟨_,rfl⟩;rw [hres] at HJ ⊢;clear hres;go_enter func212,ntmps212
 go_wp2;have hg0:Below w w (w.alloc (.cells #[(f:Int),(c:Int),(s:Int)] 229)):=(ZT _ w).alloc (ZW _) _;go_loopg [8,9] 9 (fun g x k wr=>∃ j v,x=v/\k=.int .i64 ((8*i+j:Nat):Int)/\j<=kn/\8 - j < g/\wr.ownsRow (w.heap.size+1) 9 1 v j (gl (cf (f+8*i) j))/\Below (w.heap.size+1) (w.alloc (.cells #[(f:Int),(c:Int),(s:Int)] 229)) wr)
 case atStart=>exact ⟨0,_,rfl,by congr 1;omega,by omega,by omega,Yj _ _ _ _,ZT _ _⟩
 case round=>
  obtain ⟨j,v,hxv,rfl,hj,hg,ow,hBe⟩:=hrel;have e1:=(hBe.cell (p:=zq w 1) (Zl _)).trans (show _=some (.int .i64 (c:Int)) by simp);have e0:=(hBe.cell (p:=w) (Zl _)).trans (show _=some (.int .i64 (f:Int)) by simp);obtain ⟨ad,kcap,hform⟩:∃ ad cap,v=Value.slice ad j cap:=by
   rcases ow.2 with ⟨hu,hz⟩ | ⟨gg,cap,cur,hu,_⟩
   ·exact ⟨none,0,by rw [hu,hz]⟩
   ·exact ⟨_,_,hu⟩
  subst hform hxv;have hsz:=hBe.size;simp at hsz;have hTw:bU B wr:=ht.on ((hg0.mono hB).trans (hBe.mono (by omega)));have HN:=ai (lB B wr ((f+8*i+j:Nat):Int) (by omega) (by omega) hTw);obtain ⟨nb,hnb⟩:∃ nb,aD ((f+8*i+j:Nat):Int)=nb:=⟨_,rfl⟩;have HNX:Hid (cf (f+8*i) (j+1)=cf (f+8*i) j++[nb]):=by show _=_;rw [cf,hnb]
  rw [hnb,show ((f+8*i+j:Nat):Int)=(f:Int)+8*(i:Int)+(j:Int) by omega] at HN;clear hnb;have hcast:((8*i+j:Nat):Int)=8*(i:Int)+(j:Int):=by omega
  by_cases hlt:j < kn
  ·have h2:8*(i:Int)+(j:Int) < (c:Int):=by omega
   have h3:8*(i:Int)+(j:Int) < ((i:Int)+1)*8:=by omega
   have hnum:(f:Int)+(8*(i:Int)+(j:Int))=((f+8*i+j:Nat):Int):=by omega
   have hw:∀ (v':Value) (w':World),w'.ownsRow (w.heap.size+1) 9 1 v' (j+1) (gl (cf (f+8*i) j)++[.string ⟨nb.toArray⟩])->w'.ownsRow (w.heap.size+1) 9 1 v' (j+1) (gl (cf (f+8*i) (j+1))):=by
    intro v' w' h;rw [HNX.out];simpa [gl] using h
   have HW:=ai hw;clear hw;go_wp2_with fail
   refine HN.out.mono ?_;rintro e w1 ⟨rfl,hB1⟩;have ow1:w1.ownsRow (w.heap.size+1) 9 1 (.slice ad j kcap) j (gl (cf (f+8*i) j)):=lH ow (fun g hg=>hB1.block g (ow.lt g hg).2);have hs1:=hB1.size;go_wp2_with (at_builtin;refine bQ rfl (.tmp 27) (.tmp 33) 47 rfl 9 (.string ⟨#[]⟩) 1 16 Tryz.infoStr rfl (by omega) underlying47 (w.heap.size+1) _ j (gl (cf (f+8*i) j)) rfl (ow1.alloc _) (by simp;omega) ⟨w1,0,none⟩ 1 rfl [.string ⟨nb.toArray⟩] rfl (qk w1 _ _) (by intro u hu;simp at hu;subst hu;rfl) (by omega) (by omega) ?_)
   intro v7 w7 hO7 hg7 hat7;have HO:=ai (HW.out v7 w7 hO7);have HB7:Hid (Below (w.heap.size+1) (w.alloc (.cells #[(f:Int),(c:Int),(s:Int)] 229)) w7):=by
    refine (hBe.trans (hB1.mono (by omega))).trans ?_;exact ((ZT (w.heap.size+1) w1).alloc (by omega) _).grown hg7 (by simp;omega) (fun k hk=>(ow.lt k hk).1)
   have hform7:∃ ad L cap,v7=.slice ad L cap:=by
    rcases hO7.2 with ⟨hu,_⟩ | ⟨gg,cap,cur,hu,_⟩
    ·exact ⟨_,_,_,hu⟩
    ·exact ⟨_,_,_,hu⟩
   obtain ⟨ad7,L7,cap7,hv7⟩:=hform7;rw [hv7] at HO ⊢;clear hv7 hO7 hg7 hat7 ow ow1 hBe hB1 HN HW;go_wp2;go_roundg (gk - 1)
   case measure=>omega
   case rel=>exact ⟨j+1,_,rfl,by first | rfl | (congr 1;done) | (congr 1;omega),by omega,by omega,HO.out,HB7.out⟩
  ·have hjk:j=kn:=by omega
   subst hjk;have h2:¬ 8*(i:Int)+(j:Int) < min (((i:Int)+1)*8) (c:Int):=by omega
   have ow2:wr.ownsRow B 9 1 (.slice ad j kcap) j (gl (cf (f+8*i) j)):=by
    refine ⟨ow.1,?_⟩;rcases ow.2 with h | ⟨g,cap,cur,h1,h3,h4⟩
    ·exact .inl h
    ·exact .inr ⟨g,cap,cur,h1,by omega,h4⟩
   have HX:=ai (HJ.out wr _ ow2);have HB:=ai (hg0.trans (hBe.mono (by omega)));clear HJ ow ow2 hBe HN HNX hk hk8 hj hlt hcast;go_wp2_with fail
   refine HX.out.mono ?_;rintro e w1 ⟨rfl,hB1⟩;go_wp2;go_ret;exact ⟨rfl,HB.out.trans (hB1.mono (by omega))⟩
end Go.Proofs.YtbklfkpjoinofaaGreatDoor
