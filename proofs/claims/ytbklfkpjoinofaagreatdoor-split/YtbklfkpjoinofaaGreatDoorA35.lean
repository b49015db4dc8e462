import Derived.Test.YtbklfkpjoinofaaGreatDoorA32
import Derived.Test.YtbklfkpjoinofaaGreatDoorA34
set_option linter.all false
set_option maxRecDepth 100000
set_option maxHeartbeats 8000000
namespace Go.Proofs.YtbklfkpjoinofaaGreatDoor
open Go.RowKit Go.Proofs.Tryz
theorem A6 (w:World) (n ca cb m c1 c2:Nat) (aa ab ad1 ad2:Option Addr) (t:ByteArray) (hn:n<=1000) (hca:n<=ca) (hcb:n<=cb) (hca2:ca<=9223372036854775807) (hcb2:cb<=9223372036854775807) (hm:m<=1000) (hc1:m<=c1) (hc2:m<=c2) (hc12:c1<=9223372036854775807) (hc22:c2<=9223372036854775807)
  (HM:Hid (0 < m->∃ g1 g2,ad1=some ⟨g1,0,none⟩/\ad2=some ⟨g2,0,none⟩/\g1 < w.heap.size/\g2 < w.heap.size/\∀ i,i < m->∃ (x:ByteArray) (p:Int),w.rangeAt g1 (i*2) [.string x,.int .i64 p]/\w.rangeAt g2 (i*2) [.string x,.int .i64 p]))
  (F:Hid (0 < n->∃ ga gb,aa=some ⟨ga,0,none⟩/\ab=some ⟨gb,0,none⟩/\ga < w.heap.size/\gb < w.heap.size/\∀ i,i < n->∃ (W H:Int) (no c3 c4:Nat) (ad3 ad4:Option Addr),w.rangeAt ga (i*3) [.int .i64 W,.int .i64 H,.slice ad3 no c3]/\w.rangeAt gb (i*3) [.int .i64 W,.int .i64 H,.slice ad4 no c4]/\no<=1000000000/\no<=c3/\no<=c4/\c3<=9223372036854775807/\c4<=9223372036854775807/\
   (0 < no->∃ g1 g2,ad3=some ⟨g1,0,none⟩/\ad4=some ⟨g2,0,none⟩/\g1 < w.heap.size/\g2 < w.heap.size/\∀ k,k < no->∃ (K A X C D E Co Ro:Int) (tt:ByteArray),w.rangeAt g1 (k*9) [.int .i64 K,.int .i64 A,.int .i64 X,.int .i64 C,.int .i64 D,.int .i64 E,.int .i64 Co,.int .i64 Ro,.string tt]/\w.rangeAt g2 (k*9) [.int .i64 K,.int .i64 A,.int .i64 X,.int .i64 C,.int .i64 D,.int .i64 E,.int .i64 Co,.int .i64 Ro,.string tt]))):
  QB 23 #[.agg #[t,.slice aa n ca,.slice ad1 m c1],.agg #[t,.slice ab n cb,.slice ad2 m c2]] w true:=by
 have bA:Below w w ((w.alloc (.cells #[t,.slice aa n ca,.slice ad1 m c1] 29)).alloc (.cells #[t,.slice ab n cb,.slice ad2 m c2] 29)):=((ZT _ w).alloc (ZW _) _).alloc (by first | (simp;done) | (simp;omega)) _;have ka:((w.alloc (.cells #[t,.slice aa n ca,.slice ad1 m c1] 29)).alloc (.cells #[t,.slice ab n cb,.slice ad2 m c2] 29)).heap[w.heap.size]? =some (.cells #[t,.slice aa n ca,.slice ad1 m c1] 29 (0,0)):=(Zf _ _ w.heap.size (by first | (simp;done) | (simp;omega))).trans (ZF w _);have kb:((w.alloc (.cells #[t,.slice aa n ca,.slice ad1 m c1] 29)).alloc (.cells #[t,.slice ab n cb,.slice ad2 m c2] 29)).heap[w.heap.size+1]? =some (.cells #[t,.slice ab n cb,.slice ad2 m c2] 29 (0,0)):=Yz w _ _;go_enter func23,ntmps23
 go_wp2_with fail
 generalize (w.alloc (.cells #[t,.slice aa n ca,.slice ad1 m c1] 29)).alloc (.cells #[t,.slice ab n cb,.slice ad2 m c2] 29)=w1 at bA ka kb ⊢;obtain ⟨ba,hba⟩:∃ k,w.heap.size=k:=⟨_,rfl⟩;obtain ⟨bb,hbb⟩:∃ k,w.heap.size+1=k:=⟨_,rfl⟩;rw [hbb] at kb ⊢;have HB1:=ai bA;rw [hba] at ka ⊢;have A1:Hid (w1.cell? (zq ba 1)=some (.slice aa n ca)):=by show _=_;rw [Zw w1 ba 1 _ _ (0,0) ka];rfl
 have A2:Hid (w1.cell? (zq ba 2)=some (.slice ad1 m c1)):=by show _=_;rw [Zw w1 ba 2 _ _ (0,0) ka];rfl
 have B1:Hid (w1.cell? (zq bb 1)=some (.slice ab n cb)):=by show _=_;rw [Zw w1 bb 1 _ _ (0,0) kb];rfl
 have B2:Hid (w1.cell? (zq bb 2)=some (.slice ad2 m c2)):=by show _=_;rw [Zw w1 bb 2 _ _ (0,0) kb];rfl
 clear ka kb bA hba hbb;go_loopg [5] (m+1) (fun gg y wr=>∃ i:Nat,i<=m/\m - i < gg/\y=.int .i64 (i:Int)/\Hid (af w1 wr))
 case atStart=>exact ⟨0,by omega,by omega,rfl,af.refl _⟩
 case round=>
  obtain ⟨i,hi,hgi,rfl,HB2⟩:=hrel;have a2:=aw HB2.out A2.out;have b2:=aw HB2.out B2.out;by_cases hlt:i < m
  ·have d1:decide ((i:Int) < (m:Int))=true:=by simp;omega
   obtain ⟨g1,g2,rfl,rfl,hg1l,hg2l,hR⟩:=HM.out (by omega);obtain ⟨x,p,R1,R2⟩:=hR i hlt;have hb3:Below w w wr:=HB1.out.trans (YY HB2.out HB1.out.size);have Rg1:Hid (_:Prop):=fun j u hj=>(ZQ (a:=zq g1 (i*2+j)) (hb3.block g1 hg1l)).trans (R1 j u hj)
   have Rg2:Hid (_:Prop):=fun j u hj=>(ZQ (a:=zq g2 (i*2+j)) (hb3.block g2 hg2l)).trans (R2 j u hj)
   have hg19:=ZK hg1l hb3.size;have hg29:=ZK hg2l hb3.size;clear R1 R2 hR hb3;go_wp2_with fail
   refine ap 10 _ (ag [zq ba 2,.slice g1 m c1,(i:Int),zq g1 (i*2),.agg #[x,p],zq bb 2,.slice g2 m c2,(i:Int),zq g2 (i*2),.agg #[x,p]]) (by kernel_rfl) rfl (by kernel_rfl) aq ?_;simp only [TD];refine ⟨fun w1 hG hd=>?_,fun v0=>?_⟩
   ·clear hd;go_wp2;exact RG
   simp only [TN];refine ⟨fun w1 hG hd=>?_,fun v1=>?_⟩
   ·have d0:v0=.pointer (some ⟨ba,2,none⟩):=hd ⟨0,.data⟩ (by simp) rfl;clear hd;subst d0;have c:=aw hG a2;go_wp2;exact RG
   simp only [TN];refine ⟨fun w1 hG hd=>?_,fun v2=>?_⟩
   ·clear hd;go_wp2;exact RG
   simp only [TN];refine ⟨fun w1 hG hd=>?_,fun v3=>?_⟩
   ·have d1:v1=.slice g1 m c1:=hd ⟨1,.data⟩ (by simp) rfl;have d2:v2=.int .i64 (i:Int):=hd ⟨2,.data⟩ (by simp) rfl;clear hd;subst d1 d2;go_wp2;exact RG
   simp only [TN];refine ⟨fun w1 hG hd=>?_,fun v4=>?_⟩
   ·have d3:v3=.pointer (some ⟨g1,i*2,none⟩):=hd ⟨3,.data⟩ (by simp) rfl;clear hd;subst d3;refine wpList_load_mid rfl 98 (.tmp 43) rfl g1 (i*2) rfl [.string x,.int .i64 p] _ (fun j u hj=>(ZQ (a:=zq g1 (i*2+j)) (hG.block g1 hg19)).trans (Rg1.out j u hj)) underlying98 rfl (by kernel_rfl) ?_;refine YN ?_;exact ⟨rfl,rfl,rfl,af.refl _⟩
   simp only [TN];refine ⟨fun w1 hG hd=>?_,fun v5=>?_⟩
   ·clear hd;go_wp2;exact RG
   simp only [TN];refine ⟨fun w1 hG hd=>?_,fun v6=>?_⟩
   ·have d5:v5=.pointer (some ⟨bb,2,none⟩):=hd ⟨5,.data⟩ (by simp) rfl;clear hd;subst d5;have c:=aw hG b2;go_wp2;exact RG
   simp only [TN];refine ⟨fun w1 hG hd=>?_,fun v7=>?_⟩
   ·clear hd;go_wp2;exact RG
   simp only [TN];refine ⟨fun w1 hG hd=>?_,fun v8=>?_⟩
   ·have d6:v6=.slice g2 m c2:=hd ⟨6,.data⟩ (by simp) rfl;have d7:v7=.int .i64 (i:Int):=hd ⟨7,.data⟩ (by simp) rfl;clear hd;subst d6 d7;go_wp2;exact RG
   simp only [TN];refine ⟨fun w1 hG hd=>?_,fun v9=>?_⟩
   ·have d8:v8=.pointer (some ⟨g2,i*2,none⟩):=hd ⟨8,.data⟩ (by simp) rfl;clear hd;subst d8;refine wpList_load_mid rfl 98 (.tmp 48) rfl g2 (i*2) rfl [.string x,.int .i64 p] _ (fun j u hj=>(ZQ (a:=zq g2 (i*2+j)) (hG.block g2 hg29)).trans (Rg2.out j u hj)) underlying98 rfl (by kernel_rfl) ?_;refine YN ?_;exact ⟨rfl,rfl,rfl,af.refl _⟩
   simp only [TN];intro w2 hG hd;have d4:v4=.agg #[x,p]:=hd 4 (by omega);have d9:v9=.agg #[x,p]:=hd 9 (by omega);subst d4 d9;have hb4:=ai (af.trans HB2.out hG);clear hd hG Rg1 Rg2 a2 b2 HB2;go_wp2_with fail
   go_roundg (gk - 1)
   case measure=>omega
   case rel=>exact ⟨i+1,by omega,by omega,by congr 1,hb4⟩
  ·obtain rfl:i=m:=by omega
   have d1:decide ((i:Int) < (i:Int))=false:=by simp
   clear HM;go_wp2_with fail
   go_loopg [6,7,8,9] (n+1) (fun gg y _ _ _ wr=>∃ i:Nat,i<=n/\n - i < gg/\y=.int .i64 (i:Int)/\Hid (af w1 wr))
   case atStart=>exact ⟨0,by omega,by omega,rfl,HB2⟩
   case round=>
    obtain ⟨ix,hix,hgix,rfl,HB3⟩:=hrel;clear a2 b2 HB2;obtain ⟨GK,hGK⟩:∃ GK,GK=gk:=⟨_,rfl⟩;have a1:=aw HB3.out A1.out;have b1:=aw HB3.out B1.out;by_cases hlt2:ix < n
    ·have d2:decide ((ix:Int) < (n:Int))=true:=by simp;omega
     obtain ⟨ga,gb,rfl,rfl,hgal,hgbl,hR⟩:=F.out (by omega);obtain ⟨W,H,no,c3,c4,ad3,ad4,R1,R2,hno,hc3,hc4,hc32,hc42,hops⟩:=hR ix hlt2;have HOP:=ai hops;have hb3:Below w w wr:=HB1.out.trans (YY HB3.out HB1.out.size);have Rg1:Hid (_:Prop):=fun j u hj=>(ZQ (a:=zq ga (ix*3+j)) (hb3.block ga hgal)).trans (R1 j u hj)
     have Rg2:Hid (_:Prop):=fun j u hj=>(ZQ (a:=zq gb (ix*3+j)) (hb3.block gb hgbl)).trans (R2 j u hj)
     have HB9:=ai hb3;clear R1 R2 hR hb3 hops;have gA:af wr ((wr.alloc (.cells #[W,H,.slice ad3 no c3] 100)).alloc (.cells #[W,H,.slice ad4 no c4] 100)):=((ZT _ wr).alloc (ZW _) _).alloc (by first | (simp;done) | (simp;omega)) _;have kp:((wr.alloc (.cells #[W,H,.slice ad3 no c3] 100)).alloc (.cells #[W,H,.slice ad4 no c4] 100)).heap[wr.heap.size]? =some (.cells #[W,H,.slice ad3 no c3] 100 (0,0)):=(Zf _ _ wr.heap.size (by first | (simp;done) | (simp;omega))).trans (ZF wr _);have kq:((wr.alloc (.cells #[W,H,.slice ad3 no c3] 100)).alloc (.cells #[W,H,.slice ad4 no c4] 100)).heap[wr.heap.size+1]? =some (.cells #[W,H,.slice ad4 no c4] 100 (0,0)):=Yz wr _ _;have GA:=ai gA;have KP:=ai kp;have KQ:=ai kq;have b1':(wr.alloc (.cells #[W,H,.slice ad3 no c3] 100)).cell? (zq bb 1)=some (.slice gb n cb):=aw ((ZT _ wr).alloc (ZW _) _) b1;clear gA kp kq;go_wp2_with (first
      | (refine wpList_load_mid rfl 100 (.tmp 61) rfl ga (ix*3) rfl [.int .i64 W,.int .i64 H,.slice ad3 no c3] _ Rg1.out underlying100 rfl (by kernel_rfl) ?_)
      | (refine wpList_load_mid rfl 100 (.tmp 66) rfl gb (ix*3) rfl [.int .i64 W,.int .i64 H,.slice ad4 no c4] _ (fun j u hj=>aw ((ZT _ wr).alloc (ZW _) _) (Rg2.out j u hj)) underlying100 rfl (by kernel_rfl) ?_))
     generalize (wr.alloc (.cells #[W,H,.slice ad3 no c3] 100)).alloc (.cells #[W,H,.slice ad4 no c4] 100)=w3 at GA KP KQ ⊢;obtain ⟨pb,hpb⟩:∃ k,wr.heap.size=k:=⟨_,rfl⟩;obtain ⟨qb,hqb⟩:∃ k,wr.heap.size+1=k:=⟨_,rfl⟩;rw [hqb] at KQ ⊢;rw [hpb] at KP ⊢;have P2:Hid (w3.cell? (zq pb 2)=some (.slice ad3 no c3)):=by show _=_;rw [Zw w3 pb 2 _ _ (0,0) KP.out];rfl
     have Q2:Hid (w3.cell? (zq qb 2)=some (.slice ad4 no c4)):=by show _=_;rw [Zw w3 qb 2 _ _ (0,0) KQ.out];rfl
     have HB5:=ai (af.trans HB3.out GA.out);have HB6:=ai (Below.trans HB9.out (YY GA.out HB9.out.size));clear KP KQ GA HB3 HB9 Rg1 Rg2 a1 b1 b1' hpb hqb;go_loopg [9] (no+1) (fun gg y wx=>∃ k:Nat,k<=no/\no - k < gg/\y=.int .i64 (k:Int)/\Hid (af w3 wx))
     case atStart=>exact ⟨0,by omega,by omega,rfl,af.refl _⟩
     case round=>
      obtain ⟨k,hk,hgk2,rfl,HB7⟩:=hrel;have p2:=aw HB7.out P2.out;have q2:=aw HB7.out Q2.out;by_cases hkl:k < no
      ·have d3:decide ((k:Int) < (no:Int))=true:=by simp;omega
       obtain ⟨g1,g2,rfl,rfl,hg1l,hg2l,hR⟩:=HOP.out (by omega);obtain ⟨K,A,X,C,D,E,Co,Ro,tt,R1,R2⟩:=hR k hkl;have hb3:Below w w wr:=HB6.out.trans (YY HB7.out HB6.out.size);have Rg1:Hid (_:Prop):=fun j u hj=>(ZQ (a:=zq g1 (k*9+j)) (hb3.block g1 hg1l)).trans (R1 j u hj)
       have Rg2:Hid (_:Prop):=fun j u hj=>(ZQ (a:=zq g2 (k*9+j)) (hb3.block g2 hg2l)).trans (R2 j u hj)
       have hg19:=ZK hg1l hb3.size;have hg29:=ZK hg2l hb3.size;clear R1 R2 hR hb3;go_wp2_with fail
       refine ap 10 _ (ag [zq pb 2,.slice g1 no c3,(k:Int),zq g1 (k*9),.agg #[K,A,X,C,D,E,Co,Ro,tt],zq qb 2,.slice g2 no c4,(k:Int),zq g2 (k*9),.agg #[K,A,X,C,D,E,Co,Ro,tt]]) (by kernel_rfl) rfl (by kernel_rfl) aq ?_;simp only [TD];refine ⟨fun w1 hG hd=>?_,fun v0=>?_⟩
       ·clear hd;go_wp2;exact RG
       simp only [TN];refine ⟨fun w1 hG hd=>?_,fun v1=>?_⟩
       ·have d0:v0=.pointer (some ⟨pb,2,none⟩):=hd ⟨0,.data⟩ (by simp) rfl;clear hd;subst d0;have c:=aw hG p2;go_wp2;exact RG
       simp only [TN];refine ⟨fun w1 hG hd=>?_,fun v2=>?_⟩
       ·clear hd;go_wp2;exact RG
       simp only [TN];refine ⟨fun w1 hG hd=>?_,fun v3=>?_⟩
       ·have d1:v1=.slice g1 no c3:=hd ⟨1,.data⟩ (by simp) rfl;have d2:v2=.int .i64 (k:Int):=hd ⟨2,.data⟩ (by simp) rfl;clear hd;subst d1 d2;go_wp2;exact RG
       simp only [TN];refine ⟨fun w1 hG hd=>?_,fun v4=>?_⟩
       ·have d3:v3=.pointer (some ⟨g1,k*9,none⟩):=hd ⟨3,.data⟩ (by simp) rfl;clear hd;subst d3;refine wpList_load_mid rfl 31 (.tmp 99) rfl g1 (k*9) rfl [.int .i64 K,.int .i64 A,.int .i64 X,.int .i64 C,.int .i64 D,.int .i64 E,.int .i64 Co,.int .i64 Ro,.string tt] _ (fun j u hj=>(ZQ (a:=zq g1 (k*9+j)) (hG.block g1 hg19)).trans (Rg1.out j u hj)) underlying31 rfl (by kernel_rfl) ?_;refine YN ?_;exact ⟨rfl,rfl,rfl,af.refl _⟩
       simp only [TN];refine ⟨fun w1 hG hd=>?_,fun v5=>?_⟩
       ·clear hd;go_wp2;exact RG
       simp only [TN];refine ⟨fun w1 hG hd=>?_,fun v6=>?_⟩
       ·have d5:v5=.pointer (some ⟨qb,2,none⟩):=hd ⟨5,.data⟩ (by simp) rfl;clear hd;subst d5;have c:=aw hG q2;go_wp2;exact RG
       simp only [TN];refine ⟨fun w1 hG hd=>?_,fun v7=>?_⟩
       ·clear hd;go_wp2;exact RG
       simp only [TN];refine ⟨fun w1 hG hd=>?_,fun v8=>?_⟩
       ·have d6:v6=.slice g2 no c4:=hd ⟨6,.data⟩ (by simp) rfl;have d7:v7=.int .i64 (k:Int):=hd ⟨7,.data⟩ (by simp) rfl;clear hd;subst d6 d7;go_wp2;exact RG
       simp only [TN];refine ⟨fun w1 hG hd=>?_,fun v9=>?_⟩
       ·have d8:v8=.pointer (some ⟨g2,k*9,none⟩):=hd ⟨8,.data⟩ (by simp) rfl;clear hd;subst d8;refine wpList_load_mid rfl 31 (.tmp 104) rfl g2 (k*9) rfl [.int .i64 K,.int .i64 A,.int .i64 X,.int .i64 C,.int .i64 D,.int .i64 E,.int .i64 Co,.int .i64 Ro,.string tt] _ (fun j u hj=>(ZQ (a:=zq g2 (k*9+j)) (hG.block g2 hg29)).trans (Rg2.out j u hj)) underlying31 rfl (by kernel_rfl) ?_;refine YN ?_;exact ⟨rfl,rfl,rfl,af.refl _⟩
       simp only [TN];intro w2 hG hd;have d4:v4=.agg #[K,A,X,C,D,E,Co,Ro,tt]:=hd 4 (by omega);have d9:v9=.agg #[K,A,X,C,D,E,Co,Ro,tt]:=hd 9 (by omega);subst d4 d9;have hb8:=ai (af.trans HB7.out hG);clear hd hG Rg1 Rg2 p2 q2 HB7;go_wp2_with fail
       go_roundg (gk - 1)
       case measure=>omega
       case rel=>exact ⟨k+1,by omega,by omega,by congr 1,hb8⟩
      ·obtain rfl:k=no:=by omega
       have d3:decide ((k:Int) < (k:Int))=false:=by simp
       have HB8:=ai (af.trans HB5.out HB7.out);clear HB7 HB5 HB6;go_wp2_with fail
       go_roundg (GK - 1)
       case measure=>omega
       case rel=>exact ⟨ix+1,by omega,by omega,by congr 1,HB8⟩
    ·obtain rfl:ix=n:=by omega
     have d2:decide ((ix:Int) < (ix:Int))=false:=by simp
     have HBF:=ai (HB1.out.trans (YY HB3.out HB1.out.size));clear HB3 F;go_wp2;go_ret;exact ⟨rfl,HBF.out⟩
inductive dH
 | w (t g:List UInt8)
 | b (c:UInt8) (g:List UInt8)
 | q (l g:List UInt8)
 | wb (t:List UInt8) (c:UInt8) (g:List UInt8)
def Ak (g:List UInt8):Bool:=g.all cj
def fZ (t:List UInt8):Bool:=!t.isEmpty&&t.all cV
def DS (c:UInt8):Bool:=c==91||c==93
def dH.ok:dH->Bool
 | .w t g=>fZ t&&Ak g&&!g.isEmpty
 | .b c g=>DS c&&Ak g
 | .q _ g=>Ak g
 | .wb t c g=>fZ t&&DS c&&Ak g
def dH.text:dH->List UInt8
 | .w t g=>t++g
 | .b c g=>c::g
 | .q l g=>bc l++g
 | .wb t c g=>t++c::g
def dH.toks:dH->List (List UInt8)
 | .w t _=>[t]
 | .b c _=>[[c]]
 | .q l _=>[bc l]
 | .wb t c _=>[t,[c]]
def h_ (l:List dH):List UInt8:=l.flatMap dH.text
def a7 (l:List dH):List (List UInt8):=l.flatMap dH.toks
def jO (l:List dH):Bool:=l.all dH.ok
inductive nt:List UInt8->List (List UInt8)->List UInt8->Prop
 | nil (l:List UInt8):nt l [] l
 | gap {c:UInt8} {l:List UInt8} {ts:List (List UInt8)} {r:List UInt8} (hc:cj c=true) (h:nt l ts r):nt (c::l) ts r
 | tok {t l:List UInt8} {ts:List (List UInt8)} {r:List UInt8} (hn:ny (t++l)=t.length) (h0:t≠[]) (hd:∀ c q,t++l=c::q->cj c=false) (h:nt l ts r):nt (t++l) (t::ts) r
theorem nt.gaps {g l r:List UInt8} {ts:List (List UInt8)} (hg:Ak g=true) (h:nt l ts r):nt (g++l) ts r:=by
 induction g with
 | nil=>exact h
 | cons c g ih=>
  unfold Ak at hg ih;simp only [List.all_cons,Zr] at hg;exact .gap hg.1 (ih hg.2)
theorem zi {t:List UInt8} (h:fZ t=true):t≠[]/\∀ c∈t,cV c=true:=by
 unfold fZ at h;simp only [Zr,List.all_eq_true] at h;exact ⟨fun e=>by rw [e] at h;exact absurd h.1 (by decide),h.2⟩
theorem Fp {c:UInt8} (h:cj c=true):cV c=false:=by
 unfold cj at h;simp only [List.contains_eq_mem,Zh,Zk,YQ,or_false] at h;rcases h with rfl | rfl <;> rfl
theorem Ca {c:UInt8} (h:DS c=true):cV c=false/\cj c=false/\(c.toNat=91\/c.toNat=93):=by
 unfold DS at h;simp only [Bool.or_eq_true,beq_iff_eq] at h;rcases h with rfl | rfl
 ·exact ⟨rfl,rfl,.inl rfl⟩
 ·exact ⟨rfl,rfl,.inr rfl⟩
theorem nt.word {t l r:List UInt8} {ts:List (List UInt8)} (hw:fZ t=true) (hl:∀ c q,l=c::q->cV c=false) (h:nt l ts r):nt (t++l) (t::ts) r:=by
 obtain ⟨h0,hp⟩:=zi hw;refine .tok (vy t l h0 hp hl) h0 ?_ h;intro c q e
 cases t with
 | nil=>exact absurd rfl h0
 | cons x t=>cases e;exact (j5 (hp _ (ZB _))).2.2.2
theorem nt.brk {c:UInt8} {l r:List UInt8} {ts:List (List UInt8)} (hb:DS c=true) (h:nt l ts r):nt (c::l) ([c]::ts) r:=by
 obtain ⟨_,hg,hc⟩:=Ca hb;refine nt.tok (t:=[c]) (EX c l hc) (by simp) ?_ h;intro d q e
 cases e;exact hg
theorem nt.str {m l r:List UInt8} {ts:List (List UInt8)} (h:nt l ts r):nt (bc m++l) (bc m::ts) r:=by
 refine .tok (zc m l) (by simp [bc]) ?_ h;intro c q hq;have:c=40:=by unfold bc at hq;simp at hq;exact hq.1.symm
 rw [this];decide
theorem dH.tks {x:dH} (hx:x.ok=true) {l r:List UInt8} {ts:List (List UInt8)} (h:nt l ts r):nt (x.text++l) (x.toks++ts) r:=by
 cases x with
 | w t g=>
  simp only [dH.ok,Zr] at hx;obtain ⟨⟨hw,hg⟩,hne⟩:=hx;show nt (t++g++l) _ _
  rw [ZS];refine nt.word hw ?_ (nt.gaps hg h);intro c q e
  cases g with
  | nil=>exact absurd hne (by decide)
  | cons d g=>
   cases e
   unfold Ak at hg;simp only [List.all_cons,Zr] at hg;exact Fp hg.1
 | b c g=>
  simp only [dH.ok,Zr] at hx;exact nt.brk hx.1 (nt.gaps hx.2 h)
 | q m g=>
  show nt (bc m++g++l) _ _
  rw [ZS];exact nt.str (nt.gaps hx h)
 | wb t c g=>
  simp only [dH.ok,Zr] at hx;obtain ⟨⟨hw,hb⟩,hg⟩:=hx;show nt (t++c::g++l) _ _
  rw [ZS,ZE];refine nt.word hw ?_ (nt.brk hb (nt.gaps hg h));intro d q e
  cases e;exact (Ca hb).1
theorem tu:∀ (xs:List dH),jO xs=true->∀ (l r:List UInt8) (ts:List (List UInt8)),nt l ts r->nt (h_ xs++l) (a7 xs++ts) r
 | [],_,l,r,ts,h=>h
 | x::xs,ho,l,r,ts,h=>by
  unfold jO at ho;simp only [List.all_cons,Zr] at ho;have:=dH.tks ho.1 (tu xs ho.2 l r ts h);simpa only [h_,a7,List.flatMap_cons,ZS] using this
def a6 (key:List UInt8) (k:Nat):List (List UInt8)->Option (List UInt8)
 | []=>none
 | t::ts=>if t=key then ts[k]? else a6 key k ts
variable {s key:ByteArray}
theorem zH (t:ByteArray) (l:List UInt8) (h:t.data.toList=l):(t.toList==key.toList)=decide (l=key.data.toList):=by
 rw [Zm,Zm,h];by_cases e:l=key.data.toList
 ·simp [e]
 ·simp [e]
theorem tG {a:Nat} {c:UInt8} {l:List UInt8} (hd:s.data.toList.drop a=c::l) (hc:cj c=true) (f:Nat) (fd:Bool) (k:Nat):
  j8 s (nL s) (tD s) key f a fd k=j8 s (nL s) (tD s) key f (a+1) fd k:=by
 have e:a+nL s a=a+1+nL s (a+1):=by
  have h1:s.data.toList.drop (a+1)=l:=by rw [<-List.drop_drop,hd];rfl
  unfold nL;rw [hd,h1];show a+((c::l).takeWhile cj).length=_
  rw [List.takeWhile_cons_of_pos hc];simp [xG];omega
 cases f with
 | zero=>rfl
 | succ f=>simp only [j8,e]
theorem tH {a:Nat} {t l:List UInt8} (hd:s.data.toList.drop a=t++l) (hn:ny (t++l)=t.length) (h0:t≠[]) (hg:∀ c q,t++l=c::q->cj c=false) (f:Nat) (fd:Bool) (k:Nat):
  s.data.toList.drop (gR s a)=l/\gR s a=a+t.length/\
  j8 s (nL s) (tD s) key (f+1) a fd k=if fd=false then j8 s (nL s) (tD s) key f (gR s a) (decide (t=key.data.toList)) k else if k=0 then ⟨t.toArray⟩ else j8 s (nL s) (tD s) key f (gR s a) true (k - 1):=by
 have hA:At s a [] t l:=⟨by rw [hd];rfl,by simp,hg,hn,h0⟩;have ht:=hA.tok;refine ⟨hA.nxt,by unfold gR;rw [hA.tk,hA.gp];simp,?_⟩;rw [j8,ZO hA.tkne];show (if fd=false then j8 s _ _ key f (gR s a) ((i8 s a).toList==key.toList) k else if k=0 then i8 s a else j8 s _ _ key f (gR s a) true (k - 1))=_
 rw [zH _ _ ht,tF ht]
theorem EZ {l r:List UInt8} {ts:List (List UInt8)} (h:nt l ts r):∀ (a f k:Nat) (u:List UInt8),s.data.toList.drop a=l->l.length < f->(ts[k]? =some u->j8 s (nL s) (tD s) key f a true k=⟨u.toArray⟩)/\(a6 key.data.toList k ts=some u->j8 s (nL s) (tD s) key f a false k=⟨u.toArray⟩):=by
 induction h with
 | nil l=>intro a f k u _ _;exact ⟨by simp,by simp [a6]⟩
 | @gap c l ts r hc h ih=>
  intro a f k u hd hf;have h1:s.data.toList.drop (a+1)=l:=by rw [<-List.drop_drop,hd];rfl
  rw [tG hd hc,tG hd hc];exact ih (a+1) f k u h1 (by simp at hf;omega)
 | @tok t l ts r hn h0 hg h ih=>
  intro a f k u hd hf
  cases f with
  | zero=>omega
  | succ f=>
   have hlen:0 < t.length:=Yn.2 h0;have hf':l.length < f:=by simp at hf;omega
   constructor
   ·intro hk;obtain ⟨hn1,_,he⟩:=tH (key:=key) hd hn h0 hg f true k;rw [he,ZO (by decide)]
    cases k with
    | zero=>rw [ZN rfl];simp at hk;rw [hk]
    | succ k=>
     rw [ZO (by omega),Nat.add_sub_cancel];exact (ih (gR s a) f k u hn1 hf').1 (by simpa using hk)
   ·intro hk;obtain ⟨hn1,_,he⟩:=tH (key:=key) hd hn h0 hg f false k;rw [he,ZN rfl];unfold a6 at hk;by_cases e:t=key.data.toList
    ·rw [ZN e] at hk;rw [Zt e];exact (ih (gR s a) f k u hn1 hf').1 hk
    ·rw [ZO e] at hk;rw [Zo e];exact (ih (gR s a) f k u hn1 hf').2 hk
theorem Dy {l r:List UInt8} {ts:List (List UInt8)} (h:nt l ts r):∀ (a f k:Nat),s.data.toList.drop a=l->l.length < f->r=[]->key.data.toList ∉ ts->j8 s (nL s) (tD s) key f a false k=⟨#[]⟩:=by
 induction h with
 | nil l=>
  intro a f k hd hf hr _
  cases f with
  | zero=>rfl
  | succ f=>
   rw [j8,ZN];unfold tD;rw [<-List.drop_drop,hd,hr];simp [ny]
 | @gap c l ts r hc h ih=>
  intro a f k hd hf hr hk;have h1:s.data.toList.drop (a+1)=l:=by rw [<-List.drop_drop,hd];rfl
  rw [tG hd hc];exact ih (a+1) f k h1 (by simp at hf;omega) hr hk
 | @tok t l ts r hn h0 hg h ih=>
  intro a f k hd hf hr hk
  cases f with
  | zero=>omega
  | succ f=>
   have hlen:0 < t.length:=Yn.2 h0;obtain ⟨hn1,_,he⟩:=tH (key:=key) hd hn h0 hg f false k;rw [he,ZN rfl];rw [Zk] at hk;rw [Zo (fun e=>hk (.inl e.symm))];exact ih (gR s a) f k hn1 (by simp at hf;omega) hr (fun m=>hk (.inr m))
theorem ja (xs:List dH) (rest:List UInt8) (k:Nat) (u:List UInt8) (hs:s.data.toList=h_ xs++rest) (ho:jO xs=true) (h:a6 key.data.toList k (a7 xs)=some u):j9 s key k=⟨u.toArray⟩:=by
 have ht:=tu xs ho rest rest [] (.nil _);rw [YZ] at ht;exact (EZ ht 0 (s.size+1) k u (by rw [List.drop_zero,hs]) (by rw [<-hs,aP];omega)).2 h
theorem gm (xs:List dH) (la:List UInt8) (k:Nat) (hs:s.data.toList=h_ xs++la) (ho:jO xs=true) (hl:fZ la=true) (h:key.data.toList ∉ a7 xs) (h2:key.data.toList≠la):j9 s key k=⟨#[]⟩:=by
 have hw:=nt.word (l:=[]) hl (by simp) (.nil []);rw [YZ] at hw;have ht:=tu xs ho la [] [la] hw;exact Dy ht 0 (s.size+1) k (by rw [List.drop_zero,hs]) (by rw [<-hs,aP];omega) rfl (by simp [h,h2])
def kF:ByteArray:=⟨#[47,70,105,108,116,101,114]⟩
def kT:ByteArray:=⟨#[47,84,121,112,101]⟩
def kP:ByteArray:=⟨#[47,80,97,103,101]⟩
def kD:ByteArray:=⟨#[47,68,101,115,116]⟩
def kI:ByteArray:=⟨#[47,84,105,116,108,101]⟩
def kM:ByteArray:=⟨#[47,77,101,100,105,97,66,111,120]⟩
theorem lr (z:Int):∀ c∈Lib.itoa z,c=45\/48<=c.toNat/\c.toNat<=57:=by
 intro c hc;unfold Lib.itoa at hc;split at hc
 ·rcases Zk.1 hc with h | h
  ·exact .inl h
  ·exact .inr (mV _ c h)
 ·exact .inr (mV _ c hc)
theorem sM (z:Int):Lib.itoa z≠[]:=by
 unfold Lib.itoa;split
 ·simp
 ·unfold Lib.decDigits;split <;> simp
theorem gE (z:Int):fZ (Lib.itoa z)=true:=by
 unfold fZ;simp only [Zr,List.all_eq_true];refine ⟨?_,fun c hc=>?_⟩
 ·have:=sM z
  cases h:Lib.itoa z with
  | nil=>exact absurd h this
  | cons a b=>rfl
 ·rcases lr z c hc with rfl | h
  ·rfl
  ·unfold cV j3;simp;refine ⟨?_,?_,?_,?_,?_⟩ <;> (intro e;rw [e] at h;exact absurd h (by decide))
theorem Cg (z:Int) (l:List UInt8):(Lib.itoa z=47::l)↔False:=by
 refine ⟨fun h=>?_,False.elim⟩;have:=lr z 47 (by rw [h];exact ZB _);revert this;decide
theorem gj (z:Int) (l:List UInt8):(47::l=Lib.itoa z)↔False:=⟨fun h=>(Cg z l).1 h.symm,False.elim⟩
theorem Gc (z:Int) (l:List UInt8):(bJ z=47::l)↔False:=by
 refine ⟨fun h=>?_,False.elim⟩;have:=qD z 47 (by rw [h];exact ZB _);revert this;decide
theorem Fv (z:Int) (l:List UInt8):(47::l=bJ z)↔False:=⟨fun h=>(Gc z l).1 h.symm,False.elim⟩
theorem yP (m l:List UInt8):(bc m=47::l)↔False:=by
 refine ⟨fun h=>?_,False.elim⟩;unfold bc at h;simp at h
theorem lN (m l:List UInt8):(47::l=bc m)↔False:=⟨fun h=>(yP m l).1 h.symm,False.elim⟩
theorem Ef (z:Int):fZ (bJ z)=true:=by
 unfold fZ;simp only [Zr,List.all_eq_true];refine ⟨?_,sQ z⟩;have:=sf z
 cases h:bJ z with
 | nil=>exact absurd h this
 | cons a b=>rfl
theorem pN (z:Int):ir (Lib.itoa z):=by
 intro c hc;rcases lr z c hc with rfl | h
 ·decide
 ·omega
theorem ly (z:Int):ir (aD z):=(pN z).mk (by decide)
theorem gi (k:List UInt8) (z:Int) (h:ir k):ir (bt k z):=by
 unfold bt;split
 ·decide
 ·exact ((h.mk (by decide)).mk (ly z)).mk (by decide)
theorem ir.plainly {l:List UInt8} (h:ir l) (a:Nat):fa (l.drop a):=.inr fun c hc=>h c (List.mem_of_mem_drop hc)
def nv (key:List UInt8) (z:Int):List dH:=if z=0 then [] else [.w key [32],.w (Lib.itoa z) [32],.w [48] [32],.w [82] [32]]
theorem kW (key:List UInt8) (z:Int):h_ (nv key z)=bt key z:=by
 unfold nv bt aD;split
 ·rfl
 ·simp [h_,dH.text]
theorem gT (key:List UInt8) (z:Int) (h:fZ key=true):jO (nv key z)=true:=by
 unfold nv;split
 ·rfl
 ·simp [jO,dH.ok,h,gE];decide
theorem fL (key:List UInt8) (z:Int) (l:List UInt8) (h:47::l≠key):47::l ∉ a7 (nv key z):=by
 unfold nv;split
 ·simp [a7]
 ·simp [a7,dH.toks,gj,h]
theorem lU (key:List UInt8) (z:Int) (l:List UInt8) (k:Nat) (ts:List (List UInt8)) (h:key≠47::l):a6 (47::l) k (a7 (nv key z)++ts)=a6 (47::l) k ts:=by
 unfold nv;split
 ·rfl
 ·simp [a7,dH.toks,a6,Cg,h]
theorem jQ (a b:List dH):h_ (a++b)=h_ a++h_ b:=by simp [h_]
theorem cv (a b:List dH):a7 (a++b)=a7 a++a7 b:=by simp [a7]
theorem jP (a b:List dH):jO (a++b)=(jO a&&jO b):=by simp [jO]
def rf (z:Int):List dH:=[.w (Lib.itoa z) [32],.w [48] [32],.w [82] [32]]
def mT (a:Nat):Nat->List dH
 | 0=>[]
 | m+1=>mT a m++rf ((a+m:Nat):Int)
def rd (a:Nat):Nat->List dH
 | 0=>[.b 93 [32]]
 | m+1=>mT a m++[.w (Lib.itoa ((a+m:Nat):Int)) [32],.w [48] [32],.wb [82] 93 [32]]
theorem uY (x:List UInt8):∀ l:List (List UInt8),Lib.join (l++[x]) [32]=l.flatMap (fun y=>y++[32])++x
 | []=>by rw [Zq,Lib.join_one];rfl
 | y::l=>by
  have ih:=uY x l;rw [ZE,Lib.join_cons];have e:∀ r:List (List UInt8),r≠[]->Lib.joinTail [32] r=[32]++Lib.join r [32]:=by
   intro r hr
   cases r with
   | nil=>exact absurd rfl hr
   | cons z r=>rw [Lib.join_cons];simp [Lib.joinTail]
  rw [e _ (by simp),ih];simp
theorem rg (a:Nat):∀ m,h_ (mT a m)=(cf a m).flatMap (fun y=>y++[32])
 | 0=>rfl
 | m+1=>by
  simp only [mT,cf,jQ,rg a m,List.flatMap_append];congr 1;simp [h_,rf,dH.text,aD]
theorem AR (a m:Nat):h_ (rd a m)=Lib.join (cf a m) [32]++[93,32]:=by
 cases m with
 | zero=>rfl
 | succ m=>
  simp only [rd,cf,jQ,rg,uY];simp [h_,dH.text,aD]
theorem uX (a:Nat):∀ m,jO (mT a m)=true
 | 0=>rfl
 | m+1=>by
  simp only [mT,jP,uX a m,Bool.true_and];simp [jO,rf,dH.ok,gE];decide
theorem D' (a m:Nat):jO (rd a m)=true:=by
 cases m with
 | zero=>rfl
 | succ m=>
  simp only [rd,jP,uX,Bool.true_and];simp [jO,dH.ok,gE];decide
theorem uT (a:Nat) (l:List UInt8):∀ m,47::l ∉ a7 (mT a m)
 | 0=>by simp [a7,mT]
 | m+1=>by
  simp only [mT,cv,Zu,uT a l m,false_or];simp [a7,rf,dH.toks,gj]
theorem D_ (a m:Nat) (l:List UInt8):47::l ∉ a7 (rd a m):=by
 cases m with
 | zero=>simp [a7,rd,dH.toks]
 | succ m=>
  simp only [rd,cv,Zu,uT,false_or];simp [a7,dH.toks,gj]
theorem uZ (a:Nat):∀ m,ir ((cf a m).flatMap (fun y=>y++[32]))
 | 0=>show ir [] by decide
 | m+1=>by
  simp only [cf,List.flatMap_append];refine (uZ a m).mk ?_;simp only [List.flatMap_cons,List.flatMap_nil,YZ];exact (ly _).mk (by decide)
theorem Ea (a m:Nat):ir (Lib.join (cf a m) [32]):=by
 cases m with
 | zero=>show ir [];decide
 | succ m=>
  simp only [cf,uY];exact (uZ a m).mk (ly _)
structure sD (s:ByteArray):Prop where
 f:j9 s kF 0=⟨#[]⟩
 t:j9 s kT 0≠kP
 d:j9 s kD 0=⟨#[]⟩
 i:j9 s kI 0=⟨#[]⟩
 pl:∀ a,fa (s.data.toList.drop a)
theorem FV {x:List UInt8} {k:ByteArray} (h:x≠k.data.toList):(⟨x.toArray⟩:ByteArray)≠k:=by
 intro e;apply h;rw [<-e]
theorem n_ {s:ByteArray} (xs:List dH) (la u:List UInt8) (hs:s.data.toList=h_ xs++la) (ho:jO xs=true) (hl:fZ la=true) (ha:ir s.data.toList)
  (n:∀ k∈[kF,kD,kI],k.data.toList ∉ a7 xs/\k.data.toList≠la) (ht:a6 kT.data.toList 0 (a7 xs)=some u/\u≠kP.data.toList\/(kT.data.toList ∉ a7 xs/\kT.data.toList≠la)):sD s:=by
 refine ⟨gm xs la 0 hs ho hl (n kF (by simp)).1 (n kF (by simp)).2,?_,gm xs la 0 hs ho hl (n kD (by simp)).1 (n kD (by simp)).2,gm xs la 0 hs ho hl (n kI (by simp)).1 (n kI (by simp)).2,fun a=>ha.plainly a⟩;rcases ht with ⟨h1,h2⟩ | ⟨h1,h2⟩
 ·rw [ja xs la 0 u hs ho h1];exact FV h2
 ·rw [gm xs la 0 hs ho hl h1 h2];exact FV (x:=[]) (by decide)
theorem th {s:ByteArray} (up:Int) (a m:Nat) (ct:Int) (hs:s.data.toList=jN up (Lib.join (cf a m) [32]) ct):sD s:=by
 refine n_ ([.w [60,60] [32],.w kT.data.toList [32],.w [47,80,97,103,101,115] [32]]++(nv [47,80,97,114,101,110,116] up++([.w [47,75,105,100,115] [32],.b 91 []]++(rd a m++[.w [47,67,111,117,110,116] [32],.w (Lib.itoa ct) [32]])))) [62,62] [47,80,97,103,101,115] ?_ ?_ (by decide) ?_ ?_ (.inl ⟨?_,by decide⟩)
 ·rw [hs];simp only [jQ,kW,AR,jN];simp [h_,dH.text,kT]
 ·simp only [jP,gT _ _ (show fZ [47,80,97,114,101,110,116]=true by decide),D'];simp [jO,dH.ok,gE,kT];decide
 ·rw [hs];exact (((((show ir _ by decide).mk (gi _ _ (by decide))).mk (by decide)).mk (Ea a m)).mk (by decide)).mk (pN ct) |>.mk (by decide)
 ·intro k hk;simp only [Zk,YQ,or_false] at hk;rcases hk with rfl | rfl | rfl <;> refine ⟨?_,by decide⟩ <;> simp only [cv,Zu,not_or] <;> refine ⟨by simp [a7,dH.toks,kF,kD,kI,kT],fL _ _ _ (by decide),by simp [a7,dH.toks,kF,kD,kI,kT],D_ _ _ _,by simp [a7,dH.toks,kF,kD,kI,kT,gj]⟩
 ·simp [a7,dH.toks,a6,kT]
theorem Df {s:ByteArray} (z:Int) (hs:s.data.toList=Lib.itoa z):sD s:=by
 refine n_ [] (Lib.itoa z) [] hs rfl (gE z) (by rw [hs];exact pN z) ?_ (.inr ⟨by simp [a7],fun e=>(gj z _).1 e⟩);intro k hk;simp only [Zk,YQ,or_false] at hk;rcases hk with rfl | rfl | rfl <;> exact ⟨by simp [a7],fun e=>(gj z _).1 e⟩
theorem BH {s:ByteArray} (hs:s.data.toList=nC):sD s:=by
 refine n_ [.w [60,60] [32],.w kT.data.toList [32],.w [47,70,111,110,116] [32],.w [47,83,117,98,116,121,112,101] [32],.w [47,84,121,112,101,49] [32],.w [47,66,97,115,101,70,111,110,116] [32],.w [47,72,101,108,118,101,116,105,99,97] [32]] [62,62] [47,70,111,110,116] (by rw [hs];rfl) (by decide) (by decide) (by rw [hs];decide) ?_ (.inl ⟨by decide,by decide⟩);intro k hk;simp only [Zk,YQ,or_false] at hk;rcases hk with rfl | rfl | rfl <;> exact ⟨by decide,by decide⟩
theorem BL {s:ByteArray} (all m:Nat) (hs:s.data.toList=f_ all m):sD s:=by
 refine n_ ([.w [60,60] [32],.w kT.data.toList [32],.w [47,79,117,116,108,105,110,101,115] [32]]++(nv [47,70,105,114,115,116] ((all+1:Nat):Int)++(nv [47,76,97,115,116] ((all+m:Nat):Int)++[.w [47,67,111,117,110,116] [32],.w (Lib.itoa (m:Int)) [32]]))) [62,62] [47,79,117,116,108,105,110,101,115] ?_ ?_ (by decide) ?_ ?_ (.inl ⟨?_,by decide⟩)
 ·rw [hs];simp only [jQ,kW,f_];simp [h_,dH.text,kT]
 ·simp only [jP,gT _ _ (show fZ [47,70,105,114,115,116]=true by decide),gT _ _ (show fZ [47,76,97,115,116]=true by decide)];simp [jO,dH.ok,gE,kT];decide
 ·rw [hs];exact (((((show ir _ by decide).mk (gi _ _ (by decide))).mk (gi _ _ (by decide))).mk (by decide)).mk (pN _)).mk (by decide)
 ·intro k hk;simp only [Zk,YQ,or_false] at hk;rcases hk with rfl | rfl | rfl <;> refine ⟨?_,by decide⟩ <;> simp only [cv,Zu,not_or] <;> refine ⟨by simp [a7,dH.toks,kF,kD,kI,kT],fL _ _ _ (by decide),fL _ _ _ (by decide),by simp [a7,dH.toks,kF,kD,kI,kT,gj]⟩
 ·simp [a7,dH.toks,a6,kT]
theorem u7 {s:ByteArray} (root out:Nat) (hs:s.data.toList=vu root out):sD s:=by
 refine n_ ([.w [60,60] [32],.w kT.data.toList [32],.w [47,67,97,116,97,108,111,103] [32],.w [47,80,97,103,101,115] [32]]++(rf (root:Int)++nv [47,79,117,116,108,105,110,101,115] (out:Int))) [62,62] [47,67,97,116,97,108,111,103] ?_ ?_ (by decide) ?_ ?_ (.inl ⟨?_,by decide⟩)
 ·rw [hs];simp only [jQ,kW,vu];simp [h_,dH.text,kT,rf,aD]
 ·simp only [jP,gT _ _ (show fZ [47,79,117,116,108,105,110,101,115]=true by decide)];simp [jO,dH.ok,gE,kT,rf];decide
 ·rw [hs];exact ((((show ir _ by decide).mk (ly _)).mk (by decide)).mk (gi _ _ (by decide))).mk (by decide)
 ·intro k hk;simp only [Zk,YQ,or_false] at hk;rcases hk with rfl | rfl | rfl <;> refine ⟨?_,by decide⟩ <;> simp only [cv,Zu,not_or] <;> refine ⟨by simp [a7,dH.toks,kF,kD,kI,kT],by simp [a7,dH.toks,kF,kD,kI,kT,rf,gj],fL _ _ _ (by decide)⟩
 ·simp [a7,dH.toks,a6,kT]
structure zw (s:ByteArray) (w h:Int):Prop where
 f:j9 s kF 0=⟨#[]⟩
 t:j9 s kT 0=kP
 w:j9 s kM 3=⟨(bJ w).toArray⟩
 h:j9 s kM 4=⟨(bJ h).toArray⟩
 pl:∀ a,fa (s.data.toList.drop a)
theorem Ft {s:ByteArray} (font p i:Nat) (z:Int×Int) (hs:s.data.toList=vO font p i z):zw s z.1 z.2:=by
 obtain ⟨x1,hx1⟩:∃ x,x=[dH.w [60,60] [32],.w kT.data.toList [32],.w kP.data.toList [32]]:=⟨_,rfl⟩;obtain ⟨x2,hx2⟩:∃ x,x=nv [47,80,97,114,101,110,116] ((font+1+p+i / 8:Nat):Int):=⟨_,rfl⟩;obtain ⟨x3,hx3⟩:∃ x,x=[dH.w kM.data.toList [32],.b 91 [],.w [48] [32],.w [48] [32],.w (bJ z.1) [32],.wb (bJ z.2) 93 [32]]:=⟨_,rfl⟩;obtain ⟨x4,hx4⟩:∃ x,x=nv [47,67,111,110,116,101,110,116,115] ((2*i+1:Nat):Int):=⟨_,rfl⟩;obtain ⟨x5,hx5⟩:∃ x,x=[dH.w [47,82,101,115,111,117,114,99,101,115] [32],.w [60,60] [32],.w [47,70,111,110,116] [32],.w [60,60] [32]]:=⟨_,rfl⟩;obtain ⟨x6,hx6⟩:∃ x,x=nv [47,70,49] (font:Int):=⟨_,rfl⟩;obtain ⟨x7,hx7⟩:∃ x,x=[dH.w [62,62] [32],.w [62,62] [32]]:=⟨_,rfl⟩;have hs':s.data.toList=h_ (x1++(x2++(x3++(x4++(x5++(x6++x7))))))++[62,62]:=by
  rw [hs];simp only [jQ,hx2,hx4,hx6,kW,vO,pn];simp [h_,dH.text,hx1,hx3,hx5,hx7,kT,kP,kM]
 have ho:jO (x1++(x2++(x3++(x4++(x5++(x6++x7))))))=true:=by
  simp only [jP,hx2,hx4,hx6,gT _ _ (show fZ [47,80,97,114,101,110,116]=true by decide),gT _ _ (show fZ [47,67,111,110,116,101,110,116,115]=true by decide),gT _ _ (show fZ [47,70,49]=true by decide)];simp [jO,dH.ok,Ef,hx1,hx3,hx5,hx7,kT,kP,kM];decide
 have ha:ir s.data.toList:=by
  rw [hs];refine (((((((show ir _ by decide).mk (gi _ _ (by decide))).mk ?_).mk (gi _ _ (by decide))).mk (by decide)).mk (gi _ _ (by decide))).mk (by decide));exact ((((show ir _ by decide).mk (aZ _)).mk (by decide)).mk (aZ _)).mk (by decide)
 have hm3:∀ k,a6 kM.data.toList k (a7 (x1++(x2++(x3++(x4++(x5++(x6++x7)))))))=a6 kM.data.toList k (a7 (x3++(x4++(x5++(x6++x7))))):=by
  intro k;have e1:∀ ts,a6 kM.data.toList k (a7 x1++ts)=a6 kM.data.toList k ts:=by intro ts;rw [hx1];simp [a7,dH.toks,a6,kT,kP,kM]
  rw [cv,e1,cv,hx2];exact lU _ _ _ _ _ (by decide)
 refine ⟨?_,?_,?_,?_,fun a=>ha.plainly a⟩
 ·refine gm _ _ 0 hs' ho (by decide) ?_ (by decide);simp only [cv,Zu,not_or,hx2,hx4,hx6];refine ⟨?_,fL _ _ _ (by decide),?_,fL _ _ _ (by decide),?_,fL _ _ _ (by decide),?_⟩ <;> simp [a7,dH.toks,hx1,hx3,hx5,hx7,kF,kT,kP,kM,Fv]
 ·refine (ja _ _ 0 kP.data.toList hs' ho ?_);rw [cv,hx1];simp [a7,dH.toks,a6,kT]
 ·refine ja _ _ 3 (bJ z.1) hs' ho ?_;rw [hm3,hx3];simp [a7,dH.toks,a6]
 ·refine ja _ _ 4 (bJ z.2) hs' ho ?_;rw [hm3,hx3];simp [a7,dH.toks,a6]
structure vA (s:ByteArray) (t:List UInt8) (n:Nat):Prop where
 f:j9 s kF 0=⟨#[]⟩
 ty:j9 s kT 0=⟨#[]⟩
 d:j9 s kD 0=⟨#[91]⟩
 i:j9 s kI 0=⟨(bc t).toArray⟩
 d1:j9 s kD 1=⟨(Lib.itoa (n:Int)).toArray⟩
 pl:∀ a,fa (s.data.toList.drop a)
theorem Fs {s:ByteArray} (all m fp i:Nat) (t:List UInt8) (p:Nat) (hs:s.data.toList=iK all m fp i t p):vA s t (fp+p):=by
 obtain ⟨x1,hx1⟩:∃ x,x=[dH.w [60,60] [32],.w kI.data.toList [32],.q t [32]]:=⟨_,rfl⟩;obtain ⟨x2,hx2⟩:∃ x,x=nv [47,80,97,114,101,110,116] (all:Int):=⟨_,rfl⟩;obtain ⟨x3,hx3⟩:∃ x,x=nv [47,80,114,101,118] (if i=0 then 0 else ((all+i:Nat):Int)):=⟨_,rfl⟩;obtain ⟨x4,hx4⟩:∃ x,x=nv [47,78,101,120,116] (if i+1=m then 0 else ((all+i+2:Nat):Int)):=⟨_,rfl⟩;obtain ⟨x5,hx5⟩:∃ x,x=[dH.w kD.data.toList [32],.b 91 [],.w (Lib.itoa ((fp+p:Nat):Int)) [32],.w [48] [32],.w [82] [32],.wb [47,70,105,116] 93 [32]]:=⟨_,rfl⟩;have hs':s.data.toList=h_ (x1++(x2++(x3++(x4++x5))))++[62,62]:=by
  rw [hs];simp only [jQ,hx2,hx3,hx4,kW,iK];simp [h_,dH.text,hx1,hx5,kI,kD,aD]
 have ho:jO (x1++(x2++(x3++(x4++x5))))=true:=by
  simp only [jP,hx2,hx3,hx4,gT _ _ (show fZ [47,80,97,114,101,110,116]=true by decide),gT _ _ (show fZ [47,80,114,101,118]=true by decide),gT _ _ (show fZ [47,78,101,120,116]=true by decide)];simp [jO,dH.ok,gE,hx1,hx5,kI,kD];decide
 have ha:ir s.data.toList:=by
  rw [hs];exact ((((((((show ir _ by decide).mk (py _)).mk (by decide)).mk (gi _ _ (by decide))).mk (gi _ _ (by decide))).mk (gi _ _ (by decide))).mk (by decide)).mk (ly _)).mk (by decide)
 have hd5:∀ k,a6 kD.data.toList k (a7 (x1++(x2++(x3++(x4++x5)))))=a6 kD.data.toList k (a7 x5):=by
  intro k;have e1:∀ ts,a6 kD.data.toList k (a7 x1++ts)=a6 kD.data.toList k ts:=by intro ts;rw [hx1];simp [a7,dH.toks,a6,kI,kD,yP]
  rw [cv,e1,cv,cv,cv,hx2,hx3,hx4];exact (lU _ _ _ _ _ (by decide)).trans ((lU _ _ _ _ _ (by decide)).trans (lU _ _ _ _ _ (by decide)))
 refine ⟨?_,?_,?_,?_,?_,fun a=>ha.plainly a⟩
 ·refine gm _ _ 0 hs' ho (by decide) ?_ (by decide);simp only [cv,Zu,not_or,hx2,hx3,hx4];refine ⟨?_,fL _ _ _ (by decide),fL _ _ _ (by decide),fL _ _ _ (by decide),?_⟩ <;> simp [a7,dH.toks,hx1,hx5,kF,kI,kD,lN,gj]
 ·refine gm _ _ 0 hs' ho (by decide) ?_ (by decide);simp only [cv,Zu,not_or,hx2,hx3,hx4];refine ⟨?_,fL _ _ _ (by decide),fL _ _ _ (by decide),fL _ _ _ (by decide),?_⟩ <;> simp [a7,dH.toks,hx1,hx5,kT,kI,kD,lN,gj]
 ·refine ja _ _ 0 [91] hs' ho ?_;rw [hd5,hx5];simp [a7,dH.toks,a6]
 ·refine ja _ _ 0 (bc t) hs' ho ?_;rw [cv,hx1];simp [a7,dH.toks,a6,kI]
 ·refine ja _ _ 1 (Lib.itoa ((fp+p:Nat):Int)) hs' ho ?_;rw [hd5,hx5];simp [a7,dH.toks,a6]
structure sB (s:ByteArray) (t:List UInt8):Prop where
 f:j9 s kF 0=⟨#[]⟩
 ty:j9 s kT 0=⟨#[]⟩
 d:j9 s kD 0=⟨#[]⟩
 i:j9 s kI 0=⟨(bc t).toArray⟩
 pl:∀ a,fa (s.data.toList.drop a)
theorem D7 {s:ByteArray} (t:List UInt8) (hs:s.data.toList=vx t):sB s t:=by
 obtain ⟨x1,hx1⟩:∃ x,x=[dH.w [60,60] [32],.w kI.data.toList [32],.q t [32]]:=⟨_,rfl⟩;have hs':s.data.toList=h_ x1++[62,62]:=by rw [hs,vx,hx1];simp [h_,dH.text,kI]
 have ho:jO x1=true:=by rw [hx1];rfl
 have ha:ir s.data.toList:=by rw [hs];exact ((show ir _ by decide).mk (py _)).mk (by decide)
 refine ⟨?_,?_,?_,?_,fun a=>ha.plainly a⟩
 ·exact gm _ _ 0 hs' ho (by decide) (by simp [a7,dH.toks,hx1,kF,kI,lN]) (by decide)
 ·exact gm _ _ 0 hs' ho (by decide) (by simp [a7,dH.toks,hx1,kT,kI,lN]) (by decide)
 ·exact gm _ _ 0 hs' ho (by decide) (by simp [a7,dH.toks,hx1,kD,kI,lN]) (by decide)
 ·exact ja _ _ 0 (bc t) hs' ho (by simp [a7,dH.toks,a6,hx1,kI])
def qw (n:Nat) (Z:List UInt8):List UInt8:=cX n++(Z++[10,101,110,100,115,116,114,101,97,109])
structure F8 (s:ByteArray):Prop where
 f:j9 s kF 0=⟨#[47,70,108,97,116,101,68,101,99,111,100,101]⟩
 pl:∀ a,fa (s.data.toList.drop a)
theorem Fq {s:ByteArray} (n:Nat) (Z:List UInt8) (hs:s.data.toList=qw n Z):F8 s:=by
 refine ⟨ja [.w [60,60] [32],.w kF.data.toList [32],.w [47,70,108,97,116,101,68,101,99,111,100,101] [32]] ([47,76,101,110,103,116,104,32]++aD (n:Int)++[32,62,62,10,115,116,114,101,97,109,10]++(Z++[10,101,110,100,115,116,114,101,97,109])) 0 [47,70,108,97,116,101,68,101,99,111,100,101] ?_ (by decide) (by decide),?_⟩
 ·rw [hs,qw,cX];simp [h_,dH.text,kF]
 ·intro a;rw [hs,qw, <-ZS];by_cases h:a<=(cX n++Z).length+1
  ·left;simp at h ⊢;omega
  ·right;obtain ⟨j,rfl⟩:∃ j,a=(cX n++Z).length+j:=⟨a - (cX n++Z).length,by omega⟩;rw [List.drop_length_add_append];intro c hc;have:=List.mem_of_mem_drop hc;exact (show ir [10,101,110,100,115,116,114,101,97,109] by decide) c this
def kQ:Nat->List (List UInt8)->List (List UInt8)
 | _,[]=>[]
 | i,Z::r=>qw (2*i+2) Z::Lib.itoa (Z.length:Int)::kQ (i+1) r
theorem xp (i:Nat) (Z:List UInt8):d_ i Z=aK (2*i+1) (qw (2*i+2) Z)++aK (2*i+2) (Lib.itoa (Z.length:Int)):=by
 have e:fC=[10,101,110,100,115,116,114,101,97,109]++eh:=rfl;simp only [d_,aK,qw,e,ZS]
theorem qx:∀ (Zs:List (List UInt8)) (i:Nat),bW i Zs=aF (2*i+1) (kQ i Zs)
 | [],_=>rfl
 | Z::r,i=>by
  have ih:=qx r (i+1);simp only [bW,kQ,aF,ih,xp,ZS];congr 2
theorem uu:∀ (Zs:List (List UInt8)) (a i:Nat),be a i Zs=aO a (2*i+1) (kQ i Zs)
 | [],_,_=>rfl
 | Z::r,a,i=>by
  have ih:=uu r (a+(d_ i Z).length) (i+1);have e:fC=[10,101,110,100,115,116,114,101,97,109]++eh:=rfl;have e1:(aL (2*i+1)++(cX (2*i+2)++(Z++fC))).length=(aK (2*i+1) (qw (2*i+2) Z)).length:=by
   simp only [aK,qw,e,ZS]
  simp only [be,sF,kQ,aO,ih,e1,ZE,Zq];congr 3;rw [xp,ZY,show 2*i+1+1=2*i+2 from rfl];omega
theorem oD:∀ (Zs:List (List UInt8)) (i:Nat),(kQ i Zs).length=2*Zs.length
 | [],_=>rfl
 | Z::r,i=>by simp only [kQ,ZX,oD r (i+1)];omega
theorem gu:∀ (l m:List (List UInt8)) (a n:Nat),aO a n (l++m)=aO a n l++aO (a+(aF n l).length) (n+l.length) m
 | [],m,a,n=>by simp [aO,aF]
 | b::l,m,a,n=>by
  simp only [ZE,aO,aF,gu l m,ZY,ZX];congr 3 <;> omega
def bX (Zs:List (List UInt8)) (zs:List (Int×Int)) (ms:List (List UInt8×Nat)) (t:List UInt8):List (List UInt8):=kQ 0 Zs++cI (cK Zs) zs ms t
variable (Zs:List (List UInt8)) (zs:List (Int×Int)) (ms:List (List UInt8×Nat)) (t:List UInt8)
theorem jt:eH Zs zs ms t=aO 9 1 (bX Zs zs ms t):=by
 have e:(aC Zs).length=9+(aF 1 (kQ 0 Zs)).length:=by rw [aC,qx,ZY];rfl
 have e2:cK Zs=1+(kQ 0 Zs).length:=by rw [oD,cK];omega
 rw [bX,gu, <-e, <-e2];unfold eH;rw [uu]
def ft:List UInt8:=bi++aF 1 (bX Zs zs ms t)
theorem CE:aC Zs++dv Zs zs ms t=ft Zs zs ms t:=by
 have e2:cK Zs=1+(kQ 0 Zs).length:=by rw [oD,cK];omega
 unfold ft bX;rw [dX, <-e2,aC,qx,ZS];rfl
def EK:List UInt8:=bR (eH Zs zs ms t)++iL ((eH Zs zs ms t).length+1) (l7 (cK Zs) zs ms t) (fo (cK Zs) zs ms t)
def FR:List UInt8:=[120,114,101,102]++10::([48,32]++Lib.itoa (((eH Zs zs ms t).length+1:Nat):Int)++10::([48,48,48,48,48,48,48,48,48,48,32,54,53,53,51,53,32,102,32]++10::EK Zs zs ms t))
def D1 (n:Nat):List UInt8:=Lib.itoa (n:Int)++10::[37,37,69,79,70,10]
def Gn:List UInt8:=[115,116,97,114,116,120,114,101,102,10]
theorem xA:fO Zs zs ms t=ft Zs zs ms t++(FR Zs zs ms t++(Gn++D1 (ft Zs zs ms t).length)):=by
 have e:fO Zs zs ms t=(aC Zs++dv Zs zs ms t)++iE (eH Zs zs ms t) (l7 (cK Zs) zs ms t) (fo (cK Zs) zs ms t) ((aC Zs++dv Zs zs ms t).length):=by
  rw [ZY,ZS];rfl
 rw [e,CE];unfold iE fu FR EK D1 Gn;simp [ZS]
theorem xf:∀ (l:List (List UInt8)) (a n k:Nat) (hk:k < l.length),(aO a n l)[k]? =some (a+(aF n (l.take k)).length)
 | [],_,_,k,hk=>absurd hk (by simp)
 | b::r,a,n,0,_=>by simp [aO,aF]
 | b::r,a,n,k+1,hk=>by
  have:=xf r (a+(aK n b).length) (n+1) k (by simpa using hk);simp only [aO,List.getElem?_cons_succ,this,List.take_succ_cons,aF,ZY];congr 1;omega
theorem yz (l:List (List UInt8)) (n k:Nat) (hk:k < l.length):aF n l=aF n (l.take k)++(aK (n+k) l[k]++aF (n+k+1) (l.drop (k+1))):=by
 conv=>lhs;rw [<-Yq k l,Zn hk]
 rw [dX,Ze,Yr (by omega)];rfl
theorem q6 (l:List UInt8) (h0:l≠[]) (hl:∀ c∈l,48<=c.toNat/\c.toNat<=57):Lib.atoi l=some ((fS l:Nat):Int):=by
 cases l with
 | nil=>exact absurd rfl h0
 | cons c r=>
  have hc:=hl c (ZB _);show (if c==45 then _ else if c==43 then _ else (Lib.decNat (c::r)).map (fun (m:Nat)=>(m:Int)))=_
  rw [ZO (by intro e;have:=congrArg UInt8.toNat (beq_iff_eq.1 e);simp at this;omega),ZO (by intro e;have:=congrArg UInt8.toNat (beq_iff_eq.1 e);simp at this;omega)];unfold Lib.decNat;rw [ZO (by simp),l_ _ _ hl];rfl
theorem CF (n:Nat):Lib.atoi (Lib.itoa (n:Int))=some (n:Int):=by
 rw [fy,q6 _ (by rw [<-fy];exact sM _) (mV n)];rw [show fS (Lib.decDigits n)=n from mF n]
theorem wC:∀ (k:Nat),∀ c∈Lib.repeatL [48] k,c=48
 | 0,c,h=>by simp [Lib.repeatL] at h
 | k+1,c,h=>by
  simp [Lib.repeatL] at h;exact h.elim id (wC k c)
theorem EI (k:Nat):(Lib.repeatL [48] k).foldl (fun n c=>10*n+(c.toNat - 48)) 0=0:=by
 have gen:∀ l:List UInt8,(∀ c∈l,c=48)->l.foldl (fun n (c:UInt8)=>10*n+(c.toNat - 48)) 0=0:=by
  intro l;induction l with
  | nil=>intro _;rfl
  | cons c r ih=>
   intro h;have hc:=h c (ZB _);subst hc;exact ih (fun c hc=>h c (List.mem_cons_of_mem _ hc))
 exact gen _ (wC k)
theorem EW (n:Nat):∀ c∈gr n,48<=c.toNat/\c.toNat<=57:=by
 intro c hc;rcases Zu.1 hc with h | h
 ·rw [wC _ c h];decide
 ·rw [fy] at h;exact mV n c h
theorem DO (n:Nat):Lib.atoi (gr n)=some (n:Int):=by
 rw [q6 _ (by unfold gr;simp [sM]) (EW n)];unfold fS gr;rw [List.foldl_append,EI,fy];rw [show List.foldl (fun n (c:UInt8)=>10*n+(c.toNat - 48)) 0 (Lib.decDigits n)=n from mF n]
theorem A7 (s sub:List UInt8) (p k:Nat) (hp:p < k) (h:Lib.occAt s sub p=true) (hn:∀ j,p < j->j < k->Lib.occAt s sub j=false):Lib.lastOcc s sub k=p:=by
 induction k with
 | zero=>omega
 | succ k ih=>
  by_cases e:k=p
  ·subst e;exact Lib.lastOcc_hit s sub k h
  ·rw [Lib.lastOcc_miss s sub k (hn k (by omega) (by omega))];exact ih (by omega) (fun j h1 h2=>hn j h1 (by omega))
theorem wq (a t:List UInt8) (h:(115:UInt8) ∉ t):Lib.lastIndex (a++(Gn++t)) Gn=(a.length:Int):=by
 unfold Lib.lastIndex;have hl:Gn.length=10:=rfl;rw [ZN (by simp only [ZY];omega)];refine A7 _ _ a.length _ (by simp only [ZY];omega) ?_ ?_
 ·unfold Lib.occAt;rw [List.drop_left,List.isPrefixOf_iff_prefix];exact YP _ _
 ·intro j hj hk;unfold Lib.occAt;obtain ⟨i,rfl⟩:∃ i,j=a.length+(i+1):=⟨j - a.length - 1,by omega⟩;rw [List.drop_length_add_append];have hno:(115:UInt8) ∉ (Gn++t).drop (i+1):=by
   intro hm;have:(115:UInt8)∈([116,97,114,116,120,114,101,102,10]++t).drop i:=hm;rcases Zu.1 (List.mem_of_mem_drop this) with h1 | h1
   ·exact absurd h1 (by decide)
   ·exact h h1
  cases hx:(Gn++t).drop (i+1) with
  | nil=>rfl
  | cons c r=>
   rw [hx] at hno;have hc:(115:UInt8)≠c:=fun e=>hno (by rw [e];exact ZB _)
   show (List.isPrefixOf (115::_) (c::r))=false
   simp [List.isPrefixOf,hc]
theorem Fg (n:Nat):(115:UInt8) ∉ D1 n:=by
 unfold D1;intro h;rcases Zu.1 h with h | h
 ·have:=lr _ _ h;revert this;decide
 ·revert h;decide
theorem oN (z:Int):(10:UInt8) ∉ Lib.itoa z:=by
 intro h;have:=lr _ _ h;revert this;decide
def EO:List (Nat×Int×Int)->List Value
 | []=>[]
 | z::r=>.int .i64 (z.1:Int)::.int .i64 z.2.1::.int .i64 z.2.2::EO r
theorem EQ (l:List (Nat×Int×Int)) (z:Nat×Int×Int):EO (l++[z])=EO l++[.int .i64 (z.1:Int),.int .i64 z.2.1,.int .i64 z.2.2]:=by
 induction l with
 | nil=>rfl
 | cons a r ih=>simp only [ZE,EO,ih]
theorem wD:∀ (l:List (Nat×Int×Int)) (i:Nat) z,l[i]? =some z->(EO l)[i*3]? =some (.int .i64 (z.1:Int))/\(EO l)[i*3+1]? =some (.int .i64 z.2.1)/\(EO l)[i*3+2]? =some (.int .i64 z.2.2)
 | [],i,z,h=>by simp at h
 | a::r,0,z,h=>by simp at h;subst h;exact ⟨rfl,rfl,rfl⟩
 | a::r,i+1,z,h=>by
  have:=wD r i z (by simpa using h);have e:(i+1)*3=i*3+1+1+1:=by omega
  rw [e];exact this
theorem Tryz.infoSh:(Tryz.prog.info? 193).map (fun i=>(i.zero,i.size,i.bytes))=some (some (.agg #[oz,oz,oz]),3,24):=by kernel_rfl
theorem Tryz.infoMk3:(Tryz.prog.info? 98).map (fun i=>(i.zero,i.size,i.bytes))=some (some (.agg #[.string ⟨#[]⟩,oz]),2,24):=by kernel_rfl
structure ip where
 (ti:ByteArray)
 (sh:List (Nat×Int×Int))
 (cs:List (List UInt8))
 (ms:List (ByteArray×Nat))
def io (B:Nat) (x:ip) (vs vc vm:Value):As:=ah (aW B 193 3 vs x.sh.length (EO x.sh)) (ah (aW B 9 1 vc x.cs.length (gl x.cs)) (aW B 98 2 vm x.ms.length (iz x.ms)))
theorem io.thing (B:Nat) (x:ip) (vs vc vm:Value):aJ B (io B x vs vc vm):=ah.thing (aW.thing _ _ _ _ _ _) (ah.thing (aW.thing _ _ _ _ _ _) (aW.thing _ _ _ _ _ _))
def cw (B l:Nat) (x:ip):As:=fun w S=>∃ v:Value×Value×Value,ah (aS B l [.string x.ti,v.1,v.2.1,v.2.2]) (io B x v.1 v.2.1 v.2.2) w S
theorem cw.thing (B l:Nat) (x:ip):aJ B (cw B l x):=aJ.any fun _=>ah.thing (aS.thing _ _ _) (io.thing _ _ _ _ _)
theorem cw.new {B:Nat} {w:World} (hB:B<=w.heap.size):∃ S,cw B w.heap.size ⟨⟨#[]⟩,[],[],[]⟩ (w.alloc (.cells #[.string ⟨#[]⟩,.slice none 0 0,.slice none 0 0,.slice none 0 0] 148)) S/\∀ k,S k->k=w.heap.size:=by
 have e:∀ k,¬ ob (.slice none 0 0) k:=fun k h=>by simp [ob,Value.ownBlock] at h
 refine ⟨cT (cC w.heap.size) (cT (ob (.slice none 0 0)) (cT (ob (.slice none 0 0)) (ob (.slice none 0 0)))),⟨(.slice none 0 0,.slice none 0 0,.slice none 0 0),cC w.heap.size,_,aS.alloc (vs:=[.string ⟨#[]⟩,.slice none 0 0,.slice none 0 0,.slice none 0 0]) hB,⟨_,_,aW.nil _ _ _ _,⟨_,_,aW.nil _ _ _ _,aW.nil _ _ _ _,fun k a=>absurd a (e k),rfl⟩,fun k a=>absurd a (e k),rfl⟩,?_,rfl⟩,?_⟩
 ·rintro k _ (a | a | a) <;> exact e k a
 ·rintro k (a | a | a | a)
  ·exact a
  all_goals exact absurd a (e k)
theorem uI (c:UInt8) (r b:List UInt8):∀ a:List UInt8,c ∉ a->Lib.index (a++(c::r++b)) (c::r)=(a.length:Int)
 | [],_=>by
  show Lib.index (c::(r++b)) (c::r)=0
  unfold Lib.index;rw [ZN (by rw [List.isPrefixOf_iff_prefix];exact YP (c::r) b)]
 | x::l,h=>by
  have hb:c≠x:=fun e=>h (by rw [e];exact ZB _)
  have ih:=uI c r b l (fun e=>h (List.mem_cons_of_mem _ e));rw [ZE];unfold Lib.index;rw [ZO (by simp [List.isPrefixOf,hb]),ZO (by rw [ih];simp),ih];simp
theorem E' (c:UInt8) (r a b:List UInt8) (h:c ∉ a):Lib.cut (a++(c::r++b)) (c::r)=(a,b,true):=by
 unfold Lib.cut;rw [uI c r b a h,ZN (by omega)];simp only [Int.toNat_natCast,List.take_left, <-List.drop_drop,List.drop_left]
theorem C4 (z:Int):(10:UInt8) ∉ aD z:=by
 unfold aD;intro h;rcases Zu.1 h with h | h
 ·exact oN _ h
 ·revert h;decide
theorem DU (n:Nat) (Z:List UInt8):∃ a,Lib.cut (qw n Z) [10,115,116,114,101,97,109,10]=(a,Z++[10,101,110,100,115,116,114,101,97,109],true):=by
 refine ⟨[60,60,32,47,70,105,108,116,101,114,32,47,70,108,97,116,101,68,101,99,111,100,101,32,47,76,101,110,103,116,104,32]++aD (n:Int)++[32,62,62],?_⟩;have:=E' 10 [115,116,114,101,97,109,10] ([60,60,32,47,70,105,108,116,101,114,32,47,70,108,97,116,101,68,101,99,111,100,101,32,47,76,101,110,103,116,104,32]++aD (n:Int)++[32,62,62]) (Z++[10,101,110,100,115,116,114,101,97,109]) (by
  intro h;rcases Zu.1 h with h | h
  ·rcases Zu.1 h with h | h
   ·revert h;decide
   ·exact C4 _ h
  ·revert h;decide)
 rw [<-this];congr 1;simp [qw,cX]
theorem cw.open {B l:Nat} {x:ip} {w:World} {S:Bl} (h:cw B l x w S):∃ aa ks ac kc am km,ah (aS B l [.string x.ti,.slice aa x.sh.length ks,.slice ac x.cs.length kc,.slice am x.ms.length km]) (io B x (.slice aa x.sh.length ks) (.slice ac x.cs.length kc) (.slice am x.ms.length km)) w S:=by
 obtain ⟨⟨vs,vc,vm⟩,h⟩:=h;obtain ⟨S1,S2,h1,⟨S3,S4,h3,⟨S5,S6,h5,h6,_⟩,_⟩,_⟩:=id h;obtain ⟨aa,ks,e1⟩:=h3.form;obtain ⟨ac,kc,e2⟩:=h5.form;obtain ⟨am,km,e3⟩:=h6.form;dsimp only at e1 e2 e3 h;subst e1 e2 e3;exact ⟨aa,ks,ac,kc,am,km,h⟩
theorem qK (w:World) (B l n cap m0:Nat) (ad:Option Addr) (xs:List Value) (body:ByteArray) (a Z:List UInt8) (ZZ:Ending->World->Prop) (hn:n<=1000) (hl:l < w.heap.size) (hB:B<=w.heap.size) (c2:w.cell? (zq l 2)=some (.slice ad n cap)) (f2:w.frozen? (zq l 2)=false) (ow:w.ownsRow B 9 1 (.slice ad n cap) n xs) (ne:(Value.slice ad n cap).ownBlock≠some l)
  (HC:Hid (CP 221 #[body,.string ⟨#[10,115,116,114,101,97,109,10]⟩] w fun e w'=>e=.returned (.tuple #[.string ⟨a.toArray⟩,.string ⟨(Z++[10,101,110,100,115,116,114,101,97,109]).toArray⟩,.bool true])/\∃ n,w'=w.drewN n))
  (HT:Hid (∀ w1,QE 222 #[.string ⟨(Z++[10,101,110,100,115,116,114,101,97,109]).toArray⟩,.string ⟨#[10,101,110,100,115,116,114,101,97,109]⟩] w1 (.string ⟨Z.toArray⟩)))
  (HZ:Hid (∀ v w7,w.grownBy w7 (Value.slice ad n cap).ownBlock->gq w (Value.slice ad n cap).ownBlock B 9 1 (n+1) (xs++[.string ⟨Z.toArray⟩]) v w7->∀ u,ZZ (.returned u) (w7.setCell (zq l 2) v))):
  CP 190 #[zp l,body] w ZZ:=by
 go_enter func190,ntmps190
 go_wp2_with fail
 refine HC.out.mono ?_;rintro e w1 ⟨rfl,qn,rfl⟩;go_wp2_with fail
 replace c2:(w.drewN qn).cell? (zq l 2)=some (.slice ad n cap):=c2;replace f2:(w.drewN qn).frozen? (zq l 2)=false:=f2;replace hl:l < (w.drewN qn).heap.size:=hl;replace hB:B<=(w.drewN qn).heap.size:=hB;replace ow:(w.drewN qn).ownsRow B 9 1 (.slice ad n cap) n xs:=ow;have HZ9:Hid (∀ v w7,(w.drewN qn).grownBy w7 (Value.slice ad n cap).ownBlock->gq (w.drewN qn) (Value.slice ad n cap).ownBlock B 9 1 (n+1) (xs++[.string ⟨Z.toArray⟩]) v w7->∀ u,ZZ (.returned u) (w7.setCell (zq l 2) v)):=fun v w7 hg ha=>HZ.out v w7 ⟨hg.os,hg.tape,hg.output,hg.size,hg.block⟩ ha
 clear HZ HC;generalize w.drewN qn=wa at c2 f2 hl hB ow HZ9 ⊢;refine cW 9 _ 8 (fun w w'=>w.grownBy w' (Value.slice ad n cap).ownBlock) (pK wa [.pointer (some ⟨l,0,none⟩),.pointer (some ⟨l,0,none⟩),.pointer (some ⟨l,0,none⟩),.pointer (some ⟨l,2,none⟩),.slice ad n cap,.string ⟨(Z++[10,101,110,100,115,116,114,101,97,109]).toArray⟩,.string ⟨Z.toArray⟩,undef,undef] 7 8 [.string ⟨Z.toArray⟩] (Value.slice ad n cap).ownBlock B 9 1 (n+1) (xs++[.string ⟨Z.toArray⟩])) (by kernel_rfl) rfl (by kernel_rfl) (lT _) (fun _ _ _=>lV) (fun _ _ _=>fE) pZ kE ?_;simp only [TD];refine ⟨aB (by decide) fun w1 hG hd=>?_,fun v0=>?_⟩
 ·clear hd;go_wp2;exact RG
 simp only [TN];refine ⟨aB (by decide) fun w1 hG hd=>?_,fun v1=>?_⟩
 ·clear hd;go_wp2;exact RG
 simp only [TN];refine ⟨aB (by decide) fun w1 hG hd=>?_,fun v2=>?_⟩
 ·have d1:v1=.pointer (some ⟨l,0,none⟩):=hd ⟨1,.data⟩ (by simp) rfl;clear hd;subst d1;go_wp2;exact RG
 simp only [TN];refine ⟨aB (by decide) fun w1 hG hd=>?_,fun v3=>?_⟩
 ·have d2:v2=.pointer (some ⟨l,0,none⟩):=hd ⟨2,.data⟩ (by simp) rfl;clear hd;subst d2;go_wp2;exact RG
 simp only [TN];refine ⟨aB (by decide) fun w1 hG hd=>?_,fun v4=>?_⟩
 ·have d3:v3=.pointer (some ⟨l,2,none⟩):=hd ⟨3,.data⟩ (by simp) rfl;clear hd;subst d3;have c:=(ZQ (a:=zq l 2) (hG.block l hl (fun e=>ne e.symm))).trans c2;go_wp2;exact RG
 simp only [TN];refine ⟨aB (by decide) fun w1 hG hd=>?_,fun v5=>?_⟩
 ·clear hd;go_wp2;exact RG
 simp only [TN];refine ⟨aB (by decide) fun w1 hG hd=>?_,fun v6=>?_⟩
 ·have d5:v5=.string ⟨(Z++[10,101,110,100,115,116,114,101,97,109]).toArray⟩:=hd ⟨5,.data⟩ (by simp) rfl;clear hd;subst d5;have HX:=ai (HT.out w1);go_wp2_with fail
  refine HX.out.mono ?_;rintro e w2 ⟨rfl,rfl⟩;go_wp2;exact RG
 simp only [TN];refine ⟨aB (by decide) fun w1 hG hd=>?_,fun v7=>?_⟩
 ·have d6:v6=.string ⟨Z.toArray⟩:=hd ⟨6,.data⟩ (by simp) rfl;clear hd;subst d6;go_wp2;exact ⟨jI _ _ (fun k hk=>ZK (ow.lt k hk).2 (World.grownBy.size hG)),(ZT _ _).alloc (ZW _) _⟩
 simp only [TN];refine ⟨dO rfl fun w1 hG hd=>?_,fun v8=>?_⟩
 ·have d4:v4=.slice ad n cap:=hd ⟨4,.data⟩ (by simp) rfl;have d7:pO _ _ v7 w1:=hd ⟨7,.data⟩ (by simp) rfl;clear hd;subst d4;exact nJ rfl (.tmp 17) (.tmp 20) 47 rfl 9 (.string ⟨#[]⟩) 1 16 Tryz.infoStr rfl (by omega) underlying47 B (Value.slice ad n cap) n (xs) rfl ow hB hG v7 rfl [.string ⟨Z.toArray⟩] d7 rfl (by intro u hu;simp at hu;subst hu;rfl) (by omega) (by omega) ⟨_,rfl,by simp [Act.put]⟩
 simp only [TN];intro w7 hG hd;have d0:v0=.pointer (some ⟨l,0,none⟩):=hd 0 (by omega);have d8:gq _ _ _ _ _ _ _ v8 w7:=hd 8 (by omega);subst d0;obtain ⟨ad7,cap7,hv7⟩:=d8.form;subst hv7;have HX:=ai (HZ9.out _ w7 hG d8);have hb:=hG.block l hl (fun e=>ne e.symm);have k2:=(ZQ (a:=zq l 2) hb).trans c2;have kf:=(ZH (a:=zq l 2) hb).trans f2;clear hd HZ9 d8 hG hb c2 ow f2;go_wp2_with fail
 go_end0;exact HX.out _
theorem rU (w:World) (B l:Nat) (x:ip) (S:Bl) (body:ByteArray) (n:Nat) (Z:List UInt8) (hb:body.data.toList=qw n Z) (hsz:body.size<=2000000000) (hcl:x.cs.length<=1000) (hB:B<=w.heap.size) (hm:fH B w) (h:cw B l x w S):
  CP 190 #[zp l,body] w fun e w'=>(∃ v,e=.returned v)/\∃ S',cw B l {x with cs:=x.cs++[Z]} w' S'/\Mv S w S' w':=by
 obtain ⟨a,ha⟩:=DU n Z;obtain ⟨_,m,hmc⟩:=hm;have HC:=Tryz.strings_Cut body ⟨#[10,115,116,114,101,97,109,10]⟩ m w (by omega) hmc;rw [hb] at HC;simp only [ha] at HC;have hzl:(Z++[10,101,110,100,115,116,114,101,97,109]).length<=2000000000:=by
  have:=congrArg List.length hb;rw [aP] at this;simp only [qw,ZY] at this ⊢;omega
 have HT:=fun w1=>Tryz.strings_TrimSuffix ⟨(Z++[10,101,110,100,115,116,114,101,97,109]).toArray⟩ ⟨#[10,101,110,100,115,116,114,101,97,109]⟩ w1 (by rw [ae];omega)
 simp only [od] at HT;obtain ⟨aa,ks,ac,kc,am,km,h⟩:=h.open;obtain ⟨c2,ow,ne,f2,hl,hgr⟩:=mi (i:=2) (ah.thing (aW.thing _ _ _ _ _ _) (aW.thing _ _ _ _ _ _)) rfl (ah.mapR h fun _ _ k=>ah.turn k);refine qK w B l x.cs.length kc 0 ac (gl x.cs) body a Z _ hcl hl hB c2 f2 ow ne HC HT ?_;intro v w7 hg ha u;obtain ⟨S',h',m'⟩:=hgr _ _ v w7 hg ha;refine ⟨⟨u,rfl⟩,S',⟨(.slice aa x.sh.length ks,v,.slice am x.ms.length km),?_⟩,m'⟩;have e:gl (x.cs++[Z])=gl x.cs++[.string ⟨Z.toArray⟩]:=by simp [gl]
 have h9:=ah.mapR h' fun _ _ k=>ah.turn k
 unfold io;dsimp only;rw [e,ZY];exact h9
theorem zM (w:World) (l:List Value) (t:TypeId):∀ j u,l[j]? =some u->(w.alloc (.cells l.toArray t)).cell? ((⟨w,0,none⟩:Addr).add j)=some u:=by
 intro j u h;have:=(aS.alloc (B:=0) (vs:=l) (w:=w) (t:=t) (YO _)).at j u h;have e:(⟨w,0,none⟩:Addr).add j=⟨w,j,none⟩:=by
  unfold Addr.add;split
  ·next h=>rw [h]
  ·simp
 rw [e];exact this
theorem vC {wx w7:World} {o:Obj} {v v7:Value} {B:Nat} {e:TypeId} {z n:Nat} {xs:List Value} (hO:w7.ownsRow B e z v7 n xs) (hg:(wx.alloc o).grownBy w7 v.ownBlock) (hat:v7.ownBlock=v.ownBlock\/v7.ownBlock=some (wx.heap.size+1)):wx.grownBy w7 v.ownBlock/\gq wx v.ownBlock B e z n xs v7 w7:=by
 refine ⟨fE (row:=v.ownBlock) ((ZT _ wx).alloc (ZW _) o) hg,hO,?_⟩;rcases hat with h | h
 ·exact .inl h
 ·exact .inr ⟨_,h,by omega⟩
theorem tA (w:World) (B l n cap cL:Nat) (ad:Option Addr) (xs:List Value) (body vw vh:ByteArray) (W H:Int) (ZZ:Ending->World->Prop) (hn:n < 80) (hnum:cL<=100000) (hW:decide (1<=W/\W<=14400000)=true) (hH:decide (1<=H/\H<=14400000)=true) (hl:l < w.heap.size) (hB:B<=w.heap.size) (c1:w.cell? (zq l 1)=some (.slice ad n cap)) (f1:w.frozen? (zq l 1)=false) (ow:w.ownsRow B 193 3 (.slice ad n cap) n xs) (ne:(Value.slice ad n cap).ownBlock≠some l)
  (HV3:Hid (∀ wx,af w wx->QB 189 #[body,.string ⟨#[47,77,101,100,105,97,66,111,120]⟩,(3:Int)] wx vw))
  (HV4:Hid (∀ wx,af w wx->QB 189 #[body,.string ⟨#[47,77,101,100,105,97,66,111,120]⟩,(4:Int)] wx vh))
  (HLw:Hid (∀ wx,af w wx->QB 224 #[vw] wx (.tuple #[W,true])))
  (HLh:Hid (∀ wx,af w wx->QB 224 #[vh] wx (.tuple #[H,true])))
  (HZ:Hid (∀ v wx w7,af w wx->wx.grownBy w7 (Value.slice ad n cap).ownBlock->gq wx (Value.slice ad n cap).ownBlock B 193 3 (n+1) (xs++[.int .i64 (cL:Int),.int .i64 W,.int .i64 H]) v w7->ZZ (.returned true) (w7.setCell (zq l 1) v))):
  CP 191 #[zp l,(cL:Int),body] w ZZ:=by
 have HS1:=ai (fun wx=>dW wx W);have HS2:=ai (fun wx=>dW wx H);go_enter func191,ntmps191
 go_wp2_with fail
 refine (HV3.out _ (af.refl _)).mono ?_;rintro e w1 ⟨rfl,hb1⟩;go_wp2_with fail
 refine (HLw.out _ hb1).mono ?_;rintro e w2 ⟨rfl,hb2⟩;replace hb2:=af.trans hb1 hb2;go_wp2_with fail
 refine (HV4.out _ hb2).mono ?_;rintro e w3 ⟨rfl,hb3⟩;replace hb3:=af.trans hb2 hb3;go_wp2_with fail
 refine (HLh.out _ hb3).mono ?_;rintro e w4 ⟨rfl,hb4⟩;replace hb4:=af.trans hb3 hb4;replace c1:w4.cell? (zq l 1)=some (.slice ad n cap):=(Zc hb4 (p:=zq l 1) hl).trans c1;clear HV3 HV4 HLw HLh hb1 hb2 hb3;replace f1:w4.frozen? (zq l 1)=false:=(Below.frozen hb4 (p:=zq l 1) hl).trans f1;replace ow:w4.ownsRow B 193 3 (.slice ad n cap) n xs:=oY ow hb4;replace hB:B<=w4.heap.size:=ZU hB hb4.size;replace hl:l < w4.heap.size:=ZK hl hb4.size;rw [hW] at HS1;rw [hH] at HS2;have dn:((n:Int)==80)=false:=by simp;omega
 go_wp2_with fail
 refine (HS1.out _).mono ?_;rintro e w5 ⟨rfl,rfl⟩;go_wp2_with fail
 refine (HS2.out _).mono ?_;rintro e w6 ⟨rfl,rfl⟩;clear HS1 HS2;go_wp2_with (at_builtin;refine bQ rfl (.tmp 43) (.tmp 48) 146 rfl 193 (.agg #[oz,oz,oz]) 3 24 Tryz.infoSh rfl (by omega) underlying146 B _ n xs rfl (ow.alloc _) (by simp;omega) ⟨w6,0,none⟩ 1 rfl [.int .i64 (cL:Int),.int .i64 W,.int .i64 H] rfl (zM w6 _ _) (by intro u hu;simp at hu;rcases hu with rfl | rfl | rfl <;> rfl) (by omega) (by omega) ?_)
 intro v7 w7 hO7 hg7 hat7;obtain ⟨hg8,ha8⟩:=vC hO7 hg7 hat7;have HX:=ai (HZ.out _ w6 w7 hb4 hg8 ha8);obtain ⟨ad7,cap7,hv7⟩:=ha8.form;subst hv7;have kb:=hg8.block l hl (fun e=>ne e.symm);have k1:=(ZQ (a:=zq l 1) kb).trans c1;have kf1:=(ZH (a:=zq l 1) kb).trans f1;clear kb c1 f1 ow hO7 hg7 hat7 HZ ha8 hg8;go_wp2
 first
  | exact HX.out
  | (go_ret;exact HX.out)
theorem uj (w:World) (B l cL:Nat) (x:ip) (S:Bl) (body:ByteArray) (W H:Int) (hp:zw body W H) (hsz:body.size<=2000000000) (hW:bG W 1 14400000) (hH:bG H 1 14400000) (hcl:x.sh.length < 80) (hnum:cL<=100000) (hB:B<=w.heap.size) (ht:bU B w) (hm:fH B w) (h:cw B l x w S):
  CP 191 #[zp l,(cL:Int),body] w fun e w'=>e=.returned true/\∃ S',cw B l {x with sh:=x.sh++[(cL,W,H)]} w' S'/\Mv S w S' w':=by
 obtain ⟨aa,ks,ac,kc,am,km,h⟩:=h.open;obtain ⟨c1,ow,ne,f1,hl,_⟩:=mi (i:=1) (ah.thing (aW.thing _ _ _ _ _ _) (aW.thing _ _ _ _ _ _)) rfl h;have hb:∀ wx,af w wx->B<=wx.heap.size/\bU B wx/\fH B wx:=fun wx hg=>⟨ZU hB hg.size,ht.on (YY hg hB),hm.on (YY hg hB)⟩
 have hV:=fun (k:Nat) (hk:k<=100) wx=>ex body kM k wx hsz hk hp.pl
 refine tA w B l x.sh.length ks cL aa (EO x.sh) body ⟨(bJ W).toArray⟩ ⟨(bJ H).toArray⟩ W H _ hcl hnum (Zt hW) (Zt hH) hl hB c1 f1 ow ne ?_ ?_ ?_ ?_ ?_
 ·intro wx _;have:=hV 3 (by omega) wx;rw [hp.w] at this;exact this
 ·intro wx _;have:=hV 4 (by omega) wx;rw [hp.h] at this;exact this
 ·intro wx hg;obtain ⟨a,b,c⟩:=hb wx hg;exact jL wx B _ W (by have:=hW.1;omega) (by have:=hW.2;omega) (by simp) a b c
 ·intro wx hg;obtain ⟨a,b,c⟩:=hb wx hg;exact jL wx B _ H (by have:=hH.1;omega) (by have:=hH.2;omega) (by simp) a b c
 ·intro v wx w7 hg hgb ha;have hx:=(ah.thing (aS.thing _ _ _) (io.thing B x _ _ _)).grow h hg;obtain ⟨_,_,_,_,_,hgr⟩:=mi (i:=1) (ah.thing (aW.thing _ _ _ _ _ _) (aW.thing _ _ _ _ _ _)) rfl hx;obtain ⟨S',h',m'⟩:=hgr _ _ v w7 hgb ha;refine ⟨rfl,S',⟨(v,.slice ac x.cs.length kc,.slice am x.ms.length km),?_⟩,(Mv.grow hg S).trans m'⟩;unfold io;dsimp only;rw [EQ,ZY];exact h'
theorem t6 (a b:Nat) (h:Lib.decDigits a=Lib.decDigits b):a=b:=by
 have:=congrArg fS h;rw [show fS (Lib.decDigits a)=a from mF a,show fS (Lib.decDigits b)=b from mF b] at this;exact this
theorem D8 (a n:Nat):(Lib.itoa (a:Int)==Lib.itoa (n:Int))=decide (a=n):=by
 by_cases h:a=n
 ·subst h;simp
 ·rw [Zo h];apply Bool.eq_false_iff.2;intro e;have:=beq_iff_eq.1 e;rw [fy,fy] at this;exact h (t6 a n this)
theorem C5 (w:World) (B b:Nat) (a n:Nat) (W H:Int) (ha:a<=1000000) (hB:B<=w.heap.size) (c0:w.cell? b=some (.string ⟨(Lib.itoa (n:Int)).toArray⟩)) (hb:b < w.heap.size) (ht:bU B w):
  QB 263 #[.agg #[.int .i64 (a:Int),W,H],zp b] w (.bool (decide (a=n))):=by
 have HE:=ai (D8 a n);go_enter func263,ntmps263
 go_wp2_with fail
 have hb0:Below w w (w.alloc (Obj.cells #[Value.int IntKind.i64 ↑a,Value.int IntKind.i64 W,Value.int IntKind.i64 H] 193)):=(ZT _ w).alloc (ZW _) _;have z0:(w.alloc (Obj.cells #[Value.int IntKind.i64 ↑a,Value.int IntKind.i64 W,Value.int IntKind.i64 H] 193)).cell? w=(a:Int):=(aS.alloc (B:=0) (vs:=[.int .i64 (a:Int),.int .i64 W,.int .i64 H]) (YO _)).at 0 _ rfl;have hz0:w.heap.size < (w.alloc (Obj.cells #[Value.int IntKind.i64 ↑a,Value.int IntKind.i64 W,Value.int IntKind.i64 H] 193)).heap.size:=by simp
 obtain ⟨w0,hw0⟩:∃ w0,w.alloc (Obj.cells #[Value.int IntKind.i64 ↑a,Value.int IntKind.i64 W,Value.int IntKind.i64 H] 193)=w0:=⟨_,rfl⟩;rw [hw0] at z0 hz0 hb0 ⊢;clear hw0;replace c0:w0.cell? b=some (.string ⟨(Lib.itoa (n:Int)).toArray⟩):=(hb0.cell (p:=b) hb).trans c0;have hbz:b < w0.heap.size:=by omega
 have HI:=ai (fun w1 (hG:af w0 w1)=>bp B w1 (a:Int) (by omega) (by omega) (ht.on ((YY hb0 hB).trans (YY hG (ZU hB hb0.size)))));refine ap 5 _ (ag [zp w.heap.size,(a:Int),.string ⟨(Lib.itoa (a:Int)).toArray⟩,.string ⟨(Lib.itoa (n:Int)).toArray⟩,.bool (decide (a=n))]) (by kernel_rfl) rfl (by kernel_rfl) aq ?_;simp only [TD];refine ⟨fun w1 hG hd=>?_,fun v0=>?_⟩
 ·clear hd;go_wp2;exact RG
 simp only [TN];refine ⟨fun w1 hG hd=>?_,fun v1=>?_⟩
 ·have d0:v0=.pointer (some ⟨w,0,none⟩):=hd ⟨0,.data⟩ (by simp) rfl;clear hd;subst d0;have cc:=(Zc hG (p:=w) hz0).trans z0;go_wp2;exact RG
 simp only [TN];refine ⟨fun w1 hG hd=>?_,fun v2=>?_⟩
 ·have d1:v1=.int .i64 (a:Int):=hd ⟨1,.data⟩ (by simp) rfl;clear hd;subst d1;have HX:=ai (HI.out w1 hG);go_wp2_with fail
  refine HX.out.mono ?_;rintro e w2 ⟨rfl,hB2⟩;go_wp2;exact ⟨rfl,hB2⟩
 simp only [TN];refine ⟨fun w1 hG hd=>?_,fun v3=>?_⟩
 ·clear hd;have cc:=(Zc hG (p:=b) hbz).trans c0;go_wp2;exact RG
 simp only [TN];refine ⟨fun w1 hG hd=>?_,fun v4=>?_⟩
 ·have d2:v2=.string ⟨(Lib.itoa (a:Int)).toArray⟩:=hd ⟨2,.data⟩ (by simp) rfl;have d3:v3=.string ⟨(Lib.itoa (n:Int)).toArray⟩:=hd ⟨3,.data⟩ (by simp) rfl;clear hd;subst d2 d3;go_wp2;exact ⟨congrArg Value.bool HE.out,af.refl _⟩
 simp only [TN];intro w1 hG hd;have d4:v4=.bool (decide (a=n)):=hd 4 (by omega);subst d4;clear hd HI HE c0 z0;go_wp2;go_ret;exact ⟨rfl,hb0.trans (YY hG hb0.size)⟩
theorem t_ (w:World) (b g m cap n p:Nat) (sh:List (Nat×Int×Int)) (hm:sh.length=m) (hm2:m<=1000) (hcap:m<=cap) (hcap2:cap<=9223372036854775807) (hp:p < m) (hg:g < w.heap.size) (hc:∀ i x,(EO sh)[i]? =some x->w.cell? (zq g i)=some x)
  (HN:Hid (∀ i z,sh[i]? =some z->i<=p->∀ wx,af w wx->QB 263 #[.agg #[.int .i64 (z.1:Int),.int .i64 z.2.1,.int .i64 z.2.2],zp b] wx (.bool (decide (i=p))))):
  QB 262 #[.slice g m cap,.func (.func 263) #[] #[zp b]] w (p:Int):=by
 have HR:Hid (∀ i wx,i < m->af w wx->wx.cell? (zq g (i*3))=some (.int .i64 ((sh.getD i (0,0,0)).1:Int))/\wx.cell? (zq g (i*3+1))=some (.int .i64 (sh.getD i (0,0,0)).2.1)/\wx.cell? (zq g (i*3+2))=some (.int .i64 (sh.getD i (0,0,0)).2.2)):=by
  intro i wx hi hG;have he:sh[i]? =some (sh.getD i (0,0,0)):=by rw [ZJ,ZM (by omega)];rfl
  obtain ⟨a1,a2,a3⟩:=wD sh i _ he;exact ⟨(Zc hG (p:=zq g (i*3)) hg).trans (hc _ _ a1),(Zc hG (p:=zq g (i*3+1)) hg).trans (hc _ _ a2),(Zc hG (p:=zq g (i*3+2)) hg).trans (hc _ _ a3)⟩
 have HN2:Hid (∀ i,i<=p->∀ wx,af w wx->QB 263 #[.agg #[.int .i64 ((sh.getD i (0,0,0)).1:Int),.int .i64 (sh.getD i (0,0,0)).2.1,.int .i64 (sh.getD i (0,0,0)).2.2],zp b] wx (.bool (decide (i=p)))):=by
  intro i hi wx hG;refine HN.out i _ ?_ hi wx hG;rw [ZJ,ZM (by omega)];rfl
 obtain ⟨f,hf⟩:∃ f:Nat->Nat×Int×Int,(fun i=>sh.getD i (0,0,0))=f:=⟨_,rfl⟩;have hf':∀ i,sh.getD i (0,0,0)=f i:=fun i=>congrFun hf i
 simp only [hf'] at HR HN2;clear HN hc hm hf hf';go_enter func262,ntmps262
 go_wp2;go_loopg [8] (p+2) (fun k x wr=>∃ i:Nat,i<=p/\p - i < k/\x=.int .i64 (i:Int)/\af w wr)
 case atStart=>exact ⟨0,by omega,by omega,rfl,af.refl _⟩
 case round=>
  obtain ⟨i,hi,hk,rfl,hG⟩:=hrel;obtain ⟨r0,r1,r2⟩:=HR.out i wr (by omega) hG;have HC:=ai (HN2.out i hi wr hG);have d1:decide ((i:Int) < (m:Int))=true:=by simp;omega
  generalize f i=z at r0 r1 r2 HC;obtain ⟨z1,z2,z3⟩:=z;dsimp only at r0 r1 r2 HC;by_cases hip:i=p
  ·rw [Zt hip] at HC;have HIP:=ai hip;clear hip;go_wp2_with fail
   refine HC.out.mono ?_;rintro e w1 ⟨rfl,hb1⟩;clear HC r0 r1 r2;go_wp2;go_ret;exact ⟨by rw [<-HIP.out];rfl,af.trans hG hb1⟩
  ·rw [Zo hip] at HC;go_wp2_with fail
   refine HC.out.mono ?_;rintro e w1 ⟨rfl,hb1⟩;clear HC r0 r1 r2;go_wp2;go_roundg (gk - 1)
   case measure=>omega
   case rel=>exact ⟨i+1,by omega,by omega,by congr 1,af.trans hG hb1⟩
theorem s6 (w:World) (l:Nat) (s:ByteArray) (vs:Value) (p:Nat) (c1:w.cell? (zq l 1)=some vs) (hl:l < w.heap.size)
  (HI:Hid (∀ wx,af w wx->wx.cell? w=some (.string s)->QB 262 #[vs,.func (.func 263) #[] #[zp w.heap.size]] wx (p:Int))):
  QB 226 #[zp l,s] w (p:Int):=by
 have hmf:∀ (fn:Fn) (first cap:Array Value) (w:World),(Instr.makeFunc fn first cap).run prog w=.ok (.func fn first cap) w:=fun _ _ _ _=>rfl
 go_enter func226,ntmps226
 go_wp2_with fail
 refine (HI.out _ ((ZT _ w).alloc (ZW _) _) ((aS.alloc (B:=0) (vs:=[.string s]) (YO _)).at 0 _ rfl)).mono ?_;rintro e w1 ⟨rfl,hb1⟩;have hb:Below w w w1:=(af.trans ((ZT _ w).alloc (ZW _) _) hb1);clear HI;go_wp2;go_ret;exact ⟨rfl,hb⟩
theorem ug (w:World) (B l n p:Nat) (x:ip) (S:Bl) (hp:p < x.sh.length) (hx:x.sh.length<=80) (hn:∀ z∈x.sh,z.1<=1000000) (hu:∀ (i:Nat) z,x.sh[i]? =some z->(z.1=n↔i=p)) (hB:B<=w.heap.size) (ht:bU B w) (h:cw B l x w S):
  QB 226 #[zp l,.string ⟨(Lib.itoa (n:Int)).toArray⟩] w (p:Int):=by
 obtain ⟨aa,ks,ac,kc,am,km,h⟩:=h.open;obtain ⟨S1,S2,hc,⟨S3,S4,hr,_⟩,_⟩:=h;obtain ⟨ad,cap,he,hcap,hcap2,hcell⟩:=aW.lies (B:=B) (e:=193) (z:=3) hr
 cases he
 obtain ⟨g,rfl,hg,hcells⟩:=hcell (by omega);have hl:l < w.heap.size:=hc.2.2.1;refine s6 w l _ _ p (hc.at 1 _ rfl) hl ?_;intro wx hG hs;refine t_ wx w.heap.size g x.sh.length ks n p x.sh rfl (by omega) hcap hcap2 hp (ZK hg hG.size) (fun i v hv=>(Zc hG (p:=zq g i) hg).trans (hcells i v hv)) ?_;intro i z hz hi wy hGy;have hbw:=af.trans hG hGy;have hwx:w.heap.size < wx.heap.size:=ZD wx _ hs;have:=C5 wy B w.heap.size z.1 n z.2.1 z.2.2 (hn z (YG hz)) (ZU hB hbw.size) ((Zc hGy (p:=w) hwx).trans hs) (ZK hwx hGy.size) (ht.on (YY hbw hB));rw [show decide (z.1=n)=decide (i=p) by simp only [hu i z hz]] at this;exact this
theorem tB (w:World) (l:Nat) (body vt t:ByteArray) (t0:Value) (ht1:decide (t.size<=100)=true) (htz:t.size<=1000) (hl:l < w.heap.size) (c0:w.cell? l=some t0) (f0:w.frozen? l=false)
  (HV:Hid (QB 189 #[body,.string ⟨#[47,84,105,116,108,101]⟩,oz] w vt))
  (HS:Hid (∀ wx,af w wx->QB 225 #[vt] wx (.tuple #[t,true]))):
  CP 193 #[zp l,body] w fun e w'=>e=.returned true/\∃ wx,af w wx/\w'=wx.setCell l t:=by
 have HT:=ai (fun wx=>jc wx t (by omega));rw [ht1] at HT;go_enter func193,ntmps193
 go_wp2_with fail
 refine HV.out.mono ?_;rintro e w1 ⟨rfl,hb1⟩;go_wp2_with fail
 refine (HS.out _ hb1).mono ?_;rintro e w2 ⟨rfl,hb2⟩;replace hb2:=af.trans hb1 hb2;replace c0:w2.cell? l=some t0:=(Zc hb2 (p:=l) hl).trans c0;replace f0:w2.frozen? l=false:=(Below.frozen hb2 (p:=l) hl).trans f0;clear HV HS hb1;go_wp2_with fail
 refine (HT.out _).mono ?_;rintro e w3 ⟨rfl,rfl⟩;clear HT c0 f0;go_wp2;go_ret;exact ⟨rfl,w2,hb2,rfl⟩
theorem uk (w:World) (B l:Nat) (x:ip) (S:Bl) (body:ByteArray) (t:List UInt8) (hp:sB body t) (hsz:body.size<=2000000000) (ht:t.length<=100) (hB:B<=w.heap.size) (hm:fH B w) (h:cw B l x w S):
  CP 193 #[zp l,body] w fun e w'=>e=.returned true/\∃ S',cw B l {x with ti:=⟨t.toArray⟩} w' S'/\Mv S w S' w':=by
 obtain ⟨aa,ks,ac,kc,am,km,h⟩:=h.open;obtain ⟨S1,hc,_,_⟩:=ah.fst (io.thing B x _ _ _) h;refine (tB w l body ⟨(bc t).toArray⟩ ⟨t.toArray⟩ _ (by simp [ae];exact ht) (by rw [ae];omega) hc.2.2.1 (hc.at 0 _ rfl) (hc.fz 0) ?_ ?_).mono ?_
 ·have:=ex body kI 0 w hsz (by omega) hp.pl;rw [hp.i] at this;exact this
 ·intro wx hg;exact jY wx _ t ht (by simp) (by have:=hg.size;have:=hm.1;omega)
 ·rintro e w' ⟨rfl,wx,hg,rfl⟩;have hx:=(ah.thing (aS.thing _ _ _) (io.thing B x _ _ _)).grow h hg;obtain ⟨S2,hc2,_,back⟩:=ah.fst (io.thing B x _ _ _) hx;obtain ⟨k3,m3⟩:=hc2.set 0 (.string ⟨t.toArray⟩) (by simp);obtain ⟨S4,h4,m4⟩:=back _ _ _ k3 m3;exact ⟨rfl,S4,⟨(.slice aa x.sh.length ks,.slice ac x.cs.length kc,.slice am x.ms.length km),h4⟩,(Mv.grow hg S).trans m4⟩
theorem ui (w:World) (B l n cap p:Nat) (ad:Option Addr) (xs:List Value) (body vt vd t:ByteArray) (lp:Int) (ZZ:Ending->World->Prop) (hn:n < 20) (ht1:decide (0 < t.size/\t.size<=100)=true) (htz:t.size<=1000) (hlp:decide ((p:Int) < lp)=false) (hp:p<=1000) (hl:l < w.heap.size) (hB:B<=w.heap.size) (c3:w.cell? (zq l 3)=some (.slice ad n cap)) (f3:w.frozen? (zq l 3)=false) (ow:w.ownsRow B 98 2 (.slice ad n cap) n xs) (ne:(Value.slice ad n cap).ownBlock≠some l)
  (HV:Hid (QB 189 #[body,.string ⟨#[47,84,105,116,108,101]⟩,oz] w vt))
  (HS:Hid (∀ wx,af w wx->QB 225 #[vt] wx (.tuple #[t,true])))
  (HD:Hid (∀ wx,af w wx->QB 189 #[body,.string ⟨#[47,68,101,115,116]⟩,(1:Int)] wx vd))
  (HP:Hid (∀ wx,af w wx->QB 226 #[zp l,vd] wx (p:Int)))
  (HL:Hid (∀ wx,af w wx->QD 227 #[zp l] wx lp))
  (HZ:Hid (∀ v wx w7,af w wx->wx.grownBy w7 (Value.slice ad n cap).ownBlock->gq wx (Value.slice ad n cap).ownBlock B 98 2 (n+1) (xs++[.string t,.int .i64 (p:Int)]) v w7->ZZ (.returned true) (w7.setCell (zq l 3) v))):
  CP 192 #[zp l,body] w ZZ:=by
 have HT:=ai (fun wx=>jB wx t (by omega));rw [ht1] at HT;go_enter func192,ntmps192
 go_wp2_with fail
 refine HV.out.mono ?_;rintro e w1 ⟨rfl,hb1⟩;go_wp2_with fail
 refine (HS.out _ hb1).mono ?_;rintro e w2 ⟨rfl,hb2⟩;replace hb2:=af.trans hb1 hb2;go_wp2_with fail
 refine (HD.out _ hb2).mono ?_;rintro e w3 ⟨rfl,hb3⟩;replace hb3:=af.trans hb2 hb3;go_wp2_with fail
 refine (HP.out _ hb3).mono ?_;rintro e w4 ⟨rfl,hb4⟩;replace hb4:=af.trans hb3 hb4;clear HV HS HD HP hb1 hb2 hb3;replace c3:w4.cell? (zq l 3)=some (.slice ad n cap):=(Zc hb4 (p:=zq l 3) hl).trans c3;replace f3:w4.frozen? (zq l 3)=false:=(Below.frozen hb4 (p:=zq l 3) hl).trans f3;replace ow:w4.ownsRow B 98 2 (.slice ad n cap) n xs:=oY ow hb4;replace hB:B<=w4.heap.size:=ZU hB hb4.size;replace hl:l < w4.heap.size:=ZK hl hb4.size;have dn:((n:Int)==20)=false:=by simp;omega
 go_wp2_with fail
 refine (HT.out _).mono ?_;rintro e w5 ⟨rfl,rfl⟩;go_wp2_with fail
 refine (HL.out _ hb4).mono ?_;rintro e w6 ⟨rfl,qq,rfl⟩;clear HT HL;replace c3:(w5.drewN qq).cell? (zq l 3)=some (.slice ad n cap):=c3;replace f3:(w5.drewN qq).frozen? (zq l 3)=false:=f3;replace ow:(w5.drewN qq).ownsRow B 98 2 (.slice ad n cap) n xs:=ow;replace hB:B<=(w5.drewN qq).heap.size:=hB;replace hl:l < (w5.drewN qq).heap.size:=hl;replace hb4:af w (w5.drewN qq):=⟨hb4.os,hb4.tape,hb4.output,hb4.size,hb4.block⟩;generalize w5.drewN qq=w6 at c3 f3 ow hB hl hb4 ⊢;go_wp2_with (at_builtin;refine bQ rfl (.tmp 39) (.tmp 43) 27 rfl 98 (.agg #[.string ⟨#[]⟩,oz]) 2 24 Tryz.infoMk3 rfl (by omega) underlying27 B _ n xs rfl (ow.alloc _) (by simp;omega) ⟨w6,0,none⟩ 1 rfl [.string t,.int .i64 (p:Int)] rfl (zM w6 _ _) (by intro u hu;simp at hu;rcases hu with rfl | rfl <;> rfl) (by omega) (by omega) ?_)
 intro v7 w7 hO7 hg7 hat7;obtain ⟨hg8,ha8⟩:=vC hO7 hg7 hat7;have HX:=ai (HZ.out _ w6 w7 hb4 hg8 ha8);obtain ⟨ad7,cap7,hv7⟩:=ha8.form;subst hv7;have kb:=hg8.block l hl (fun e=>ne e.symm);have k1:=(ZQ (a:=zq l 3) kb).trans c3;have kf1:=(ZH (a:=zq l 3) kb).trans f3;clear kb c3 f3 ow hO7 hg7 hat7 HZ ha8 hg8;go_wp2
 first
  | exact HX.out
  | (go_ret;exact HX.out)
def jG (ms:List (ByteArray×Nat)):Nat:=match ms.getLast? with | some m=>m.2 | none=>0
theorem ue (w:World) (B l:Nat) (x:ip) (S:Bl) (hx:x.ms.length<=20) (h:cw B l x w S):
  QD 227 #[zp l] w (jG x.ms:Int):=by
 obtain ⟨aa,ks,ac,kc,am,km,h⟩:=h.open;obtain ⟨S1,S2,hc,⟨S3,S4,_,⟨S5,S6,_,hr,_⟩,_⟩,_⟩:=h;have c3:=hc.at 3 _ rfl;obtain ⟨ad,cap,he,hcap,hcap2,hcell⟩:=aW.lies (B:=B) (e:=98) (z:=2) hr
 cases he
 rcases List.eq_nil_or_concat x.ms with h0 | ⟨r,m,hrm⟩
 ·rw [h0] at c3;have:jG x.ms=0:=by rw [h0];rfl
  rw [this];exact sN w l km am c3
 ·have hlen:x.ms.length=r.length+1:=by rw [hrm];simp
  obtain ⟨g,rfl,hg,hcells⟩:=hcell (by omega);rw [hlen] at c3 hcap;have hl:jG x.ms=m.2:=by rw [hrm];simp [jG]
  rw [hl];have hx2:x.ms[r.length]? =some m:=by rw [hrm];simp
  exact sO w l g r.length km (by omega) hcap (m.2:Int) c3 (hcells _ _ (s_ x.ms r.length m hx2).2)
theorem wI (w:World) (B l n p:Nat) (x:ip) (S:Bl) (body:ByteArray) (t:List UInt8) (hp:vA body t n) (hsz:body.size<=2000000000) (ht1:0 < t.length/\t.length<=100) (hpx:p < x.sh.length) (hx:x.sh.length<=80) (hn:∀ z∈x.sh,z.1<=1000000) (hu:∀ (i:Nat) z,x.sh[i]? =some z->(z.1=n↔i=p)) (hms:x.ms.length < 20) (hle:jG x.ms<=p) (hB:B<=w.heap.size) (ht:bU B w) (hm:fH B w) (h:cw B l x w S):
  CP 192 #[zp l,body] w fun e w'=>e=.returned true/\∃ S',cw B l {x with ms:=x.ms++[(⟨t.toArray⟩,p)]} w' S'/\Mv S w S' w':=by
 have hL:=h;obtain ⟨aa,ks,ac,kc,am,km,h⟩:=h.open;have rot:∀ {A P Q R:As} {w:World} {S:Bl},ah A (ah P (ah Q R)) w S->ah A (ah R (ah P Q)) w S:=fun h=>ah.mapR h fun _ _ k=>ah.swap (ah.assocR k)
 obtain ⟨c3,ow,ne,f3,hl,_⟩:=mi (i:=3) (ah.thing (aW.thing _ _ _ _ _ _) (aW.thing _ _ _ _ _ _)) rfl (rot h);have hb:∀ wx,af w wx->B<=wx.heap.size/\bU B wx/\fH B wx:=fun wx hg=>⟨ZU hB hg.size,ht.on (YY hg hB),hm.on (YY hg hB)⟩
 refine ui w B l x.ms.length km p am (iz x.ms) body ⟨(bc t).toArray⟩ ⟨(Lib.itoa (n:Int)).toArray⟩ ⟨t.toArray⟩ (jG x.ms:Int) _ hms (by simp only [ae];exact Zt ht1) (by rw [ae];omega) (by simp;omega) (by omega) hl hB c3 f3 ow ne ?_ ?_ ?_ ?_ ?_ ?_
 ·have:=ex body kI 0 w hsz (by omega) hp.pl;rw [hp.i] at this;exact this
 ·intro wx hg;exact jY wx _ t ht1.2 (by simp) (by have:=hg.size;have:=hm.1;omega)
 ·intro wx hg;have:=ex body kD 1 wx hsz (by omega) hp.pl;rw [hp.d1] at this;exact this
 ·intro wx hg;obtain ⟨a,b,c⟩:=hb wx hg;exact ug wx B l n p x S hpx hx hn hu a b ((cw.thing B l x).grow hL hg)
 ·intro wx hg;exact ue wx B l x S (by omega) ((cw.thing B l x).grow hL hg)
 ·intro v wx w7 hg hgb ha;have hx:=(ah.thing (aS.thing _ _ _) (io.thing B x _ _ _)).grow h hg;obtain ⟨_,_,_,_,_,hgr⟩:=mi (i:=3) (ah.thing (aW.thing _ _ _ _ _ _) (aW.thing _ _ _ _ _ _)) rfl (rot hx);obtain ⟨S',h',m'⟩:=hgr _ _ v w7 hgb ha;refine ⟨rfl,S',⟨(.slice aa x.sh.length ks,.slice ac x.cs.length kc,v),?_⟩,(Mv.grow hg S).trans m'⟩;have h9:=ah.mapR h' fun _ _ k=>ah.assoc (ah.swap k)
  unfold io;dsimp only;have e:iz (x.ms++[(⟨t.toArray⟩,p)])=iz x.ms++[.string ⟨t.toArray⟩,.int .i64 (p:Int)]:=nf _ _;rw [e,ZY];exact h9
theorem Ds (w:World) (l cL:Nat) (body:ByteArray) (vf vt vd vi:ByteArray) (h1:vf.toList.isEmpty=true) (h2:(vt.toList==[47,80,97,103,101])=false) (h3:vd.toList.isEmpty=true) (h4:vi.toList.isEmpty=true)
  (HF:Hid (∀ wx,QB 189 #[body,.string ⟨#[47,70,105,108,116,101,114]⟩,oz] wx vf))
  (HT:Hid (∀ wx,QB 189 #[body,.string ⟨#[47,84,121,112,101]⟩,oz] wx vt))
  (HD:Hid (∀ wx,QB 189 #[body,.string ⟨#[47,68,101,115,116]⟩,oz] wx vd))
  (HI:Hid (∀ wx,QB 189 #[body,.string ⟨#[47,84,105,116,108,101]⟩,oz] wx vi)):
  QB 143 #[zp l,(cL:Int),body] w true:=by
 go_enter func143,ntmps143
 go_wp2_with fail
 refine (HF.out _).mono ?_;rintro e w1 ⟨rfl,hb1⟩;go_wp2_with fail
 refine (HT.out _).mono ?_;rintro e w2 ⟨rfl,hb2⟩;replace hb2:=af.trans hb1 hb2;go_wp2_with fail
 refine (HD.out _).mono ?_;rintro e w3 ⟨rfl,hb3⟩;replace hb3:=af.trans hb2 hb3;go_wp2_with fail
 refine (HI.out _).mono ?_;rintro e w4 ⟨rfl,hb4⟩;replace hb4:=af.trans hb3 hb4;clear HF HT HD HI;go_wp2;go_ret;exact ⟨rfl,hb4⟩
theorem wJ (w:World) (l cL:Nat) (body:ByteArray) (vf:ByteArray) (Z:Ending->World->Prop) (h1:vf.toList.isEmpty=false)
  (HF:Hid (∀ wx,QB 189 #[body,.string ⟨#[47,70,105,108,116,101,114]⟩,oz] wx vf))
  (HC:Hid (∀ wx,af w wx->CP 190 #[zp l,body] wx fun e w'=>(∃ v,e=.returned v)/\Z (.returned true) w')):
  CP 143 #[zp l,(cL:Int),body] w Z:=by
 go_enter func143,ntmps143
 go_wp2_with fail
 refine (HF.out _).mono ?_;rintro e w1 ⟨rfl,hb1⟩;go_wp2_with fail
 refine (HC.out _ hb1).mono ?_;rintro e w2 ⟨⟨v,rfl⟩,hZ⟩;clear HF HC;go_wp2
 first
  | exact hZ
  | (go_ret;exact hZ)
theorem Dt (w:World) (l cL:Nat) (body:ByteArray) (vf vt:ByteArray) (Z:Ending->World->Prop) (h1:vf.toList.isEmpty=true) (h2:(vt.toList==[47,80,97,103,101])=true)
  (HF:Hid (∀ wx,QB 189 #[body,.string ⟨#[47,70,105,108,116,101,114]⟩,oz] wx vf))
  (HT:Hid (∀ wx,QB 189 #[body,.string ⟨#[47,84,121,112,101]⟩,oz] wx vt))
  (HC:Hid (∀ wx,af w wx->CP 191 #[zp l,(cL:Int),body] wx fun e w'=>∃ v,e=.returned v/\Z (.returned v) w')):
  CP 143 #[zp l,(cL:Int),body] w Z:=by
 go_enter func143,ntmps143
 go_wp2_with fail
 refine (HF.out _).mono ?_;rintro e w1 ⟨rfl,hb1⟩;go_wp2_with fail
 refine (HT.out _).mono ?_;rintro e w2 ⟨rfl,hb2⟩;replace hb2:=af.trans hb1 hb2;go_wp2_with fail
 refine (HC.out _ hb2).mono ?_;rintro e w9 ⟨v,rfl,hZ⟩;clear HF HC;go_wp2
 first
  | exact hZ
  | (go_ret;exact hZ)
theorem Dq (w:World) (l cL:Nat) (body:ByteArray) (vf vt vd:ByteArray) (Z:Ending->World->Prop) (h1:vf.toList.isEmpty=true) (h2:(vt.toList==[47,80,97,103,101])=false) (h3:vd.toList.isEmpty=false)
  (HF:Hid (∀ wx,QB 189 #[body,.string ⟨#[47,70,105,108,116,101,114]⟩,oz] wx vf))
  (HT:Hid (∀ wx,QB 189 #[body,.string ⟨#[47,84,121,112,101]⟩,oz] wx vt))
  (HD:Hid (∀ wx,QB 189 #[body,.string ⟨#[47,68,101,115,116]⟩,oz] wx vd))
  (HC:Hid (∀ wx,af w wx->CP 192 #[zp l,body] wx fun e w'=>∃ v,e=.returned v/\Z (.returned v) w')):
  CP 143 #[zp l,(cL:Int),body] w Z:=by
 go_enter func143,ntmps143
 go_wp2_with fail
 refine (HF.out _).mono ?_;rintro e w1 ⟨rfl,hb1⟩;go_wp2_with fail
 refine (HT.out _).mono ?_;rintro e w2 ⟨rfl,hb2⟩;replace hb2:=af.trans hb1 hb2;go_wp2_with fail
 refine (HD.out _).mono ?_;rintro e w3 ⟨rfl,hb3⟩;replace hb3:=af.trans hb2 hb3;go_wp2_with fail
 refine (HC.out _ hb3).mono ?_;rintro e w9 ⟨v,rfl,hZ⟩;clear HF HC;go_wp2
 first
  | exact hZ
  | (go_ret;exact hZ)
theorem B4 (w:World) (l cL:Nat) (body:ByteArray) (vf vt vd vi:ByteArray) (Z:Ending->World->Prop) (h1:vf.toList.isEmpty=true) (h2:(vt.toList==[47,80,97,103,101])=false) (h3:vd.toList.isEmpty=true) (h4:vi.toList.isEmpty=false)
  (HF:Hid (∀ wx,QB 189 #[body,.string ⟨#[47,70,105,108,116,101,114]⟩,oz] wx vf))
  (HT:Hid (∀ wx,QB 189 #[body,.string ⟨#[47,84,121,112,101]⟩,oz] wx vt))
  (HD:Hid (∀ wx,QB 189 #[body,.string ⟨#[47,68,101,115,116]⟩,oz] wx vd))
  (HI:Hid (∀ wx,QB 189 #[body,.string ⟨#[47,84,105,116,108,101]⟩,oz] wx vi))
  (HC:Hid (∀ wx,af w wx->CP 193 #[zp l,body] wx fun e w'=>∃ v,e=.returned v/\Z (.returned v) w')):
  CP 143 #[zp l,(cL:Int),body] w Z:=by
 go_enter func143,ntmps143
 go_wp2_with fail
 refine (HF.out _).mono ?_;rintro e w1 ⟨rfl,hb1⟩;go_wp2_with fail
 refine (HT.out _).mono ?_;rintro e w2 ⟨rfl,hb2⟩;replace hb2:=af.trans hb1 hb2;go_wp2_with fail
 refine (HD.out _).mono ?_;rintro e w3 ⟨rfl,hb3⟩;replace hb3:=af.trans hb2 hb3;go_wp2_with fail
 refine (HI.out _).mono ?_;rintro e w4 ⟨rfl,hb4⟩;replace hb4:=af.trans hb3 hb4;go_wp2_with fail
 refine (HC.out _ hb4).mono ?_;rintro e w9 ⟨v,rfl,hZ⟩;clear HF HC;go_wp2
 first
  | exact hZ
  | (go_ret;exact hZ)
inductive um
 | no
 | con (Z:List UInt8)
 | pg (W H:Int)
 | mk (t:List UInt8) (n p:Nat)
 | ti (t:List UInt8)
def ip.eff (x:ip) (cL:Nat):um->ip
 | .no=>x
 | .con Z=>{x with cs:=x.cs++[Z]}
 | .pg W H=>{x with sh:=x.sh++[(cL,W,H)]}
 | .mk t _ p=>{x with ms:=x.ms++[(⟨t.toArray⟩,p)]}
 | .ti t=>{x with ti:=⟨t.toArray⟩}
def DE (b:List UInt8):um->Prop
 | .no=>∀ s:ByteArray,s.data.toList=b->sD s
 | .con Z=>∃ n,b=qw n Z
 | .pg W H=>(∀ s:ByteArray,s.data.toList=b->zw s W H)/\bG W 1 14400000/\bG H 1 14400000
 | .mk t n _=>∀ s:ByteArray,s.data.toList=b->vA s t n
 | .ti t=>∀ s:ByteArray,s.data.toList=b->sB s t
def GE (x:ip) (cL:Nat):um->Prop
 | .no=>True
 | .con _=>x.cs.length<=1000
 | .pg _ _=>x.sh.length < 80/\cL<=100000
 | .mk t n p=>(0 < t.length/\t.length<=100)/\p < x.sh.length/\x.sh.length<=80/\(∀ z∈x.sh,z.1<=1000000)/\(∀ (i:Nat) z,x.sh[i]? =some z->(z.1=n↔i=p))/\x.ms.length < 20/\jG x.ms<=p
 | .ti t=>t.length<=100
theorem jA {s:ByteArray} (h:s=⟨#[]⟩):s.toList.isEmpty=true:=by rw [h,Zm];rfl
theorem mL {c:UInt8} {r:List UInt8}:(⟨(c::r).toArray⟩:ByteArray).toList.isEmpty=false:=by rw [Zm];rfl
theorem Gt {s:ByteArray} (h:s≠kP):(s.toList==[47,80,97,103,101])=false:=by
 apply Bool.eq_false_iff.2;intro e;apply h;have:=beq_iff_eq.1 e;rw [Zm] at this;exact Zd (Array.toList_inj.1 this)
theorem EV (w:World) (B l cL:Nat) (x:ip) (S:Bl) (s:ByteArray) (b:List UInt8) (e:um) (hs:s.data.toList=b) (hsz:s.size<=2000000000) (hSay:DE b e) (hF:GE x cL e) (hB:B<=w.heap.size) (ht:bU B w) (hm:fH B w) (h:cw B l x w S):
  CP 143 #[zp l,(cL:Int),s] w fun e' w'=>e'=.returned true/\∃ S',cw B l (x.eff cL e) w' S'/\Mv S w S' w':=by
 have hg:∀ wx,af w wx->B<=wx.heap.size/\bU B wx/\fH B wx/\cw B l x wx S:=fun wx hg=>⟨ZU hB hg.size,ht.on (YY hg hB),hm.on (YY hg hB),(cw.thing B l x).grow h hg⟩
 cases e with
 | no=>
  have q:=hSay s hs;have V:=fun (key:ByteArray) wx=>ex s key 0 wx hsz (by omega) q.pl
  refine (Ds w l cL s _ _ _ _ (jA q.f) (Gt q.t) (jA q.d) (jA q.i) (V kF) (V kT) (V kD) (V kI)).mono ?_;rintro e' w' ⟨rfl,hb⟩;exact ⟨rfl,S,(cw.thing B l x).grow h hb,Mv.grow hb S⟩
 | con Z=>
  obtain ⟨n,hn⟩:=hSay;have q:=Fq n Z (hs.trans hn);refine wJ w l cL s _ _ ?_ (fun wx=>ex s kF 0 wx hsz (by omega) q.pl) ?_
  ·rw [q.f];exact mL (c:=47) (r:=[70,108,97,116,101,68,101,99,111,100,101])
  ·intro wx hgx;obtain ⟨a,_,c,d⟩:=hg wx hgx;refine (rU wx B l x S s n Z (hs.trans hn) hsz hF a c d).mono ?_;rintro e' w' ⟨hv,S',k,m⟩;exact ⟨hv,rfl,S',k,(Mv.grow hgx S).trans m⟩
 | pg W H=>
  obtain ⟨hp,hW,hH⟩:=hSay;have q:=hp s hs;have V:=fun (key:ByteArray) wx=>ex s key 0 wx hsz (by omega) q.pl
  refine Dt w l cL s _ _ _ (jA q.f) ?_ (V kF) (V kT) ?_
  ·rw [q.t,Zm];rfl
  ·intro wx hgx;obtain ⟨a,b',c,d⟩:=hg wx hgx;refine (uj wx B l cL x S s W H q hsz hW hH hF.1 hF.2 a b' c d).mono ?_;rintro e' w' ⟨rfl,S',k,m⟩;exact ⟨_,rfl,rfl,S',k,(Mv.grow hgx S).trans m⟩
 | mk t n p=>
  have q:=hSay s hs;have V:=fun (key:ByteArray) wx=>ex s key 0 wx hsz (by omega) q.pl
  obtain ⟨f1,f2,f3,f4,f5,f6,f7⟩:=hF;refine Dq w l cL s _ _ _ _ (jA q.f) (by rw [q.ty,Zm];rfl) ?_ (V kF) (V kT) (V kD) ?_
  ·rw [q.d];exact mL (c:=91) (r:=[])
  ·intro wx hgx;obtain ⟨a,b',c,d⟩:=hg wx hgx;refine (wI wx B l n p x S s t q hsz f1 f2 f3 f4 f5 f6 f7 a b' c d).mono ?_;rintro e' w' ⟨rfl,S',k,m⟩;exact ⟨_,rfl,rfl,S',k,(Mv.grow hgx S).trans m⟩
 | ti t=>
  have q:=hSay s hs;have V:=fun (key:ByteArray) wx=>ex s key 0 wx hsz (by omega) q.pl
  refine B4 w l cL s _ _ _ _ _ (jA q.f) (by rw [q.ty,Zm];rfl) (jA q.d) ?_ (V kF) (V kT) (V kD) (V kI) ?_
  ·rw [q.i];have e:bc t=40::(bH t++[41]):=rfl;rw [e];exact mL
  ·intro wx hgx;obtain ⟨a,_,c,d⟩:=hg wx hgx;refine (uk wx B l x S s t q hsz hF a c d).mono ?_;rintro e' w' ⟨rfl,S',k,m⟩;exact ⟨_,rfl,rfl,S',k,(Mv.grow hgx S).trans m⟩
def run:ip->Nat->List um->ip
 | x,_,[]=>x
 | x,n,e::r=>run (x.eff n e) (n+1) r
theorem ng:∀ (a b:List um) (x:ip) (n:Nat),run x n (a++b)=run (run x n a) (n+a.length) b
 | [],b,x,n=>rfl
 | e::a,b,x,n=>by
  simp only [ZE,run,ng a b,ZX];congr 1;omega
def nY:ip->Nat->List um->List (List UInt8)->Prop
 | _,_,[],[]=>True
 | x,n,e::es,b::bs=>DE b e/\GE x n e/\nY (x.eff n e) (n+1) es bs
 | _,_,_,_=>False
theorem jo:∀ (e1:List um) (b1:List (List UInt8)) (e2:List um) (b2:List (List UInt8)) (x:ip) (n:Nat),nY x n e1 b1->nY (run x n e1) (n+e1.length) e2 b2->nY x n (e1++e2) (b1++b2)
 | [],[],e2,b2,x,n,_,h=>h
 | [],b::b1,e2,b2,x,n,h,_=>h.elim
 | e::e1,[],e2,b2,x,n,h,_=>h.elim
 | e::e1,b::b1,e2,b2,x,n,⟨h1,h2,h3⟩,h=>⟨h1,h2,jo e1 b1 e2 b2 _ _ h3 (by simp only [run,ZX] at h;rw [show n+1+e1.length=n+(e1.length+1) by omega];exact h)⟩
theorem u6:∀ (es:List um) (bs:List (List UInt8)) (x:ip) (n:Nat),nY x n es bs->es.length=bs.length
 | [],[],_,_,_=>rfl
 | [],_::_,_,_,h=>h.elim
 | _::_,[],_,_,h=>h.elim
 | e::es,b::bs,x,n,h=>by simp [u6 es bs _ _ h.2.2]
theorem yA:∀ (es:List um) (bs:List (List UInt8)) (x:ip) (n j:Nat) (hj:j < bs.length) (hj':j < es.length),nY x n es bs->DE bs[j] es[j]/\GE (run x n (es.take j)) (n+j) es[j]
 | [],[],_,_,j,hj,_,_=>absurd hj (by simp)
 | [],_::_,_,_,_,_,_,h=>h.elim
 | _::_,[],_,_,_,_,_,h=>h.elim
 | e::es,b::bs,x,n,0,_,_,h=>⟨h.1,h.2.1⟩
 | e::es,b::bs,x,n,j+1,hj,hj',h=>by
  have:=yA es bs (x.eff n e) (n+1) j (by simpa using hj) (by simpa using hj') h.2.2;simp only [List.getElem_cons_succ,List.take_succ_cons,run];rw [show n+(j+1)=n+1+j by omega];exact this
theorem EM (es:List um) (x:ip) (n j:Nat) (hj:j < es.length):run x n (es.take (j+1))=(run x n (es.take j)).eff (n+j) es[j]:=by
 rw [Zv hj,ng,Ze,Yr (by omega)];rfl
def sG:List (List UInt8)->List um
 | []=>[]
 | Z::r=>.con Z::.no::sG r
theorem xm:∀ l,(sG l).length=2*l.length
 | []=>rfl
 | Z::r=>by simp only [sG,ZX,xm r];omega
theorem xn:∀ (Zs:List (List UInt8)) (x:ip) (n:Nat),run x n (sG Zs)={x with cs:=x.cs++Zs}
 | [],x,n=>by simp [sG,run]
 | Z::r,x,n=>by simp only [sG,run,ip.eff,xn r];simp
theorem Cb:∀ (Zs:List (List UInt8)) (i:Nat) (x:ip) (n:Nat),x.cs.length+Zs.length<=1000->nY x n (sG Zs) (kQ i Zs)
 | [],_,_,_,_=>trivial
 | Z::r,i,x,n,h=>by
  simp only [ZX] at h;refine ⟨⟨_,rfl⟩,(show x.cs.length<=1000 by omega),fun s hs=>Df _ hs,trivial,Cb r (i+1) _ _ ?_⟩;simp [ip.eff];omega
def Gk (zs:List (Int×Int)):List um:=zs.map fun z=>.pg z.1 z.2
def ri:Nat->List (Int×Int)->List (Nat×Int×Int)
 | _,[]=>[]
 | n,z::r=>(n,z.1,z.2)::ri (n+1) r
theorem nh:∀ (zs:List (Int×Int)) (n:Nat),(ri n zs).length=zs.length
 | [],_=>rfl
 | z::r,n=>by simp [ri,nh r]
theorem BS:∀ (zs:List (Int×Int)) (n i:Nat) y,(ri n zs)[i]? =some y->y.1=n+i
 | [],n,i,y,h=>by simp [ri] at h
 | z::r,n,0,y,h=>by simp [ri] at h;rw [<-h];rfl
 | z::r,n,i+1,y,h=>by
  have:=BS r (n+1) i y (by simpa [ri] using h);omega
theorem wE:∀ (zs:List (Int×Int)) (n:Nat),(ri n zs).map (·.2)=zs
 | [],_=>rfl
 | z::r,n=>by simp [ri,wE r]
theorem Cl:∀ (zs:List (Int×Int)) (x:ip) (n:Nat),run x n (Gk zs)={x with sh:=x.sh++ri n zs}
 | [],x,n=>by simp [Gk,run,ri]
 | z::r,x,n=>by
  have:=Cl r {x with sh:=x.sh++[(n,z.1,z.2)]} (n+1);show run {x with sh:=x.sh++[(n,z.1,z.2)]} (n+1) (Gk r)=_
  rw [this];simp [ri]
theorem EC (font p:Nat):∀ (zs:List (Int×Int)) (i:Nat) (x:ip) (n:Nat),x.sh.length+zs.length<=80->n+zs.length<=100000->(∀ z∈zs,bG z.1 1 14400000/\bG z.2 1 14400000)->nY x n (Gk zs) (ed font p i zs)
 | [],_,_,_,_,_,_=>trivial
 | z::r,i,x,n,h,hn,hz=>by
  simp only [ZX] at h hn;refine ⟨⟨fun s hs=>Ft font p i z hs,hz z (by simp)⟩,⟨by omega,by omega⟩,EC font p r (i+1) _ _ ?_ (by omega) (fun y hy=>hz y (by simp [hy]))⟩;simp [ip.eff];omega
def Gx (n:Nat):List um:=List.replicate n .no
theorem Ci:∀ (k:Nat) (x:ip) (n:Nat),run x n (Gx k)=x
 | 0,_,_=>rfl
 | k+1,x,n=>Ci k x (n+1)
theorem Em:∀ (bs:List (List UInt8)) (x:ip) (n:Nat),(∀ b∈bs,DE b .no)->nY x n (Gx bs.length) bs
 | [],_,_,_=>trivial
 | b::r,x,n,h=>⟨h b (by simp),trivial,Em r _ _ (fun c hc=>h c (by simp [hc]))⟩
theorem ys (p f c s:Nat):∀ b∈bS p f c s,DE b .no:=by
 induction c using Nat.strongRecOn generalizing f s with
 | _ c ih=>
  intro b hb;rw [bS] at hb;split at hb
  ·simp only [Zk,YQ,or_false] at hb;subst hb;exact fun s hs=>th _ _ _ _ hs
  ·rcases Zu.1 hb with hb | hb
   ·obtain ⟨g,_,rfl⟩:=YA.1 hb;exact fun s hs=>th _ _ _ _ hs
   ·exact ih _ (by omega) _ _ b hb
def FY (fp:Nat) (ms:List (List UInt8×Nat)):List um:=ms.map fun m=>.mk m.1 (fp+m.2) m.2
def FW (ms:List (List UInt8×Nat)):List (ByteArray×Nat):=ms.map fun m=>(⟨m.1.toArray⟩,m.2)
theorem Ch (fp:Nat):∀ (ms:List (List UInt8×Nat)) (x:ip) (n:Nat),run x n (FY fp ms)={x with ms:=x.ms++FW ms}
 | [],x,n=>by simp [FY,FW,run]
 | m::r,x,n=>by
  have:=Ch fp r {x with ms:=x.ms++[(⟨m.1.toArray⟩,m.2)]} (n+1);show run {x with ms:=x.ms++[(⟨m.1.toArray⟩,m.2)]} (n+1) (FY fp r)=_
  rw [this];simp [FW]
def pz:Nat->List (List UInt8×Nat)->Prop
 | _,[]=>True
 | p,m::r=>p<=m.2/\pz m.2 r
theorem xV (l:List (ByteArray×Nat)) (m:ByteArray×Nat):jG (l++[m])=m.2:=by simp [jG]
theorem Ei (fp all M:Nat) (zs:List (Int×Int)) (hz:zs.length<=80) (hfp:fp<=100000):∀ (ms:List (List UInt8×Nat)) (i:Nat) (x:ip) (n:Nat),x.sh=ri fp zs->x.ms.length+ms.length<=20->(∀ m∈ms,(0 < m.1.length/\m.1.length<=100)/\m.2 < zs.length)->pz (jG x.ms) ms->nY x n (FY fp ms) (bK all M fp i ms)
 | [],_,_,_,_,_,_,_=>trivial
 | m::r,i,x,n,hx,hl,hm,hs=>by
  simp only [ZX] at hl;obtain ⟨h1,h2⟩:=hm m (by simp);refine ⟨fun s hs=>Fs all M fp i m.1 m.2 hs,⟨h1,?_,?_,?_,?_,by omega,hs.1⟩,Ei fp all M zs hz hfp r (i+1) _ _ hx ?_ (fun y hy=>hm y (by simp [hy])) ?_⟩
  ·rw [hx,nh];exact h2
  ·rw [hx,nh];exact hz
  ·intro z hzz;rw [hx] at hzz;obtain ⟨k,hk⟩:=List.getElem?_of_mem hzz;have:=BS zs fp k z hk;have hk2:=(Zx.1 hk).1;rw [nh] at hk2;omega
  ·intro k z hk;rw [hx] at hk;have:=BS zs fp k z hk;omega
  ·simp [ip.eff];omega
  ·show pz (jG (x.ms++[(⟨m.1.toArray⟩,m.2)])) r
   rw [xV];exact hs.2
def xv (Zs:List (List UInt8)) (zs:List (Int×Int)) (ms:List (List UInt8×Nat)) (t:List UInt8):List um:=
 sG Zs++((([.no]++(Gk zs++Gx (bS zs.length (cK Zs+1) zs.length 1).length))++(if ms=[] then [] else .no::FY (cK Zs+1) ms))++((if t=[] then [] else [.ti t])++[.no]))
def Bh (Zs:List (List UInt8)) (zs:List (Int×Int)) (ms:List (List UInt8×Nat)) (t:List UInt8):ip:=⟨⟨t.toArray⟩,ri (cK Zs+1) zs,Zs,FW ms⟩
def qI:ip:=⟨⟨#[]⟩,[],[],[]⟩
theorem Fa (Zs:List (List UInt8)) (zs:List (Int×Int)) (ms:List (List UInt8×Nat)) (t:List UInt8) (hl:Zs.length=zs.length) (hz:zs.length<=80) (hzs:∀ z∈zs,bG z.1 1 14400000/\bG z.2 1 14400000) (hm:ms.length<=20) (hms:∀ m∈ms,(0 < m.1.length/\m.1.length<=100)/\m.2 < zs.length) (hso:pz 0 ms) (ht:t.length<=100):
  nY qI 1 (xv Zs zs ms t) (bX Zs zs ms t)/\run qI 1 (xv Zs zs ms t)=Bh Zs zs ms t:=by
 have hfn:cK Zs=2*zs.length+1:=by rw [cK,hl]
 have e1:1+(sG Zs).length=cK Zs:=by rw [xm,cK];omega
 have eAll:bX Zs zs ms t=kQ 0 Zs++((([nC]++(ed (cK Zs) zs.length 0 zs++bS zs.length (cK Zs+1) zs.length 1))++dd (cK Zs+(b_ (cK Zs) zs).length) (cK Zs+1) ms)++((if t=[] then [] else [vx t])++[vu (fJ (cK Zs) zs) (rI (cK Zs) zs ms)])):=by
  simp [bX,cI,dG,eG,b_]
 have r1:run qI 1 (sG Zs)={qI with cs:=Zs}:=by rw [xn];rfl
 have r2:∀ n,run {qI with cs:=Zs} n ([.no]++(Gk zs++Gx (bS zs.length (cK Zs+1) zs.length 1).length))=⟨⟨#[]⟩,ri (n+1) zs,Zs,[]⟩:=by
  intro n;rw [ng,ng,Ci,Cl];simp [run,ip.eff,qI]
 have r3:∀ n x,run x n (if ms=[] then [] else .no::FY (cK Zs+1) ms)={x with ms:=x.ms++FW ms}:=by
  intro n x;split
  ·next h=>subst h;simp [run,FW]
  ·show run (x.eff n .no) (n+1) (FY (cK Zs+1) ms)=_
   rw [Ch];rfl
 have r4:∀ n x,x.ti=⟨#[]⟩->run x n ((if t=[] then [] else [.ti t])++[.no])={x with ti:=⟨t.toArray⟩}:=by
  intro n x hx;split
  ·next h=>subst h;simp [run,ip.eff, <-hx]
  ·simp [run,ip.eff]
 constructor
 ·rw [eAll];unfold xv;refine jo _ _ _ _ _ _ (Cb Zs 0 qI 1 (by simp [qI];omega)) ?_;rw [r1,e1];refine jo _ _ _ _ _ _ (jo _ _ _ _ _ _ (jo [.no] [nC] _ _ _ _ ⟨fun s hs=>BH hs,trivial,trivial⟩ ?_) ?_) ?_
  ·refine jo _ _ _ _ _ _ (EC _ _ zs 0 _ _ ?_ ?_ hzs) (Em _ _ _ (ys _ _ _ _))
   ·simp [run,ip.eff,qI];omega
   ·simp;omega
  ·rw [r2];unfold dd;split
   ·trivial
   ·refine ⟨fun s hs=>BL _ _ hs,trivial,Ei (cK Zs+1) _ _ zs hz (by omega) ms 0 _ _ rfl ?_ hms hso⟩;simp [ip.eff];omega
  ·by_cases ht0:t=[]
   ·rw [ZN ht0,ZN ht0];exact ⟨fun s hs=>u7 _ _ hs,trivial,trivial⟩
   ·rw [ZO ht0,ZO ht0];exact ⟨fun s hs=>D7 t hs,ht,fun s hs=>u7 _ _ hs,trivial,trivial⟩
 ·unfold xv;obtain ⟨A,hA⟩:∃ A,[um.no]++(Gk zs++Gx (bS zs.length (cK Zs+1) zs.length 1).length)=A:=⟨_,rfl⟩;obtain ⟨M,hM⟩:∃ M,(if ms=[] then [] else um.no::FY (cK Zs+1) ms)=M:=⟨_,rfl⟩;obtain ⟨T,hT⟩:∃ T,(if t=[] then [] else [um.ti t])++[.no]=T:=⟨_,rfl⟩;rw [hA] at r2;rw [hM] at r3;rw [hT] at r4;rw [hA,hM,hT,ng (sG Zs) (A++M++T),r1,e1,ng (A++M) T,ng A M,r2,r3,r4 _ _ rfl];simp [Bh]
section
open Go.RowKit Go.Shelf
attribute [local go_sem] Oper.semAt_some
def nA (B:Nat) (w:World):Prop:=2 < B/\∃ ev,w.cell? ⟨2,0,none⟩=some ev/\(ev=.nilIface\/∃ te pe,ev=.iface te pe)
theorem nA.on {B:Nat} {w w':World} (h:nA B w) (hb:Below B w w'):nA B w':=by
 obtain ⟨h2,ev,hc,he⟩:=h;exact ⟨h2,ev,(hb.cell (p:=⟨2,0,none⟩) h2).trans hc,he⟩
def B_ (L:List Nat) (i:Nat) (args:Array Value) (i':Nat):Prop:=∃ h:i < L.length,i'=i+1/\args=#[.int .i64 ((L[i]:Nat):Int)]
theorem Dj (a b:List Nat):bR (a++b)=bR a++bR b:=by
 induction a with
 | nil=>rfl
 | cons x r ih=>simp only [ZE,bR,ih,ZS]
def FO:Value->Nat
 | .string r=>r.size
 | _=>0
theorem zE (B b:Nat) (s:ByteArray) (at_:Nat) (L:List Nat) (tr:List UInt8) (xi:World->Prop) (hpre:∀ w w',xi w->Below B w w'->xi w') (hpe:∀ w,xi w->nA B w)
  (HT:Hid (∀ W,xi W->B<=W.heap.size->QB 219 #[s] W (.tuple #[.int .i64 (at_:Int),.string ⟨(bR L++tr).toArray⟩])))
  (hrow:∀ n∈L,(gr n).length=10/\Lib.atoi (gr n)=some (n:Int)) (htl:20<=tr.length) (hno:Lib.atoi (tr.take 10)=none) (hsz:(bR L++tr).length<=2000000000):
  tO Fence.wide prog 218 #[zp b] B (aS B b [.string s]) xi 0 (fun _=>True) (B_ (L++[at_])) (fun i=>i=L.length+1):=by
 rintro l K Kx hK hKx _ W hp hBW hY S h0;have hCt:=aS.thing B b [.string s];obtain ⟨SC,kC,_,_⟩:=ah.fst (hK 0) h0;have c0:W.cell? ⟨b,0,none⟩=some (.string s):=kC.at 0 _ rfl;have HN:=ai (HT.out W hp hBW);have H0:=ai h0;have hge:=fun k=>(ah.thing hCt (hK 0)).ge (k:=k) h0
 clear h0 kC HT;refine callsIn_of_wp func218 rfl trivial ?_ rfl;show (Code.wpIn _ _ _ _ _ _ _)
 simp only [ntmps218,List.size_toArray,ZX,ZR,Nat.reduceAdd,Nat.reduceSub,Array.replicate_succ,Array.replicate_zero,List.push_toArray,List.append_toArray,Zq,ZE]
 gi_wp2
 refine ⟨trivial,rfl,(callsIn_wide.2 HN.out).mono ?_⟩;rintro e W1 ⟨rfl,hb1⟩;have HS0:=ai ((ah.thing hCt (hK 0)).grow H0.out hb1);have HM1:=ai (Mv.grow hb1 S);clear HN H0 hb1
 gi_wp2
 have HBA:∀ i,i < L.length+1->i < (L++[at_]).length:=fun i h=>by simp;omega
 gi_loopw [4] (fun v wr=>∃ (i:Nat) (S':Bl),i<=L.length/\v=.string ⟨(bR (L.drop i)++tr).toArray⟩/\ah (aS B b [.string s]) (K i) wr S'/\Mv S W S' wr) (fun v _=>FO v)
 case atStart=>exact ⟨0,S,by omega,rfl,HS0.out,HM1.out⟩
 case round=>
  obtain ⟨i,S',hi,rfl,hst,hmv⟩:=hrel;have hbw:Below B W wr:=hmv.below hge hBW;have hlen:(bR (L.drop i)++tr).length<=2000000000:=by
   have h1:bR L=bR (L.take i)++bR (L.drop i):=by rw [<-Dj,Yq]
   rw [h1] at hsz;simp only [ZY] at hsz ⊢;omega
  by_cases hlt:i < L.length
  ·obtain ⟨n,hn⟩:∃ n,L[i]=n:=⟨_,rfl⟩;obtain ⟨Y,hYe⟩:∃ Y,bR (L.drop (i+1))++tr=Y:=⟨_,rfl⟩;obtain ⟨ht10,hat⟩:=hrow n (by rw [<-hn];exact Yp hlt);have hX:bR (L.drop i)++tr=gr n++([32,48,48,48,48,48,32,110,32,10]++Y):=by
    rw [Zn hlt,hn, <-hYe];simp [bR,ux]
   rw [hX] at hlen ⊢;obtain ⟨X,hXX⟩:∃ X,X=(⟨(gr n++([32,48,48,48,48,48,32,110,32,10]++Y)).toArray⟩:ByteArray):=⟨_,rfl⟩;have hXs:X.size=20+Y.length:=by rw [hXX,ae];simp [ht10];omega
   have x1:X.extract 0 10=⟨(gr n).toArray⟩:=by
    refine Zd (Array.toList_inj.1 ?_);rw [hXX,Zg,YV];simp only [List.extract,List.drop_zero,Nat.sub_zero];rw [List.take_left' ht10]
   have x2:X.extract 20 X.size=⟨Y.toArray⟩:=by
    refine Zd (Array.toList_inj.1 ?_);rw [jF,hXX, <-ZS];exact List.drop_left' (by simp [ht10])
   have hXl:X.size<=2000000000:=by rw [hXX,ae];exact hlen
   have h20:20<=X.size:=by omega
   have HS:Hid (X.size=20+Y.length):=hXs;have CA:=ai (fun wx=>Tryz.strconv_Atoi ⟨(gr n).toArray⟩ (n:Int) (by rw [ae,ht10];omega) (by simpa using hat) wx);have d20:decide ((20:Int)<=(X.size:Int))=true:=by simp;omega
   rw [<-hXX];have HX2:=ai x2;clear hXX hXs hX hlen hat x2
   gi_wp2
   refine ⟨trivial,rfl,(callsIn_wide.2 (CA.out wr)).mono ?_⟩;rintro e w2 ⟨rfl,t2,rfl⟩;have hb2:Below wr wr (Lib.bytesWorld wr 5 t2):=Lib.bytesWorld_below wr 5 t2;obtain ⟨w2,hw2⟩:∃ w2,Lib.bytesWorld wr 5 t2=w2:=⟨_,rfl⟩;rw [hw2] at hb2 ⊢;clear hw2 CA;have hst2:=(ah.thing hCt (hK i)).grow hst hb2;have hmv2:=hmv.trans (Mv.grow hb2 S');obtain ⟨SK,kK,_,backK⟩:=ah.snd hCt hst2;have hLi:(L++[at_])[i]'(HBA i (by omega))=n:=by rw [List.getElem_append_left hlt];exact hn
   obtain ⟨fn,tmps,assign,body,hy,hR⟩:=hY i _ _ w2 SK ⟨HBA i (by omega),rfl,rfl⟩ kK (hmv2.below hge hBW);rw [hLi] at hy
   gi_wp2
   refine ⟨rfl,hR.mono ?_⟩;rintro e w3 (⟨rfl,SK3,kK3,mK3⟩ | ⟨rfl,SK3,kK3,mK3⟩)
   ·obtain ⟨S3,hst3,m3⟩:=backK _ _ _ kK3 mK3
    gi_wp2
    go_roundw
    case rel=>exact ⟨i+1,S3,by omega,by rw [HX2.out, <-hYe],hst3,hmv2.trans m3⟩
    case measure=>
     rw [HX2.out];show (⟨Y.toArray⟩:ByteArray).size < X.size
     rw [ae,HS.out];omega
   ·obtain ⟨S3,hst3,m3⟩:=backK _ _ _ kK3 mK3
    gi_wp2
    refine YT (results_none rfl _ _ _) rfl ?_;exact ⟨⟨_,rfl⟩,.inr ⟨S3,hst3,hmv2.trans m3⟩⟩
  ·have hil:i=L.length:=by omega
   subst hil;have hX:bR (L.drop L.length)++tr=tr:=by rw [List.drop_length];rfl
   rw [hX] at hlen ⊢;obtain ⟨X,hXX⟩:∃ X,X=(⟨tr.toArray⟩:ByteArray):=⟨_,rfl⟩;have hXs:X.size=tr.length:=by rw [hXX,ae]
   have x1:X.extract 0 10=⟨(tr.take 10).toArray⟩:=by
    refine Zd (Array.toList_inj.1 ?_);rw [hXX,Zg,YV];simp only [List.extract,List.drop_zero,Nat.sub_zero]
   have hXl:X.size<=2000000000:=by omega
   have h20:20<=X.size:=by omega
   obtain ⟨_,ev,hev,hsh⟩:=(hpe _ (hpre _ _ hp hbw));have CA:=ai (Tryz.strconv_Atoi_err ⟨(tr.take 10).toArray⟩ (by rw [ae,Ze];omega) (by simpa using hno) ev wr hev hsh);have d20:decide ((20:Int)<=(X.size:Int))=true:=by simp;omega
   rw [<-hXX];clear hXX hXs hX hlen
   gi_wp2
   refine ⟨trivial,rfl,(callsIn_wide.2 CA.out).mono ?_⟩;rintro e w2 ⟨N,rfl,_,_,hb2⟩;clear CA;have hst2:=(ah.thing hCt (hK L.length)).grow hst hb2;have hmv2:=hmv.trans (Mv.grow hb2 S');obtain ⟨SK,kK,_,backK⟩:=ah.snd hCt hst2;have hLi:(L++[at_])[L.length]'(HBA _ (by omega))=at_:=by simp
   obtain ⟨fn,tmps,assign,body,hy,hR⟩:=hY L.length _ _ w2 SK ⟨HBA _ (by omega),rfl,rfl⟩ kK (hmv2.below hge hBW);rw [hLi] at hy
   gi_wp2
   refine ⟨rfl,hR.mono ?_⟩;rintro e w3 (⟨rfl,SK3,kK3,mK3⟩ | ⟨rfl,SK3,kK3,mK3⟩)
   ·obtain ⟨S3,hst3,m3⟩:=backK _ _ _ kK3 mK3
    gi_wp2
    go_end0;exact ⟨⟨_,rfl⟩,.inl ⟨_,S3,rfl,hst3,hmv2.trans m3⟩⟩
   ·obtain ⟨S3,hst3,m3⟩:=backK _ _ _ kK3 mK3
    gi_wp2
    go_end0;exact ⟨⟨_,rfl⟩,.inr ⟨S3,hst3,hmv2.trans m3⟩⟩
end
