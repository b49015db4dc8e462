import Derived.Test.YtbklfkpjoinofaaGreatDoorA32
import Derived.Test.YtbklfkpjoinofaaGreatDoorA25
set_option linter.all false
set_option maxRecDepth 100000
set_option maxHeartbeats 8000000
namespace Go.Proofs.YtbklfkpjoinofaaGreatDoor
open Go.RowKit Go.Proofs.Tryz
theorem nL (w:World) (ga gb n ca cb:Nat) (hn0:0 < n) (hn:n<=1000) (hca:n<=ca) (hcb:n<=cb) (hca2:ca<=9223372036854775807) (hcb2:cb<=9223372036854775807) (hgal:ga < w.heap.size) (hgbl:gb < w.heap.size)
  (F:Hid (∀ i,i < n->∃ (W H:Int) (no c1 c2:Nat) (ad1 ad2:Option Addr),w.cell? (zq ga (i*3))=some (.int .i64 W)/\w.cell? (zq ga (i*3+1))=some (.int .i64 H)/\w.cell? (zq ga (i*3+2))=some (.slice ad1 no c1)/\w.cell? (zq gb (i*3))=some (.int .i64 W)/\w.cell? (zq gb (i*3+1))=some (.int .i64 H)/\w.cell? (zq gb (i*3+2))=some (.slice ad2 no c2)/\no<=1000000000/\no<=c1/\no<=c2/\c1<=9223372036854775807/\c2<=9223372036854775807/\
   (0 < no->∃ g1 g2,ad1=some ⟨g1,0,none⟩/\ad2=some ⟨g2,0,none⟩/\g1 < w.heap.size/\g2 < w.heap.size/\∀ k,k < no->∃ (K A X C D E Co Ro:Int) (t:ByteArray),w.rangeAt g1 (k*9) [.int .i64 K,.int .i64 A,.int .i64 X,.int .i64 C,.int .i64 D,.int .i64 E,.int .i64 Co,.int .i64 Ro,.string t]/\w.rangeAt g2 (k*9) [.int .i64 K,.int .i64 A,.int .i64 X,.int .i64 C,.int .i64 D,.int .i64 E,.int .i64 Co,.int .i64 Ro,.string t]))):
  QB 68 #[.slice ga n ca,.slice gb n cb] w true:=by
 go_enter func68,ntmps68
 go_wp2_with fail
 go_loopg [5,6] (n+1) (fun gg x _ wr=>∃ i:Nat,i<=n/\n - i < gg/\x=.int .i64 (i:Int)/\Below w w wr)
 case atStart=>exact ⟨0,by omega,by omega,rfl,ZV _ _⟩
 case round=>
  obtain ⟨i,hi,hgi,rfl,hbw⟩:=hrel;obtain ⟨GK,hGK⟩:∃ GK,GK=gk:=⟨_,rfl⟩;have HBW:=aa hbw;by_cases hlt:i < n
  ·have d1:decide ((i:Int) < (n:Int))=true:=by simp;omega
   obtain ⟨W,H,no,c1,c2,ad1,ad2,a0,a1,a2,b0,b1,b2,hno,hc1,hc2,hc12,hc22,hops⟩:=F.out i hlt;have HOP:=aa hops;clear hops;have A2:=aa a2;have B2:=aa b2;rw [<-Zw hbw (p:=zq ga (i*3)) hgal] at a0;rw [<-Zw hbw (p:=zq ga (i*3+1)) hgal] at a1;rw [<-Zw hbw (p:=zq ga (i*3+2)) hgal] at a2;rw [<-Zw hbw (p:=zq gb (i*3)) hgbl] at b0;rw [<-Zw hbw (p:=zq gb (i*3+1)) hgbl] at b1;rw [<-Zw hbw (p:=zq gb (i*3+2)) hgbl] at b2;clear hbw;go_wp2_with fail
   go_quiet (fail)
   go_wp2_with fail
   go_loopg [6] (no+1) (fun gg x wr=>∃ k:Nat,k<=no/\no - k < gg/\x=.int .i64 (k:Int)/\Below w w wr)
   case atStart=>exact ⟨0,by omega,by omega,rfl,aY HBW.out⟩
   case round=>
    obtain ⟨k,hk,hgk,rfl,hb2⟩:=hrel;have HB2:=aa hb2;clear a0 a1 a2 b0 b1 b2;have a2:=(Zw hb2 (p:=zq ga (i*3+2)) hgal).trans A2.out;have b2:=(Zw hb2 (p:=zq gb (i*3+2)) hgbl).trans B2.out;have hga9:=ZR hgal hb2.size;have hgb9:=ZR hgbl hb2.size;by_cases hkl:k < no
    ·have d2:decide ((k:Int) < (no:Int))=true:=by simp;omega
     obtain ⟨g1,g2,rfl,rfl,hg1l,hg2l,hR⟩:=HOP.out (by omega);obtain ⟨K,A,X,C,D,E,Co,Ro,t,R1,R2⟩:=hR k hkl;have Rg1:Hid (_:Prop):=fun j u hj=>(ZS (a:=zq g1 (k*9+j)) (hb2.block g1 hg1l)).trans (R1 j u hj)
     have Rg2:Hid (_:Prop):=fun j u hj=>(ZS (a:=zq g2 (k*9+j)) (hb2.block g2 hg2l)).trans (R2 j u hj)
     have hg19:=ZR hg1l hb2.size;have hg29:=ZR hg2l hb2.size;clear R1 R2 hR hb2;go_wp2_with fail
     refine ap 16 _ (ag [.slice ga n ca,(i:Int),zq ga (i*3),zq ga (i*3+2),.slice g1 no c1,(k:Int),zq g1 (k*9),.agg #[K,A,X,C,D,E,Co,Ro,t],.slice gb n cb,(i:Int),zq gb (i*3),zq gb (i*3+2),.slice g2 no c2,(k:Int),zq g2 (k*9),.agg #[K,A,X,C,D,E,Co,Ro,t]]) (by kernel_rfl) rfl (by kernel_rfl) aq ?_;simp only [TD]
     iterate 7
      refine ⟨fun w1 hG hd=>?_,fun v=>?_⟩
      ·have c1:=(ZS (a:=zq ga (i*3+2)) (hG.block ga hga9)).trans a2
       try (have d:=hd _ ⟨ZM _⟩ rfl;simp only [ag,GD] at d;subst d)
       try (have d:=hd _ ⟨.tail _ (.head _)⟩ rfl;simp only [ag,GD] at d;subst d)
       clear hd;go_wp2;exact RG
      simp only [TN]
     refine ⟨fun w1 hG hd=>?_,fun v7=>?_⟩
     ·have d6:=hd ⟨6,.data⟩ (by simp) rfl;simp only [ag,GD] at d6;clear hd;subst d6;refine wpList_load_mid rfl 31 (.tmp 73) rfl g1 (k*9) rfl [.int .i64 K,.int .i64 A,.int .i64 X,.int .i64 C,.int .i64 D,.int .i64 E,.int .i64 Co,.int .i64 Ro,.string t] _ (fun j u hj=>(ZS (a:=zq g1 (k*9+j)) (hG.block g1 hg19)).trans (Rg1.out j u hj)) underlying31 rfl (by kernel_rfl) ?_;refine Zq ?_;exact ⟨rfl,rfl,rfl,af.refl _⟩
     simp only [TN]
     iterate 7
      refine ⟨fun w1 hG hd=>?_,fun v=>?_⟩
      ·have c1:=(ZS (a:=zq gb (i*3+2)) (hG.block gb hgb9)).trans b2
       try (have d:=hd _ ⟨ZM _⟩ rfl;simp only [ag,GD] at d;subst d)
       try (have d:=hd _ ⟨.tail _ (.head _)⟩ rfl;simp only [ag,GD] at d;subst d)
       clear hd;go_wp2;exact RG
      simp only [TN]
     refine ⟨fun w1 hG hd=>?_,fun v15=>?_⟩
     ·have d14:=hd ⟨14,.data⟩ (by simp) rfl;simp only [ag,GD] at d14;clear hd;subst d14;refine wpList_load_mid rfl 31 (.tmp 81) rfl g2 (k*9) rfl [.int .i64 K,.int .i64 A,.int .i64 X,.int .i64 C,.int .i64 D,.int .i64 E,.int .i64 Co,.int .i64 Ro,.string t] _ (fun j u hj=>(ZS (a:=zq g2 (k*9+j)) (hG.block g2 hg29)).trans (Rg2.out j u hj)) underlying31 rfl (by kernel_rfl) ?_;refine Zq ?_;exact ⟨rfl,rfl,rfl,af.refl _⟩
     simp only [TN];intro w2 hG hd;have d7:=hd 7 (by omega);have d15:=hd 15 (by omega);simp only [ag,GD] at d7 d15;subst d7 d15;have hb3:=aa (HB2.out.trans (hG.mono HB2.out.size));clear hd hG Rg1 Rg2 a2 b2 HB2;go_wp2_with fail
     go_roundg (gk - 1)
     case measure=>omega
     case rel=>exact ⟨k+1,by omega,by omega,by congr 1,hb3.out⟩
    ·obtain rfl:k=no:=by omega
     have d2:decide ((k:Int) < (k:Int))=false:=by simp
     clear hb2;go_wp2_with fail
     go_roundg (GK - 1)
     case measure=>omega
     case rel=>exact ⟨i+1,by omega,by omega,by congr 1,HB2.out⟩
  ·obtain rfl:i=n:=by omega
   have d1:decide ((i:Int) < (i:Int))=false:=by simp
   clear hbw;go_wp2_with fail
   go_ret;exact ⟨rfl,HBW.out⟩
theorem vH (w:World) (va vb:Value) (m c1 c2:Nat) (ad1 ad2:Option Addr) (t:ByteArray) (hm:m<=1000) (hc1:m<=c1) (hc2:m<=c2) (hc12:c1<=9223372036854775807) (hc22:c2<=9223372036854775807)
  (HS:Hid (∀ wx,Below w w wx->QB 68 #[va,vb] wx true))
  (HM:Hid (0 < m->∃ g1 g2,ad1=some ⟨g1,0,none⟩/\ad2=some ⟨g2,0,none⟩/\g1 < w.heap.size/\g2 < w.heap.size/\∀ i,i < m->∃ (x:ByteArray) (p:Int),w.rangeAt g1 (i*2) [.string x,.int .i64 (p:Int)]/\w.rangeAt g2 (i*2) [.string x,.int .i64 (p:Int)])):
  QB 31 #[.agg #[t,va,.slice ad1 m c1],.agg #[t,vb,.slice ad2 m c2]] w true:=by
 have bA:Below w w ((w.alloc (.cells #[t,va,.slice ad1 m c1] 29)).alloc (.cells #[t,vb,.slice ad2 m c2] 29)):=((ZV _ w).alloc (ZX _) _).alloc (by first | (simp;done) | (simp;omega)) _;go_enter func31,ntmps31
 go_wp2_with fail
 refine (HS.out _ bA).mono ?_;rintro e w1 ⟨rfl,hB1⟩;have hb1:=bA.trans (hB1.mono bA.size);have hz1:w.heap.size+2<=w1.heap.size:=by have:=hB1.size;simpa using this
 have ka:w1.heap[w.heap.size]? =some (.cells #[t,va,.slice ad1 m c1] 29 (0,0)):=(hB1.block w.heap.size (by first | (simp;done) | (simp;omega))).trans ((ZC _ _ w.heap.size (by first | (simp;done) | (simp;omega))).trans (ZE w _));have kb:w1.heap[w.heap.size+1]? =some (.cells #[t,vb,.slice ad2 m c2] 29 (0,0)):=(hB1.block (w.heap.size+1) (by first | (simp;done) | (simp;omega))).trans (YE w _ _);obtain ⟨ba,hba⟩:∃ k,k=w.heap.size:=⟨_,rfl⟩;obtain ⟨bb,hbb⟩:∃ k,k=w.heap.size+1:=⟨_,rfl⟩;rw [<-hbb] at kb;rw [<-hba] at ka;have hba9:ba < w1.heap.size:=by omega
 have hbb9:bb < w1.heap.size:=by omega
 have a0:w1.cell? ba=t:=by rw [ZL w1 ba 0 _ _ (0,0) ka];rfl
 have a2:w1.cell? (zq ba 2)=some (.slice ad1 m c1):=by rw [ZL w1 ba 2 _ _ (0,0) ka];rfl
 have b0:w1.cell? bb=t:=by rw [ZL w1 bb 0 _ _ (0,0) kb];rfl
 have b2:w1.cell? (zq bb 2)=some (.slice ad2 m c2):=by rw [ZL w1 bb 2 _ _ (0,0) kb];rfl
 have HB1:=aa hb1;have A2:=aa a2;have B2:=aa b2;have HBA:=aa hba;have HBB:=aa hbb;rw [<-hbb, <-hba];clear hb1 hB1 ka kb bA HS hz1 hba hbb;go_wp2_with fail
 go_loopg [6] (m+1) (fun gg y wr=>∃ i:Nat,i<=m/\m - i < gg/\y=.int .i64 (i:Int)/\Below w1 w1 wr)
 case atStart=>exact ⟨0,by omega,by omega,rfl,ZV _ _⟩
 case round=>
  obtain ⟨i,hi,hgi,rfl,hb2⟩:=hrel;have HB2:=aa hb2;clear a0 a2 b0 b2;have a2:=(Zw hb2 (p:=zq ba 2) hba9).trans A2.out;have b2:=(Zw hb2 (p:=zq bb 2) hbb9).trans B2.out;have hba8:=ZR hba9 hb2.size;have hbb8:=ZR hbb9 hb2.size;by_cases hlt:i < m
  ·have d1:decide ((i:Int) < (m:Int))=true:=by simp;omega
   obtain ⟨g1,g2,rfl,rfl,hg1l,hg2l,hR⟩:=HM.out (by omega);obtain ⟨x,p,R1,R2⟩:=hR i hlt;have hb3:=HB1.out.trans (hb2.mono HB1.out.size);have Rg1:Hid (_:Prop):=fun j u hj=>(ZS (a:=zq g1 (i*2+j)) (hb3.block g1 hg1l)).trans (R1 j u hj)
   have Rg2:Hid (_:Prop):=fun j u hj=>(ZS (a:=zq g2 (i*2+j)) (hb3.block g2 hg2l)).trans (R2 j u hj)
   have hg19:=ZR hg1l hb3.size;have hg29:=ZR hg2l hb3.size;clear R1 R2 hR hb2 hb3;go_wp2_with fail
   refine ap 10 _ (ag [zq ba 2,.slice g1 m c1,(i:Int),zq g1 (i*2),.agg #[x,.int .i64 (p:Int)],zq bb 2,.slice g2 m c2,(i:Int),zq g2 (i*2),.agg #[x,.int .i64 (p:Int)]]) (by kernel_rfl) rfl (by kernel_rfl) aq ?_;simp only [TD]
   iterate 4
    refine ⟨fun w1 hG hd=>?_,fun v=>?_⟩
    ·have c1:=(ZS (a:=zq ba 2) (hG.block ba hba8)).trans a2
     try (have d:=hd _ ⟨ZM _⟩ rfl;simp only [ag,GD] at d;subst d)
     try (have d:=hd _ ⟨.tail _ (.head _)⟩ rfl;simp only [ag,GD] at d;subst d)
     clear hd;go_wp2;exact RG
    simp only [TN]
   refine ⟨fun w1 hG hd=>?_,fun v4=>?_⟩
   ·have d3:=hd ⟨3,.data⟩ (by simp) rfl;simp only [ag,GD] at d3;clear hd;subst d3;refine wpList_load_mid rfl 98 (.tmp 40) rfl g1 (i*2) rfl [.string x,.int .i64 (p:Int)] _ (fun j u hj=>(ZS (a:=zq g1 (i*2+j)) (hG.block g1 hg19)).trans (Rg1.out j u hj)) underlying98 rfl (by kernel_rfl) ?_;refine Zq ?_;exact ⟨rfl,rfl,rfl,af.refl _⟩
   simp only [TN]
   iterate 4
    refine ⟨fun w1 hG hd=>?_,fun v=>?_⟩
    ·have c1:=(ZS (a:=zq bb 2) (hG.block bb hbb8)).trans b2
     try (have d:=hd _ ⟨ZM _⟩ rfl;simp only [ag,GD] at d;subst d)
     try (have d:=hd _ ⟨.tail _ (.head _)⟩ rfl;simp only [ag,GD] at d;subst d)
     clear hd;go_wp2;exact RG
    simp only [TN]
   refine ⟨fun w1 hG hd=>?_,fun v9=>?_⟩
   ·have d8:=hd ⟨8,.data⟩ (by simp) rfl;simp only [ag,GD] at d8;clear hd;subst d8;refine wpList_load_mid rfl 98 (.tmp 45) rfl g2 (i*2) rfl [.string x,.int .i64 (p:Int)] _ (fun j u hj=>(ZS (a:=zq g2 (i*2+j)) (hG.block g2 hg29)).trans (Rg2.out j u hj)) underlying98 rfl (by kernel_rfl) ?_;refine Zq ?_;exact ⟨rfl,rfl,rfl,af.refl _⟩
   simp only [TN];intro w2 hG hd;have d4:=hd 4 (by omega);have d9:=hd 9 (by omega);simp only [ag,GD] at d4 d9;subst d4 d9;have hb4:=aa (HB2.out.trans (hG.mono HB2.out.size));clear hd hG Rg1 Rg2 a2 b2 HB2;go_wp2_with fail
   go_roundg (gk - 1)
   case measure=>omega
   case rel=>exact ⟨i+1,by omega,by omega,by congr 1,hb4.out⟩
  ·obtain rfl:i=m:=by omega
   have d1:decide ((i:Int) < (i:Int))=false:=by simp
   clear hb2;go_wp2_with fail
   go_ret;exact ⟨rfl,HB1.out.trans (HB2.out.mono HB1.out.size)⟩
theorem vV (w:World) (s:ByteArray) (r c font N root o info cat:Nat) (ti:ByteArray) (nr no ct:List UInt8) (G0 G2 G3 G4 G5 G6:World->Prop) (P:Nat->World->Prop) (Z:Ending->World->Prop) (hf:font<=1000) (hN:N<=80) (ho:o<=1000000) (lr:nr.length<=30) (lo:no.length<=30)
  (HP:Hid (CP 67 #[s] (w.alloc (.cells #[.string ⟨#[]⟩,.slice none 0 0,.slice none 0 0] 29)) fun e w'=>e=.returned (.tuple #[zp r,true])/\G0 w'))
  (HW:Hid (∀ w1,G0 w1->CP 69 #[zp r,.string ⟨#[60,60,32,47,84,121,112,101,32,47,70,111,110,116,32,47,83,117,98,116,121,112,101,32,47,84,121,112,101,49,32,47,66,97,115,101,70,111,110,116,32,47,72,101,108,118,101,116,105,99,97,32,62,62]⟩] w1 fun e w'=>e=.returned (font:Int)/\P 0 w'))
  (F:Hid (∀ i w1,P i w1->w1.cell? r=some (.pointer (some ⟨c,0,none⟩))/\w1.cell? (zq c 2)=some (.bool false)/\∃ ad cap,w1.cell? (zq r 2)=some (.slice ad N cap)))
  (HPg:Hid (∀ i w1,i < N->P i w1->CP 70 #[zp r,(i:Int),(font:Int)] w1 fun e w'=>e=.returned (.tuple #[])/\P (i+1) w'))
  (HN:Hid (∀ w1,P N w1->CP 71 #[zp r,((font:Int)+1:Int),(N:Int),(1:Int)] w1 fun e w'=>e=.returned (root:Int)/\G2 w'))
  (HM:Hid (∀ w1,G2 w1->CP 72 #[zp r,((font:Int)+1:Int)] w1 fun e w'=>e=.returned (o:Int)/\G3 w'))
  (HT:Hid (∀ w1,G3 w1->CP 73 #[zp r] w1 fun e w'=>e=.returned (info:Int)/\G4 w'))
  (HRo:Hid (∀ w1,G4 w1->∀ w2,Below w1 w1 w2->QB 74 #[(o:Int)] w2 (.string ⟨no.toArray⟩)))
  (HRr:Hid (∀ w1,G4 w1->∀ w2,Below w1 w1 w2->QB 74 #[(root:Int)] w2 (.string ⟨nr.toArray⟩)))
  (HCT:Hid (ct=[60,60,32,47,84,121,112,101,32,47,67,97,116,97,108,111,103,32,47,80,97,103,101,115,32]++nr++[32]++(if 0 < o then [47,79,117,116,108,105,110,101,115,32]++no++[32] else [])++[62,62]))
  (HC:Hid (∀ w1,G4 w1->∀ w2,Below w1 w1 w2->CP 69 #[zp r,.string ⟨ct.toArray⟩] w2 fun e w'=>e=.returned (cat:Int)/\G5 w'))
  (HTb:Hid (∀ w1,G5 w1->CP 75 #[zp r,(cat:Int),(info:Int)] w1 fun e w'=>e=.returned (.tuple #[])/\G6 w'))
  (F6:Hid (∀ w1,G6 w1->∃ vp vm:Value,vp.oneCell'=true/\vm.oneCell'=true/\w1.cell? r=some (.pointer (some ⟨c,0,none⟩))/\w1.cell? (zq c 2)=some (.bool false)/\w1.cell? (zq c 1)=some (.int .i64 (s.size:Int))/\w1.rangeAt r 1 [.string ti,vp,vm]/\w1.heap[w.heap.size]? =some (.cells #[.string ⟨#[]⟩,.slice none 0 0,.slice none 0 0] 29 (0,0))/\Z (.returned (.tuple #[.agg #[ti,vp,vm],oz])) (w1.setRow w.heap.size #[ti,vp,vm]))):
  CP 30 #[s] w Z:=by
 go_enter func30,ntmps30
 go_wp2_with fail
 refine HP.out.mono ?_;rintro e w0 ⟨rfl,g0⟩;go_wp2_with fail
 refine (HW.out w0 g0).mono ?_;rintro e w1 ⟨rfl,p0⟩;clear g0;go_wp2_with fail
 go_loopg [7] (N+1) (fun gg x wr=>∃ i:Nat,i<=N/\N - i < gg/\x=.int .i64 (i:Int)/\P i wr)
 case atStart=>exact ⟨0,by omega,by omega,rfl,p0⟩
 case round=>
  obtain ⟨i,hi,hgi,rfl,hp⟩:=hrel;clear p0;obtain ⟨a0,a2,ad,cap,a3⟩:=F.out i wr hp;by_cases hlt:i < N
  ·have d1:decide ((i:Int) < (N:Int))=true:=by simp;omega
   have HX:=aa (HPg.out i wr hlt hp);go_wp2_with fail
   refine HX.out.mono ?_;rintro e w2 ⟨rfl,h2⟩;clear HX hp a0 a2 a3;go_wp2_with fail
   go_roundg (gk - 1)
   case measure=>omega
   case rel=>exact ⟨i+1,by omega,by omega,by congr 1,h2⟩
  ·obtain rfl:i=N:=by omega
   have d1:decide ((i:Int) < (i:Int))=false:=by simp
   have HX:=aa (HN.out wr hp);go_wp2_with fail
   refine HX.out.mono ?_;rintro e w2 ⟨rfl,g2⟩;clear HX hp a0 a2 a3;go_wp2_with fail
   refine (HM.out w2 g2).mono ?_;rintro e w3 ⟨rfl,g3⟩;clear g2;go_wp2_with fail
   refine (HT.out w3 g3).mono ?_;rintro e w4 ⟨rfl,g4⟩;clear g3;have zr:=ae nr;have zo:=ae no;have fin:∀ w5:World,G5 w5->CP 75 #[zp r,(cat:Int),(info:Int)] w5 fun e w'=>e=.returned (.tuple #[])/\G6 w':=HTb.out
   by_cases ho0:0 < o
   ·have d2:decide (0 < (o:Int))=true:=by simp;omega
    have HX:=aa (HRo.out w4 g4 w4 (ZV _ _));go_wp2_with fail
    refine HX.out.mono ?_;rintro e w5 ⟨rfl,b5⟩;have HX:=aa (HRr.out w4 g4 w5 b5);have B5:=aa b5;clear b5;go_wp2_with fail
    refine HX.out.mono ?_;rintro e w6 ⟨rfl,b6⟩;have HX:Hid (CP 69 #[.pointer (some ⟨r,0,none⟩),.string (⟨#[60,60,32,47,84,121,112,101,32,47,67,97,116,97,108,111,103,32,47,80,97,103,101,115,32]⟩++⟨nr.toArray⟩++⟨#[32]⟩++(⟨#[47,79,117,116,108,105,110,101,115,32]⟩++⟨no.toArray⟩++⟨#[32]⟩)++⟨#[62,62]⟩)] w6 fun e w'=>e=.returned (cat:Int)/\G5 w'):=by
     have h9:=HC.out w4 g4 w6 (B5.out.trans (b6.mono B5.out.size));rw [HCT.out,ZO ho0] at h9;have e9:(⟨#[60,60,32,47,84,121,112,101,32,47,67,97,116,97,108,111,103,32,47,80,97,103,101,115,32]⟩++⟨nr.toArray⟩++⟨#[32]⟩++(⟨#[47,79,117,116,108,105,110,101,115,32]⟩++⟨no.toArray⟩++⟨#[32]⟩)++⟨#[62,62]⟩:ByteArray)=⟨([60,60,32,47,84,121,112,101,32,47,67,97,116,97,108,111,103,32,47,80,97,103,101,115,32]++nr++[32]++([47,79,117,116,108,105,110,101,115,32]++no++[32])++[62,62]).toArray⟩:=by
      refine Zj (YF ?_);simp
     rw [e9];exact h9
    clear b6 B5;go_wp2_with fail
    refine HX.out.mono ?_;rintro e w7 ⟨rfl,g5⟩;have HX:=aa (fin w7 g5);clear fin g4;go_wp2_with fail
    refine HX.out.mono ?_;rintro e w8 ⟨rfl,g6⟩;obtain ⟨vp,vm,hvp,hvm,a0,a2,a1,ar,kb,hZ⟩:=F6.out w8 g6;have AR:=aa ar;have KB:=aa kb;have KR:=aa (Yt _ w.heap.size _ #[ti,vp,vm] _ _ KB.out);have HZZ:=aa hZ;have HV:Hid ((#[ti,vp,vm]:Array Value).all (·.oneCell')=true):=all_oneCell_toArray (cs:=[.string ti,vp,vm]) (by intro v hv;simp only [YJ,XV,or_false] at hv;rcases hv with rfl | rfl | rfl;exact rfl;exact hvp;exact hvm);clear ar kb hZ g5 g6 HX;go_wp2_with (first
     | (refine wpList_load_mid rfl 29 (.tmp 104) rfl r 1 rfl _ _ AR.out underlying29 rfl (by kernel_rfl) ?_)
     | (refine YM rfl 29 (.tmp 2) _ rfl w.heap.size _ rfl rfl _ _ KB.out (by kernel_rfl) rfl HV.out ?_))
    refine Zb (dP rfl _ _ w.heap.size 29 _ (0,0) _ rfl KR.out underlying29 rfl (by kernel_rfl)) rfl ?_;exact HZZ.out
   ·have d2:decide (0 < (o:Int))=false:=by simp;omega
    have d2':¬ 0 < o:=ho0;have HX:=aa (HRr.out w4 g4 w4 (ZV _ _));go_wp2_with fail
    refine HX.out.mono ?_;rintro e w6 ⟨rfl,b6⟩;have HX:Hid (CP 69 #[.pointer (some ⟨r,0,none⟩),.string (⟨#[60,60,32,47,84,121,112,101,32,47,67,97,116,97,108,111,103,32,47,80,97,103,101,115,32]⟩++⟨nr.toArray⟩++⟨#[32]⟩++⟨#[]⟩++⟨#[62,62]⟩)] w6 fun e w'=>e=.returned (cat:Int)/\G5 w'):=by
     have h9:=HC.out w4 g4 w6 b6;rw [HCT.out,ZU ho0] at h9;have e9:(⟨#[60,60,32,47,84,121,112,101,32,47,67,97,116,97,108,111,103,32,47,80,97,103,101,115,32]⟩++⟨nr.toArray⟩++⟨#[32]⟩++⟨#[]⟩++⟨#[62,62]⟩:ByteArray)=⟨([60,60,32,47,84,121,112,101,32,47,67,97,116,97,108,111,103,32,47,80,97,103,101,115,32]++nr++[32]++[]++[62,62]).toArray⟩:=by
      refine Zj (YF ?_);simp
     rw [e9];exact h9
    clear b6;go_wp2_with fail
    refine HX.out.mono ?_;rintro e w7 ⟨rfl,g5⟩;have HX:=aa (fin w7 g5);clear fin g4;go_wp2_with fail
    refine HX.out.mono ?_;rintro e w8 ⟨rfl,g6⟩;obtain ⟨vp,vm,hvp,hvm,a0,a2,a1,ar,kb,hZ⟩:=F6.out w8 g6;have AR:=aa ar;have KB:=aa kb;have KR:=aa (Yt _ w.heap.size _ #[ti,vp,vm] _ _ KB.out);have HZZ:=aa hZ;have HV:Hid ((#[ti,vp,vm]:Array Value).all (·.oneCell')=true):=all_oneCell_toArray (cs:=[.string ti,vp,vm]) (by intro v hv;simp only [YJ,XV,or_false] at hv;rcases hv with rfl | rfl | rfl;exact rfl;exact hvp;exact hvm);clear ar kb hZ g5 g6 HX;go_wp2_with (first
     | (refine wpList_load_mid rfl 29 (.tmp 104) rfl r 1 rfl _ _ AR.out underlying29 rfl (by kernel_rfl) ?_)
     | (refine YM rfl 29 (.tmp 2) _ rfl w.heap.size _ rfl rfl _ _ KB.out (by kernel_rfl) rfl HV.out ?_))
    refine Zb (dP rfl _ _ w.heap.size 29 _ (0,0) _ rfl KR.out underlying29 rfl (by kernel_rfl)) rfl ?_;exact HZZ.out
def qx (vo:Nat->Value):Nat->List Value
 | 0=>[]
 | i+1=>qx vo i++[.int .i64 0,.int .i64 0,vo i]
theorem ul (w:World) (x:Value) (yb N capy:Nat) (ady:Option Addr) (gy:Nat) (hx1:x.oneCell'=true) (bs:ByteArray) (vo:Nat->Value) (hvo:∀ i,i < N->(vo i).oneCell'=true/\∃ a l q,vo i=.slice a l q) (hN:N<=80) (hgy:0 < N->ady=some ⟨gy,0,none⟩) (hcy:N<=capy) (hcy2:capy<=9223372036854775807) (I:Nat->Nat->World->Prop) (Z:Ending->World->Prop) (hyb:yb < w.heap.size) (hgyl:0 < N->gy < w.heap.size)
  (y1:w.cell? (zq yb 1)=some (.slice ady N capy)) (yo:∀ i,i < N->w.cell? (zq gy (i*3+2))=some (vo i))
  (HBy:Hid (∀ wx,Below w w wx->QE 20 #[x] wx bs))
  (HPg:Hid (∀ wx,Below w w wx->CP 67 #[bs] wx fun e w'=>∃ r c:Nat,e=.returned (.tuple #[zp r,true])/\I r c w'/\Below wx wx w'))
  (FI:Hid (∀ r c w1,I r c w1->w1.cell? (zp r)=some (.pointer (some ⟨c,0,none⟩))/\w1.cell? (zq c 1)=some (.int .i64 (bs.size:Int))/\w1.cell? (zp c)=some (.string bs)/\r < w1.heap.size/\∃ ad cap,w1.cell? (zq r 2)=some (.slice ad N cap)))
  (hbs:bs.size<=2000000000)
  (HS:Hid (∀ r c w1 wx v ad cap,I r c w1->w1.cell? (zq r 2)=some (.slice ad N cap)->Below w1 w1 wx->wx.ownsRow w1.heap.size 100 3 v N (qx vo N)->CP 68 #[.slice ad N cap,v] wx fun e w'=>e=.returned true/\Z (.returned true) w')):
  CP 29 #[.agg #[x,zp yb]] w Z:=by
 obtain ⟨pb,hpbe⟩:∃ k,k=w.heap.size:=⟨_,rfl⟩;obtain ⟨wa,hwa⟩:∃ wa,wa=w.alloc (.cells #[x,zp yb] 35):=⟨_,rfl⟩;have bA:Below w w wa:=by rw [hwa];exact (ZV _ w).alloc (ZX _) _
 have kp:wa.heap[pb]? =some (.cells #[x,zp yb] 35 (0,0)):=by rw [hwa,hpbe];exact ZE w _
 have zA:pb < wa.heap.size:=by rw [hwa,hpbe];simp
 have p0:wa.cell? pb=some x:=by rw [ZL wa pb 0 _ _ (0,0) kp];rfl
 have HY1:=aa (HBy.out wa bA);have HP1:=aa (HPg.out wa bA);have HWA:=aa hwa;have HPB:=aa hpbe;clear hwa hpbe HBy HPg;go_enter func29,ntmps29
 go_wp2_with fail
 rw [<-HWA.out, <-HPB.out];refine HY1.out.mono ?_;rintro e w1 ⟨rfl,rfl⟩;go_wp2_with fail
 refine HP1.out.mono ?_;rintro e w2 ⟨r,c,rfl,hI,b2⟩;obtain ⟨f0,f1,f2,hr,ad,cap,f3⟩:=FI.out r c w2 hI;have hB2:=bA.trans (b2.mono bA.size);have kp2:w2.heap[pb]? =some (.cells #[x,zp yb] 35 (0,0)):=(b2.block pb zA).trans kp;have p1:w2.cell? (zq pb 1)=zp yb:=by rw [ZL w2 pb 1 _ _ (0,0) kp2];rfl
 have y12:w2.cell? (zq yb 1)=some (.slice ady N capy):=(hB2.cell (p:=zq yb 1) hyb).trans y1;have hpb2:pb < w2.heap.size:=ZR zA b2.size;have hyb2:yb < w2.heap.size:=ZR hyb hB2.size;have F3:=aa f3;have HII:=aa hI;have P1:=aa p1;have Y12:=aa y12;have YO:Hid (∀ i,i < N->gy < w2.heap.size/\w2.cell? (zq gy (i*3+2))=some (vo i)):=fun i hi=>⟨ZR (hgyl (by omega)) hB2.size,(hB2.cell (p:=zq gy (i*3+2)) (hgyl (by omega))).trans (yo i hi)⟩
 clear hB2 kp2 kp b2 bA HY1 HP1 HWA hI y1 yo p0;go_wp2_with fail
 go_quiet (fail)
 go_wp2_with fail
 go_loopg [5,6] (N+1) (fun gg xv ix wr=>∃ (i:Nat) (v:Value),xv=v/\i<=N/\N - i < gg/\ix=.int .i64 (i:Int)/\wr.ownsRow w2.heap.size 100 3 v i (qx vo i)/\Below w2 w2 wr)
 case atStart=>exact ⟨0,_,rfl,by omega,by omega,rfl,⟨by simp [qx],.inl ⟨rfl,rfl⟩⟩,⟨rfl,rfl,rfl,ZX _,fun _ _=>rfl⟩⟩
 case round=>
  obtain ⟨i,v,hxv,hi,hgk,rfl,ow,hBe⟩:=hrel;obtain ⟨adl,capl,hv⟩:∃ ad cap,v=Value.slice ad i cap:=by
   rcases ow.2 with ⟨hu,hz⟩ | ⟨gg,cap,cur,hu,_⟩
   ·exact ⟨none,0,by rw [hu,hz]⟩
   ·exact ⟨_,_,hu⟩
  subst hv hxv;have k1:wr.cell? (zq pb 1)=zp yb:=(hBe.cell (p:=zq pb 1) hpb2).trans P1.out;have k2:wr.cell? (zq yb 1)=some (.slice ady N capy):=(hBe.cell (p:=zq yb 1) hyb2).trans Y12.out;have hsz:=hBe.size;by_cases hlt:i < N
  ·obtain ⟨hgg,ko⟩:=YO.out i hlt;have k3:wr.cell? (zq gy (i*3+2))=some (vo i):=(hBe.cell (p:=zq gy (i*3+2)) hgg).trans ko;obtain ⟨ho1,ao,lo,qo,hoe⟩:=hvo i hlt;have HOE:=aa hoe;rw [hoe] at k3;have hady:=hgy (by omega);subst hady;have d1:decide ((i:Int) < (N:Int))=true:=by simp;omega
   have HBE:=aa hBe;clear hoe ho1 ko hBe;have hl:qx vo (i+1)=qx vo i++[.int .i64 0,.int .i64 0,.slice ao lo qo]:=by rw [qx,HOE.out]
   have HL:=aa hl;clear hl;go_wp2_with (at_builtin;refine bQ rfl (.tmp 61) (.tmp 73) 26 rfl 100 (.agg #[oz,oz,.slice none 0 0]) 3 40 Tryz.infoPg2 rfl (by omega) underlying26 w2.heap.size _ i (qx vo i) rfl (ow.alloc _) (by simp;omega) ⟨wr,0,none⟩ 1 rfl [.int .i64 0,.int .i64 0,.slice ao lo qo] rfl (kK wr #[oz,oz,.slice ao lo qo] _) (by intro u hu;simp at hu;rcases hu with rfl | rfl | rfl <;> rfl) (by omega) (by omega) ?_)
   intro v7 w7 hO7 hg7 hat7;have HO:Hid (w7.ownsRow w2.heap.size 100 3 v7 (i+1) (qx vo (i+1))):=by
    show w7.ownsRow _ _ _ _ _ _
    rw [HL.out];exact hO7
   have HB7:Hid (Below w2 w2 w7):=by
    refine HBE.out.trans ?_;exact ((ZV w2.heap.size wr).alloc (by omega) _).grown hg7 (by simp;omega) (fun k hk=>(ow.lt k hk).1)
   have hform7:∃ ad L cap,v7=.slice ad L cap:=by
    rcases hO7.2 with ⟨hu,_⟩ | ⟨gg,cap,cur,hu,_⟩
    ·exact ⟨_,_,_,hu⟩
    ·exact ⟨_,_,_,hu⟩
   obtain ⟨ad7,L7,cap7,hv7⟩:=hform7;rw [hv7] at HO ⊢;clear hv7 hO7 hg7 hat7 ow HBE HL;go_wp2_with fail
   go_roundg (gk - 1)
   case measure=>omega
   case rel=>exact ⟨i+1,_,rfl,by omega,by omega,by first | rfl | (congr 1;done) | (congr 1;omega),HO.out,HB7.out⟩
  ·have hie:i=N:=by omega
   subst hie;have d1:decide ((i:Int) < (i:Int))=false:=by simp
   have HX:=aa (HS.out r c w2 wr _ ad cap HII.out F3.out hBe ow);have k4:wr.cell? (zq r 2)=some (.slice ad i cap):=(hBe.cell (p:=zq r 2) hr).trans F3.out;clear HS ow hBe;go_wp2_with fail
   refine HX.out.mono ?_;rintro e w3 ⟨rfl,hZ⟩;go_wp2_with fail
   first
    | (go_ret;exact hZ)
    | exact hZ
end Go.Proofs.YtbklfkpjoinofaaGreatDoor
