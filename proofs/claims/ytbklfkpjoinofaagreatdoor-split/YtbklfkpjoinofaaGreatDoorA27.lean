import Derived.Test.YtbklfkpjoinofaaGreatDoorA16
set_option linter.all false
set_option maxRecDepth 100000
set_option maxHeartbeats 8000000
namespace Go.Proofs.YtbklfkpjoinofaaGreatDoor
open Go.RowKit Go.Proofs.Tryz
theorem oG (w:World) (Eb first font fp b n cap m capm root outl info cat:Nat) (adm:Option Addr) (adz:Option Addr) (ti:ByteArray) (zs:Nat->Int×Int) (pa:Nat->Int) (pb:Nat->List UInt8) (qt nm eo ct:List UInt8) (A0 A1:World->Prop) (Pq:Nat->Nat->Nat->Nat->World->Prop) (Nq:Nat->Nat->Nat->World->Prop) (Mk T1 T2 C1:World->Prop) (Z:Ending->World->Prop) (hEb:Eb=w.heap.size) (hn:n<=1000) (hcap:n<=cap) (hcap2:cap<=9223372036854775807) (hb:0 < n->adz=some ⟨b,0,none⟩) (lqt:qt.length<=1000) (lnm:nm.length<=30) (leo:eo.length<=100)
  (HF:Hid (CP 171 #[zp Eb,.string ⟨#[60,60,32,47,84,121,112,101,32,47,70,111,110,116,32,47,83,117,98,116,121,112,101,32,47,84,121,112,101,49,32,47,66,97,115,101,70,111,110,116,32,47,72,101,108,118,101,116,105,99,97,32,62,62]⟩] (w.alloc (.cells #[(first:Int),.slice none 0 0,oz,oz] 185)) fun e w'=>e=.returned (font:Int)/\A0 w'))
  (HX:Hid (∀ w1,A0 w1->CP 173 #[zp Eb] w1 fun e w'=>e=.returned (fp:Int)/\A1 w'))
  (HRo:Hid (∀ w1,A1 w1->CP 172 #[(fp:Int),(n:Int)] w1 fun e w'=>∃ rb rn rcap,e=.returned (.slice (zp rb) rn rcap)/\Pq rb rn rcap 0 w'))
  (F:Hid (∀ rb rn rcap i w1,i < n->Pq rb rn rcap i w1->w1.rangeAt b (i*2) [.int .i64 (zs i).1,.int .i64 (zs i).2]))
  (HPa:Hid (∀ rb rn rcap i w1,i < n->Pq rb rn rcap i w1->∀ w2,Below w1 w1 w2->QB 175 #[.slice (zp rb) rn rcap,oz,(i:Int)] w2 (pa i:Int)))
  (HPb:Hid (∀ rb rn rcap i w1,i < n->Pq rb rn rcap i w1->∀ w2,Below w1 w1 w2->QB 174 #[.agg #[.int .i64 (zs i).1,.int .i64 (zs i).2],(pa i:Int),((2*i+1:Nat):Int),(font:Int)] w2 (.string ⟨(pb i).toArray⟩)))
  (HA:Hid (∀ rb rn rcap i w1,i < n->Pq rb rn rcap i w1->∀ w2,Below w1 w1 w2->∃ k,CP 171 #[zp Eb,.string ⟨(pb i).toArray⟩] w2 fun e w'=>e=.returned (.int .i64 k)/\Pq rb rn rcap (i+1) w'))
  (HNd:Hid (∀ rb rn rcap w1,Pq rb rn rcap n w1->CP 177 #[zp Eb,.slice (zp rb) rn rcap] w1 fun e w'=>e=.returned (root:Int)/\Nq rb rn rcap w'))
  (FN:Hid (∀ rb rn rcap w1,Nq rb rn rcap w1->0 < rn/\rn<=rcap/\rcap<=9223372036854775807/\w1.cell? (zp rb)=some (.int .i64 (fp:Int))))
  (HMk:Hid (∀ rb rn rcap w1,Nq rb rn rcap w1->∀ q,CP 178 #[zp Eb,.slice adm m capm,(fp:Int)] (w1.drewN q) fun e w'=>e=.returned (outl:Int)/\Mk w'))
  (HT0:Hid (ti.toList=[]->∀ w1,Mk w1->T2 w1))
  (HQ:Hid (¬ ti.toList=[]->∀ w1,Mk w1->QB 179 #[ti] w1 (.string ⟨qt.toArray⟩)))
  (HT1:Hid (¬ ti.toList=[]->∀ w1,Mk w1->∀ w2,Below w1 w1 w2->CP 171 #[.pointer (some ⟨Eb,0,none⟩),.string ⟨([60,60,32,47,84,105,116,108,101,32]++qt++[32,62,62]).toArray⟩] w2 fun e w'=>e=.returned (info:Int)/\T1 w'))
  (FT:Hid (∀ w1,T1 w1->(∃ o,w1.cell? (zq Eb 2)=some (.int .i64 o))/\w1.frozen? (zq Eb 2)=false/\T2 (w1.setCell (zq Eb 2) (info:Int))))
  (HNm:Hid (∀ w1,T2 w1->∀ w2,Below w1 w1 w2->QB 180 #[(root:Int)] w2 (.string ⟨nm.toArray⟩)))
  (HEo:Hid (∀ w1,T2 w1->∀ w2,Below w1 w1 w2->QB 181 #[.string ⟨#[47,79,117,116,108,105,110,101,115]⟩,(outl:Int)] w2 (.string ⟨eo.toArray⟩)))
  (HCa:Hid (∀ w1,T2 w1->∀ w2,Below w1 w1 w2->CP 171 #[.pointer (some ⟨Eb,0,none⟩),.string ⟨([60,60,32,47,84,121,112,101,32,47,67,97,116,97,108,111,103,32,47,80,97,103,101,115,32]++nm++[32]++eo++[62,62]).toArray⟩] w2 fun e w'=>e=.returned (cat:Int)/\C1 w'))
  (FC:Hid (∀ w1,C1 w1->(∃ o,w1.cell? (zq Eb 3)=some (.int .i64 o))/\w1.frozen? (zq Eb 3)=false/\Z (.returned (zp Eb)) (w1.setCell (zq Eb 3) (cat:Int)))):
  CP 137 #[(first:Int),.slice adz n cap,ti,.slice adm m capm] w Z:=by
 go_enter func137,ntmps137
 go_wp2_with fail
 rw [<-hEb];clear hEb;refine HF.out.mono ?_;rintro e w1 ⟨rfl,a0⟩;go_wp2_with fail
 refine (HX.out w1 a0).mono ?_;rintro e w2 ⟨rfl,a1⟩;clear a0;go_wp2_with fail
 refine (HRo.out w2 a1).mono ?_;rintro e w3 ⟨rb,rn,rcap,rfl,p0⟩;clear a1 HF HX HRo;go_wp2_with fail
 go_loopg [12,13,28] (n+1) (fun g _ _ x wr=>∃ i:Nat,i<=n/\n - i < g/\x=.int .i64 (i:Int)/\Pq rb rn rcap i wr)
 case atStart=>exact ⟨0,by omega,by omega,rfl,p0⟩
 case round=>
  obtain ⟨i,hi,hgi,rfl,hP⟩:=hrel;clear p0;by_cases hlt:i < n
  ·have d1:decide ((i:Int) < (n:Int))=true:=by simp;omega
   have hadz:=hb (by omega);subst hadz;have hF:=F.out rb rn rcap i wr hlt hP;have PA0:=ai (HPa.out rb rn rcap i wr hlt hP);have PB0:=ai (HPb.out rb rn rcap i wr hlt hP);have AD0:=ai (HA.out rb rn rcap i wr hlt hP);obtain ⟨W,hW⟩:∃ x,(zs i).1=x:=⟨_,rfl⟩;obtain ⟨H,hH⟩:∃ x,(zs i).2=x:=⟨_,rfl⟩;obtain ⟨pv,hpv⟩:∃ x,pa i=x:=⟨_,rfl⟩;obtain ⟨pt,hpt⟩:∃ x,pb i=x:=⟨_,rfl⟩;rw [hW,hH] at hF;rw [hpv] at PA0;rw [hW,hH,hpv,hpt] at PB0;rw [hpt] at AD0;clear hW hH hpv hpt hP;obtain ⟨zb,hzbe⟩:∃ x,x=wr.heap.size:=⟨_,rfl⟩;obtain ⟨wm,hwm⟩:∃ x,x=(wr.alloc (.cells #[oz,oz] 224)).setRow wr.heap.size #[W,H]:=⟨_,rfl⟩;have KZB:Hid (wm.heap[zb]? =some (.cells #[W,H] 224 (0,0))):=by rw [hwm,hzbe];exact YK _ wr.heap.size _ _ _ _ (ZF wr _)
   have hzb:zb < wm.heap.size:=by rw [hwm,hzbe];simp
   have bwm:Below wr wr wm:=by
    rw [hwm];exact {os:=rfl,tape:=rfl,output:=rfl,size:=by simp,block:=fun k hk=>by rw [World.setRow_other9 _ _ _ _ (by omega)];exact Zf wr _ k hk}
   have PA:=ai (fun w1 (hG:af wm w1)=>PA0.out w1 (bwm.trans (hG.mono bwm.size)));have PB:=ai (fun w1 (hG:af wm w1)=>PB0.out w1 (bwm.trans (hG.mono bwm.size)));have AD:=ai (fun w1 (hG:af wm w1)=>AD0.out w1 (bwm.trans (hG.mono bwm.size)));have HWM:=ai hwm;have HFF:=ai hF;have HZB:=ai hzbe;clear hwm bwm PA0 PB0 AD0 hF hzbe;go_wp2_with (first
    | (refine wpList_load_mid rfl 224 _ rfl b (i*2) rfl _ _ HFF.out underlying224 rfl (by kernel_rfl) ?_)
    | (refine Zj rfl 224 (.tmp 13) _ rfl wr.heap.size _ rfl rfl _ _ (ZF _ _) (by kernel_rfl) rfl (by kernel_rfl) ?_;rw [<-HWM.out, <-HZB.out];clear HWM))
   refine ap 9 _ (ag [zp Eb,.agg #[W,H],.slice rb rn rcap,(i:Int),pv,(i:Int),((2*i+1:Nat):Int),(font:Int),.string ⟨pt.toArray⟩]) (by kernel_rfl) rfl (by kernel_rfl) aq ?_;simp only [TD];refine ⟨fun w1 hG hd=>?_,fun v0=>?_⟩
   ·clear hd;go_wp2;exact RG
   simp only [TN];refine ⟨fun w1 hG hd=>?_,fun v1=>?_⟩
   ·clear hd;refine Zi rfl 224 (.tmp 13) rfl zb rfl 224 _ (0,0) _ ((hG.block zb hzb).trans KZB.out) underlying224 rfl (by kernel_rfl) ?_;refine YN ?_;exact ⟨rfl,rfl,rfl,af.refl _⟩
   simp only [TN]
   iterate 4
    refine ⟨fun w1 hG hd=>?_,fun v=>?_⟩
    ·try (have d:=hd _ ⟨ZB _⟩ rfl;simp only [ag,GD] at d;subst d)
     try (have d:=hd _ ⟨.tail _ (.head _)⟩ rfl;simp only [ag,GD] at d;subst d)
     clear hd;go_wp2_with fail
     first
      | exact RG
      | (refine (PA.out w1 hG).mono ?_;rintro e w2 ⟨rfl,hB2⟩;go_wp2;exact ⟨rfl,hB2⟩)
    simp only [TN]
   refine ⟨fun w1 hG hd=>?_,fun v6=>?_⟩
   ·have d5:=hd ⟨5,.data⟩ (by simp) rfl;simp only [ag,GD] at d5;clear hd;subst d5;have HX:=ai (ki w1 i (by omega));go_wp2_with fail
    refine HX.out.mono ?_;rintro e w2 ⟨rfl,rfl⟩;go_wp2;exact RG
   simp only [TN]
   iterate 2
    refine ⟨fun w1 hG hd=>?_,fun v=>?_⟩
    ·try (have d:=hd _ ⟨ZB _⟩ rfl;simp only [ag,GD] at d;subst d)
     try (have d:=hd _ ⟨.tail _ (.head _)⟩ rfl;simp only [ag,GD] at d;subst d)
     try (have d:=hd _ ⟨.tail _ (.tail _ (.head _))⟩ rfl;simp only [ag,GD] at d;subst d)
     try (have d:=hd _ ⟨.tail _ (.tail _ (.tail _ (.head _)))⟩ rfl;simp only [ag,GD] at d;subst d)
     clear hd;go_wp2_with fail
     first
      | exact RG
      | (refine (PB.out w1 hG).mono ?_;rintro e w2 ⟨rfl,hB2⟩;go_wp2;exact ⟨rfl,hB2⟩)
    simp only [TN]
   intro w7 hG hd;have d0:=hd 0 (by omega);have d8:=hd 8 (by omega);simp only [ag,GD] at d0 d8;subst d0 d8;obtain ⟨kk,hA⟩:=AD.out w7 hG;have HAA:=ai hA;clear hA hd hG PA PB AD KZB;go_wp2_with fail
   refine HAA.out.mono ?_;rintro e w8 ⟨rfl,hI2⟩;clear HAA;go_wp2_with fail
   go_roundg (gk - 1)
   case measure=>omega
   case rel=>exact ⟨i+1,by omega,by omega,by congr 1,hI2⟩
  ·obtain rfl:i=n:=by omega
   have d1:decide ((i:Int) < (i:Int))=false:=by simp
   have HN:=ai (HNd.out rb rn rcap wr hP);clear hP;go_wp2_with fail
   refine HN.out.mono ?_;rintro e u1 ⟨rfl,gN⟩;obtain ⟨r0,r1,r2,a0⟩:=FN.out rb rn rcap u1 gN;have HM:=ai (HMk.out rb rn rcap u1 gN);clear HN gN;go_wp2_with fail
   refine (HM.out 0).mono ?_;rintro e u2 ⟨rfl,gM⟩;clear HM a0;have zqq:=ae qt;have zn:=ae nm;have ze:=ae eo;by_cases ht:ti.toList=[]
   ·have hte:ti.toList.isEmpty=true:=by rw [ht];rfl
    have g2:=HT0.out ht u2 gM;clear ht;have HX1:=ai (HNm.out u2 g2 u2 (ZT _ _));go_wp2_with fail
    refine HX1.out.mono ?_;rintro e y1 ⟨rfl,c1⟩;have C1':=ai c1;have HX2:=ai (HEo.out u2 g2 y1 c1);clear HX1 c1;go_wp2_with fail
    refine HX2.out.mono ?_;rintro e y2 ⟨rfl,c2⟩;have HX3:=HCa.out u2 g2 y2 (C1'.out.trans (c2.mono C1'.out.size));have ecat:(⟨#[60,60,32,47,84,121,112,101,32,47,67,97,116,97,108,111,103,32,47,80,97,103,101,115,32]⟩++⟨nm.toArray⟩++⟨#[32]⟩++⟨eo.toArray⟩++⟨#[62,62]⟩:ByteArray)=⟨([60,60,32,47,84,121,112,101,32,47,67,97,116,97,108,111,103,32,47,80,97,103,101,115,32]++nm++[32]++eo++[62,62]).toArray⟩:=by
     refine Zd (Yl ?_);simp
    rw [<-ecat] at HX3;clear ecat;have HX3:=ai HX3;clear c2 C1' HX2 g2;go_wp2_with fail
    refine HX3.out.mono ?_;rintro e y3 ⟨rfl,gC⟩;obtain ⟨⟨o3,k3⟩,kf3,hZ⟩:=FC.out y3 gC;have HZ9:=ai hZ;clear HX3 gC hZ;go_wp2_with fail
    first
     | exact HZ9.out
     | (go_ret;exact HZ9.out)
   ·have hte:ti.toList.isEmpty=false:=by
     cases hb2:ti.toList.isEmpty with
     | false=>rfl
     | true=>exact absurd (by simpa using hb2) ht
    have HQ1:=ai (HQ.out ht u2 gM);have HT2:=ai (HT1.out ht u2 gM);clear ht gM;go_wp2_with fail
    refine HQ1.out.mono ?_;rintro e u3 ⟨rfl,b3⟩;have HT3:=HT2.out u3 b3;have etit:(⟨#[60,60,32,47,84,105,116,108,101,32]⟩++⟨qt.toArray⟩++⟨#[32,62,62]⟩:ByteArray)=⟨([60,60,32,47,84,105,116,108,101,32]++qt++[32,62,62]).toArray⟩:=by
     refine Zd (Yl ?_);simp
    rw [<-etit] at HT3;clear etit;have HT3:=ai HT3;clear b3 HQ1 HT2;go_wp2_with fail
    refine HT3.out.mono ?_;rintro e u4 ⟨rfl,g1⟩;obtain ⟨⟨o2,k2⟩,kf2,g2⟩:=FT.out u4 g1;obtain ⟨u5,hu5⟩:∃ x,x=u4.setCell (zq Eb 2) (info:Int):=⟨_,rfl⟩;rw [<-hu5] at g2;have HU5:=ai hu5;have HX1:=ai (HNm.out u5 g2 u5 (ZT _ _));clear g1 HT3 hu5;go_wp2_with fail
    rw [<-HU5.out];clear HU5 k2 kf2;refine HX1.out.mono ?_;rintro e y1 ⟨rfl,c1⟩;have C1':=ai c1;have HX2:=ai (HEo.out u5 g2 y1 c1);clear HX1 c1;go_wp2_with fail
    refine HX2.out.mono ?_;rintro e y2 ⟨rfl,c2⟩;have HX3:=HCa.out u5 g2 y2 (C1'.out.trans (c2.mono C1'.out.size));have ecat:(⟨#[60,60,32,47,84,121,112,101,32,47,67,97,116,97,108,111,103,32,47,80,97,103,101,115,32]⟩++⟨nm.toArray⟩++⟨#[32]⟩++⟨eo.toArray⟩++⟨#[62,62]⟩:ByteArray)=⟨([60,60,32,47,84,121,112,101,32,47,67,97,116,97,108,111,103,32,47,80,97,103,101,115,32]++nm++[32]++eo++[62,62]).toArray⟩:=by
     refine Zd (Yl ?_);simp
    rw [<-ecat] at HX3;clear ecat;have HX3:=ai HX3;clear c2 C1' HX2 g2;go_wp2_with fail
    refine HX3.out.mono ?_;rintro e y3 ⟨rfl,gC⟩;obtain ⟨⟨o3,k3⟩,kf3,hZ⟩:=FC.out y3 gC;have HZ9:=ai hZ;clear HX3 gC hZ;go_wp2_with fail
    first
     | exact HZ9.out
     | (go_ret;exact HZ9.out)
theorem wW (w:World) (Fb n1 n2 nz m capm nb C xl:Nat) (adm:Option Addr) (ti:ByteArray) (bd:Nat->List UInt8) (tb tr at_:List UInt8) (G0:World->Prop) (Pq:Nat->Nat->Nat->Nat->World->Prop) (Z:Ending->World->Prop) (hn1:n1<=100000) (hn2:n2<=100000) (hnb:nb<=1000) (hxl:xl<=2000000000) (ltb:tb.length<=30000) (ltr:tr.length<=1000) (lat:at_.length<=30)
  (HBg:Hid (CP 85 #[zp Fb] w fun e w'=>e=.returned .nilIface/\G0 w'))
  (FG0:Hid (∀ w1,G0 w1->Fb < w1.heap.size/\∃ adz cz,w1.cell? (zq Fb 2)=some (.slice adz nz cz)/\∃ ad1 c1,w1.cell? (zq Fb 1)=some (.slice ad1 n1 c1)))
  (HE:Hid (∀ w1,G0 w1->∀ adz cz,w1.cell? (zq Fb 2)=some (.slice adz nz cz)->∀ wx,Below w1 w1 wx->CP 137 #[((n1+1:Nat):Int),.slice adz nz cz,ti,.slice adm m capm] wx fun e w'=>∃ Eb eb cb,e=.returned (zp Eb)/\nb<=cb/\cb<=9223372036854775807/\Pq Eb eb cb 0 w'))
  (FP:Hid (∀ Eb eb cb w1,Pq Eb eb cb 0 w1->w1.cell? (zq Eb 1)=some (.slice (zp eb) nb cb)))
  (FB:Hid (∀ Eb eb cb i w1,i < nb->Pq Eb eb cb i w1->w1.cell? (zq eb i)=some (.string ⟨(bd i).toArray⟩)))
  (HO:Hid (∀ Eb eb cb i w1,i < nb->Pq Eb eb cb i w1->CP 139 #[zp Fb,.string ⟨(bd i).toArray⟩] w1 fun e w'=>e=.returned .nilIface/\Pq Eb eb cb (i+1) w'))
  (FQ:Hid (∀ Eb eb cb w1,Pq Eb eb cb nb w1->Fb < w1.heap.size/\w1.cell? Fb=some (.pointer (some ⟨C,0,none⟩))/\w1.cell? (zq C 1)=some (.int .i64 (xl:Int))/\∃ ad2 c2,w1.cell? (zq Fb 1)=some (.slice ad2 n2 c2)))
  (HIt:Hid (∀ Eb eb cb w1,Pq Eb eb cb nb w1->∀ wx,Below w1 w1 wx->QB 120 #[(xl:Int)] wx (.string ⟨at_.toArray⟩)))
  (HTb:Hid (∀ Eb eb cb w1,Pq Eb eb cb nb w1->∀ wx,Below w1 w1 wx->QB 140 #[zp Fb] wx (.string ⟨tb.toArray⟩)))
  (HTr:Hid (∀ Eb eb cb w1,Pq Eb eb cb nb w1->∀ wx,Below w1 w1 wx->QB 141 #[zp Eb,((n2+1:Nat):Int)] wx (.string ⟨tr.toArray⟩)))
  (HW:Hid (∀ Eb eb cb w1,Pq Eb eb cb nb w1->∀ wx,Below w1 w1 wx->CP 128 #[.pointer (some ⟨C,0,none⟩),.string ⟨(tb++tr++[115,116,97,114,116,120,114,101,102,10]++at_++[10,37,37,69,79,70,10]).toArray⟩] wx fun e w'=>e=.returned .nilIface/\Z (.returned .nilIface) w')):
  CP 95 #[zp Fb,ti,.slice adm m capm] w Z:=by
 go_enter func95,ntmps95
 go_wp2_with fail
 refine HBg.out.mono ?_;rintro e w0 ⟨rfl,g0⟩;obtain ⟨hF0,adz,cz,k2,ad1,c1,k1⟩:=FG0.out w0 g0;have HEE:=ai (HE.out w0 g0 adz cz k2);clear g0 HBg;go_wp2_with fail
 refine ap 8 _ (ag [zp Fb,((n1+1:Nat):Int),zp Fb,zp Fb,zq Fb 2,.slice adz nz cz,ti,.slice adm m capm]) (by kernel_rfl) rfl (by kernel_rfl) aq ?_;simp only [TD];refine ⟨fun w1 hG hd=>?_,fun v0=>?_⟩
 ·clear hd;go_wp2;exact RG
 simp only [TN];refine ⟨fun w1 hG hd=>?_,fun v1=>?_⟩
 ·have d0:=hd ⟨0,.data⟩ (by simp) rfl;simp only [ag,GD] at d0;clear hd;subst d0;have HX:=ai (dD w1 Fb n1 c1 ad1 ((hG.cell (p:=zq Fb 1) hF0).trans k1) (by omega));go_wp2_with fail
  refine HX.out.mono ?_;rintro e w2 ⟨rfl,rfl⟩;go_wp2;exact RG
 simp only [TN]
 iterate 6
  refine ⟨fun w1 hG hd=>?_,fun v=>?_⟩
  ·have c1:=(hG.cell (p:=zq Fb 2) hF0).trans k2
   try (have d:=hd _ ⟨ZB _⟩ rfl;simp only [ag,GD] at d;subst d)
   clear hd;go_wp2;exact RG
  simp only [TN]
 intro w2 hG hd;have d1:=hd 1 (by omega);have d5:=hd 5 (by omega);have d6:=hd 6 (by omega);have d7:=hd 7 (by omega);simp only [ag,GD] at d1 d5 d6 d7;subst d1 d5 d6 d7;have HX:=ai (HEE.out w2 hG);clear hd hG HEE k1 k2 hF0;go_wp2_with fail
 refine HX.out.mono ?_;rintro e w3 ⟨Eb,eb,cb,rfl,hcb1,hcb2,p0⟩;have e1:=FP.out Eb eb cb w3 p0;clear HX;go_wp2_with fail
 clear e1;go_loopg [10,11,32] (nb+1) (fun g _ _ x wr=>∃ i:Nat,i<=nb/\nb - i < g/\x=.int .i64 (i:Int)/\Pq Eb eb cb i wr)
 case atStart=>exact ⟨0,by omega,by omega,rfl,p0⟩
 case round=>
  obtain ⟨i,hi,hgi,rfl,hP⟩:=hrel;clear p0;by_cases hlt:i < nb
  ·have d1:decide ((i:Int) < (nb:Int))=true:=by simp;omega
   have cx:=FB.out Eb eb cb i wr hlt hP;have HOO:=ai (HO.out Eb eb cb i wr hlt hP);obtain ⟨bx,hbx⟩:∃ x,bd i=x:=⟨_,rfl⟩;rw [hbx] at cx HOO;clear hP hbx;go_wp2_with fail
   refine HOO.out.mono ?_;rintro e u1 ⟨rfl,h1⟩;clear HOO cx;go_wp2_with fail
   go_roundg (gk - 1)
   case measure=>omega
   case rel=>exact ⟨i+1,by omega,by omega,by congr 1,h1⟩
  ·obtain rfl:i=nb:=by omega
   have d1:decide ((i:Int) < (i:Int))=false:=by simp
   obtain ⟨hFq,q0,qc,ad2,c2,q1⟩:=FQ.out Eb eb cb wr hP;have HCt:=ai (eE wr C (xl:Int) qc);have HI:=ai (HIt.out Eb eb cb wr hP wr (ZT _ _));have HPP:=ai hP;clear hP;go_wp2_with fail
   refine HCt.out.mono ?_;rintro e u0 ⟨rfl,rfl⟩;go_wp2_with fail
   refine HI.out.mono ?_;rintro e u1 ⟨rfl,b1⟩;have B1:=ai b1;have q0':=(b1.cell (p:=Fb) hFq).trans q0;have q1':=(b1.cell (p:=zq Fb 1) hFq).trans q1;have hFq':=ZK hFq b1.size;clear q0 q1 qc hFq b1 HCt HI;have TB:=ai (fun w9 (hG:af u1 w9)=>HTb.out Eb eb cb u0 HPP.out w9 (B1.out.trans (hG.mono B1.out.size)));have TR:=ai (fun w9 (hG:af u1 w9)=>HTr.out Eb eb cb u0 HPP.out w9 (B1.out.trans (hG.mono B1.out.size)));have WR:=ai (fun w9 (hG:af u1 w9)=>HW.out Eb eb cb u0 HPP.out w9 (B1.out.trans (hG.mono B1.out.size)));have ztb:=ae tb;have ztr:=ae tr;have zat:=ae at_;obtain ⟨x1,hx1⟩:∃ x,(tb:List UInt8)++tr=x:=⟨_,rfl⟩;have X1:=ai (show (⟨tb.toArray⟩:ByteArray)++⟨tr.toArray⟩=⟨x1.toArray⟩ by rw [<-hx1];exact an _ _);have lx1:x1.length<=31000:=by rw [<-hx1];simp only [ZY,ZX,ZR];omega
   have zx1:=ae x1;obtain ⟨x2,hx2⟩:∃ x,(x1:List UInt8)++[115,116,97,114,116,120,114,101,102,10]=x:=⟨_,rfl⟩;have X2:=ai (show (⟨x1.toArray⟩:ByteArray)++⟨#[115,116,97,114,116,120,114,101,102,10]⟩=⟨x2.toArray⟩ by rw [<-hx2];exact an _ _);have lx2:x2.length<=31010:=by rw [<-hx2];simp only [ZY,ZX,ZR];omega
   have zx2:=ae x2;obtain ⟨x3,hx3⟩:∃ x,(x2:List UInt8)++at_=x:=⟨_,rfl⟩;have X3:=ai (show (⟨x2.toArray⟩:ByteArray)++⟨at_.toArray⟩=⟨x3.toArray⟩ by rw [<-hx3];exact an _ _);have lx3:x3.length<=31040:=by rw [<-hx3];simp only [ZY,ZX,ZR];omega
   have zx3:=ae x3;obtain ⟨x4,hx4⟩:∃ x,(x3:List UInt8)++[10,37,37,69,79,70,10]=x:=⟨_,rfl⟩;have X4:=ai (show (⟨x3.toArray⟩:ByteArray)++⟨#[10,37,37,69,79,70,10]⟩=⟨x4.toArray⟩ by rw [<-hx4];exact an _ _);have lx4:x4.length<=31047:=by rw [<-hx4];simp only [ZY,ZX,ZR];omega
   have zx4:=ae x4;have hall:tb++tr++[115,116,97,114,116,120,114,101,102,10]++at_++[10,37,37,69,79,70,10]=x4:=by rw [<-hx4, <-hx3, <-hx2, <-hx1]
   rw [hall] at WR;clear hall hx1 hx2 hx3 hx4 HTb HTr HW HIt;go_wp2_with fail
   refine ap 15 _ (ag [zp Fb,zp Fb,zp Fb,zp C,zp Fb,.string ⟨tb.toArray⟩,zp Eb,zp Fb,((n2+1:Nat):Int),.string ⟨tr.toArray⟩,.string ⟨x1.toArray⟩,.string ⟨x2.toArray⟩,.string ⟨at_.toArray⟩,.string ⟨x3.toArray⟩,.string ⟨x4.toArray⟩]) (by kernel_rfl) rfl (by kernel_rfl) aq ?_;simp only [TD]
   iterate 8
    refine ⟨fun w1 hG hd=>?_,fun v=>?_⟩
    ·have c1:=(hG.cell (p:=Fb) hFq').trans q0'
     try (have d:=hd _ ⟨ZB _⟩ rfl;simp only [ag,GD] at d;subst d)
     clear hd;go_wp2_with fail
     first
      | exact RG
      | (refine (TB.out w1 hG).mono ?_;rintro e w2 ⟨rfl,hB2⟩;go_wp2;exact ⟨rfl,hB2⟩)
    simp only [TN]
   refine ⟨fun w1 hG hd=>?_,fun v8=>?_⟩
   ·have d7:=hd ⟨7,.data⟩ (by simp) rfl;simp only [ag,GD] at d7;clear hd;subst d7;have HX:=ai (dD w1 Fb n2 c2 ad2 ((hG.cell (p:=zq Fb 1) hFq').trans q1') (by omega));go_wp2_with fail
    refine HX.out.mono ?_;rintro e w2 ⟨rfl,rfl⟩;go_wp2;exact RG
   simp only [TN]
   iterate 6
    refine ⟨fun w1 hG hd=>?_,fun v=>?_⟩
    ·try (have d:=hd _ ⟨ZB _⟩ rfl;simp only [ag,GD] at d;subst d)
     try (have d:=hd _ ⟨.tail _ (.head _)⟩ rfl;simp only [ag,GD] at d;subst d)
     clear hd;go_wp2_with fail
     first
      | exact RG
      | exact CS (by assumption)
      | (refine (TR.out w1 hG).mono ?_;rintro e w2 ⟨rfl,hB2⟩;go_wp2;exact ⟨rfl,hB2⟩)
    simp only [TN]
   intro w9 hG hd;have d3:=hd 3 (by omega);have d14:=hd 14 (by omega);simp only [ag,GD] at d3 d14;subst d3 d14;have HX:=ai (WR.out w9 hG);clear hd hG WR TB TR;go_wp2_with fail
   refine HX.out.mono ?_;rintro e y1 ⟨rfl,hZ⟩;go_wp2_with fail
   first
    | exact hZ
    | (go_ret;exact hZ)
end Go.Proofs.YtbklfkpjoinofaaGreatDoor
