import Derived.Test.YtbklfkpjoinofaaGreatDoorA14
import Derived.Test.YtbklfkpjoinofaaGreatDoorA15
set_option linter.all false
set_option maxRecDepth 100000
set_option maxHeartbeats 8000000
namespace Go.Proofs.YtbklfkpjoinofaaGreatDoor
open Go.RowKit Go.Proofs.Tryz
theorem World.setRow_other9 (w:World) (g k:Nat) (cs:Array Value) (h:k≠g):(w.setRow g cs).heap[k]? =w.heap[k]? :=by
 simp [World.setRow,Array.getElem?_modify,Yg h]
theorem ol (w:World) (Eb cap fp:Nat) (ad:Option Addr):QE 178 #[zp Eb,.slice ad 0 cap,(fp:Int)] w (0:Int):=by
 go_enter func178,ntmps178
 go_wp2;go_ret;exact ⟨rfl,rfl⟩
theorem oC (w:World) (Eb b m cap fp all:Nat) (tt:Nat->ByteArray) (pp:Nat->Nat) (qq:Nat->List UInt8) (im:List UInt8) (bd:Nat->List UInt8) (ob:List UInt8) (I:Nat->World->Prop) (J:World->Prop) (Z:Ending->World->Prop) (hm0:1<=m) (hm:m<=20) (hcap:m<=cap) (hcap2:cap<=9223372036854775807) (hall:all<=100000) (hfp:fp<=100000) (hpp:∀ i,i < m->pp i<=1000) (him:im.length<=30) (hqq:∀ i,i < m->(qq i).length<=500)
  (HOB:Hid (ob=[60,60,32,47,84,121,112,101,32,47,79,117,116,108,105,110,101,115,32]++bt [47,70,105,114,115,116] ((all+1:Nat):Int)++bt [47,76,97,115,116] ((all+m:Nat):Int)++[47,67,111,117,110,116,32]++im++[32,62,62])) (HBD:Hid (∀ i,i < m->bd i=[60,60,32,47,84,105,116,108,101,32]++qq i++[32]++bt [47,80,97,114,101,110,116] (all:Int)++bt [47,80,114,101,118] (if i=0 then 0 else ((all+i:Nat):Int))++bt [47,78,101,120,116] (if i+1=m then 0 else ((all+i+2:Nat):Int))++[47,68,101,115,116,32,91]++aD ((fp+pp i:Nat):Int)++[32,47,70,105,116,93,32,62,62]))
  (HX:Hid (CP 173 #[zp Eb] w fun e w'=>e=.returned (all:Int)/\J w'))
  (HEn0:Hid (∀ w1,J w1->∀ (key:List UInt8) (k:Nat),key.length<=100->k<=1000000->∀ w2,Below w1 w1 w2->QB 181 #[.string ⟨key.toArray⟩,(k:Int)] w2 (.string ⟨(bt key (k:Int)).toArray⟩)))
  (HIt:Hid (∀ w1,J w1->∀ w2,Below w1 w1 w2->QB 120 #[(m:Int)] w2 (.string ⟨im.toArray⟩)))
  (HA0:Hid (∀ w1,J w1->∀ w2,Below w1 w1 w2->∃ k,CP 171 #[zp Eb,.string ⟨ob.toArray⟩] w2 fun e w'=>e=.returned (.int .i64 k)/\I 0 w'))
  (F:Hid (∀ i w1,i < m->I i w1->w1.rangeAt b (i*2) [.string (tt i),.int .i64 (pp i:Int)]))
  (HEn:Hid (∀ i w1,i < m->I i w1->∀ (key:List UInt8) (k:Int),key.length<=100->-1000000<=k->k<=1000000->∀ w2,Below w1 w1 w2->QB 181 #[.string ⟨key.toArray⟩,k] w2 (.string ⟨(bt key k).toArray⟩)))
  (HQt:Hid (∀ i w1,i < m->I i w1->∀ w2,Below w1 w1 w2->QB 179 #[.string (tt i)] w2 (.string ⟨(qq i).toArray⟩)))
  (HNm:Hid (∀ i w1,i < m->I i w1->∀ k:Nat,k<=1000000->∀ w2,Below w1 w1 w2->QB 180 #[(k:Int)] w2 (.string ⟨(aD (k:Int)).toArray⟩)))
  (HA:Hid (∀ i w1,i < m->I i w1->∀ w2,Below w1 w1 w2->∃ k,CP 171 #[zp Eb,.string ⟨(bd i).toArray⟩] w2 fun e w'=>e=.returned (.int .i64 k)/\I (i+1) w'))
  (HZ:Hid (∀ w1,I m w1->Z (.returned (all:Int)) w1)):
  CP 178 #[zp Eb,.slice b m cap,(fp:Int)] w Z:=by
 have el:∀ (key:List UInt8) (k:Int),key.length<=20->-1000000<=k->k<=1000000->(bt key k).length<=100:=by
  intro key k hk h0 h1;have:=ar k (by omega) (by omega);unfold bt;split
  ·simp
  ·simp only [aD,ZY,ZX,ZR];omega
 have EL:=ai el;have nl:∀ n:Nat,n<=1000000->(aD (n:Int)).length<=30:=by
  intro n hn;have:=ar (n:Int) (by omega) (by omega);rw [aD,ZY];simp only [ZX,ZR];omega
 have NL:=ai nl;clear el nl;have dz:¬ (m:Int)=0:=by omega
 go_enter func178,ntmps178
 go_wp2_with fail
 refine HX.out.mono ?_;rintro e w1 ⟨rfl,hJ⟩;have E1:=ai (HEn0.out w1 hJ [47,70,105,114,115,116] (all+1) (by decide) (by omega));have E2:=ai (HEn0.out w1 hJ [47,76,97,115,116] (all+m) (by decide) (by omega));have I1:=ai (HIt.out w1 hJ);have A1:=ai (HA0.out w1 hJ);have hob:=HOB.out;obtain ⟨e1,he1⟩:∃ x,bt [47,70,105,114,115,116] ((all+1:Nat):Int)=x:=⟨_,rfl⟩;obtain ⟨e2,he2⟩:∃ x,bt [47,76,97,115,116] ((all+m:Nat):Int)=x:=⟨_,rfl⟩;have le1:e1.length<=100:=by rw [<-he1];exact EL.out _ _ (by decide) (by omega) (by omega)
 have le2:e2.length<=100:=by rw [<-he2];exact EL.out _ _ (by decide) (by omega) (by omega)
 rw [he1,he2] at hob;rw [he1] at E1;rw [he2] at E2;have hob2:(⟨#[60,60,32,47,84,121,112,101,32,47,79,117,116,108,105,110,101,115,32]⟩++⟨e1.toArray⟩++⟨e2.toArray⟩++⟨#[47,67,111,117,110,116,32]⟩++⟨im.toArray⟩++⟨#[32,62,62]⟩:ByteArray)=⟨ob.toArray⟩:=by
  rw [hob];refine Zd (Yl ?_);simp
 have HOB2:=ai hob2;have z1:=ae e1;have z2:=ae e2;have z3:=ae im;rw [show ((all+1:Nat):Int)=(all:Int)+1 by omega] at E1;rw [show ((all+m:Nat):Int)=(all:Int)+(m:Int) by omega] at E2;have hw1:=ZT w1.heap.size w1;clear he1 he2 hob hob2 hJ HX HEn0 HIt HA0;go_wp2_with fail
 refine (E1.out _ hw1).mono ?_;rintro e v1 ⟨rfl,b1⟩;have b1:=ai b1;go_wp2_with fail
 refine (E2.out _ b1.out).mono ?_;rintro e v2 ⟨rfl,b2⟩;have b2:=ai (b1.out.trans (b2.mono b1.out.size));go_wp2_with fail
 refine (I1.out _ b2.out).mono ?_;rintro e v3 ⟨rfl,b3⟩;have b3:=ai (b2.out.trans (b3.mono b2.out.size));obtain ⟨kk,hA⟩:=A1.out v3 b3.out;rw [<-HOB2.out] at hA;have HAA:=ai hA;clear hA;go_wp2_with fail
 refine HAA.out.mono ?_;rintro e v4 ⟨rfl,hI0⟩;clear HAA A1 I1 E1 E2 b1 b2 b3 hw1;go_wp2_with fail
 go_loopg [10,11,12,13,41] (m+1) (fun g _ _ _ _ x wr=>∃ i:Nat,i<=m/\m - i < g/\x=.int .i64 (i:Int)/\I i wr)
 case atStart=>exact ⟨0,by omega,by omega,rfl,hI0⟩
 case round=>
  obtain ⟨i,hi,hgi,rfl,hI⟩:=hrel;clear hI0;by_cases hlt:i < m
  ·have d1:decide ((i:Int) < (m:Int))=true:=by simp;omega
   have hF:=F.out i wr hlt hI;have QT0:=ai (HQt.out i wr hlt hI);have EA0:=ai (HEn.out i wr hlt hI [47,80,97,114,101,110,116] (all:Int) (by decide) (by omega) (by omega));have EP0:=ai (HEn.out i wr hlt hI [47,80,114,101,118] (if i=0 then 0 else ((all+i:Nat):Int)) (by decide) (by split <;> omega) (by split <;> omega));have EN0:=ai (HEn.out i wr hlt hI [47,78,101,120,116] (if i+1=m then 0 else ((all+i+2:Nat):Int)) (by decide) (by split <;> omega) (by split <;> omega));have NM0:=ai (HNm.out i wr hlt hI (fp+pp i) (by have:=hpp i hlt;omega));have AD0:=ai (HA.out i wr hlt hI);have hbd:=HBD.out i hlt;have lq:=hqq i hlt;have hpi:=hpp i hlt;obtain ⟨tk,htk⟩:∃ x,tt i=x:=⟨_,rfl⟩;obtain ⟨pk,hpk⟩:∃ x,pp i=x:=⟨_,rfl⟩;obtain ⟨qt,hqt⟩:∃ x,qq i=x:=⟨_,rfl⟩;obtain ⟨bb,hbb⟩:∃ x,bd i=x:=⟨_,rfl⟩;rw [htk,hpk] at hF;rw [htk,hqt] at QT0;rw [hpk] at NM0 hpi;rw [hbb,hqt,hpk] at hbd;rw [hbb] at AD0;rw [hqt] at lq;clear htk hpk hqt hbb hI;obtain ⟨ea,hea⟩:∃ x,bt [47,80,97,114,101,110,116] (all:Int)=x:=⟨_,rfl⟩;obtain ⟨ep,hep⟩:∃ x,bt [47,80,114,101,118] (if i=0 then 0 else ((all+i:Nat):Int))=x:=⟨_,rfl⟩;obtain ⟨en,hen⟩:∃ x,bt [47,78,101,120,116] (if i+1=m then 0 else ((all+i+2:Nat):Int))=x:=⟨_,rfl⟩;obtain ⟨nm,hnm⟩:∃ x,aD ((fp+pk:Nat):Int)=x:=⟨_,rfl⟩;have lea:ea.length<=100:=by rw [<-hea];exact EL.out _ _ (by decide) (by omega) (by omega)
   have lep:ep.length<=100:=by rw [<-hep];exact EL.out _ _ (by decide) (by split <;> omega) (by split <;> omega)
   have len:en.length<=100:=by rw [<-hen];exact EL.out _ _ (by decide) (by split <;> omega) (by split <;> omega)
   have lnm:nm.length<=30:=by rw [<-hnm];exact NL.out _ (by omega)
   rw [hea,hep,hen,hnm] at hbd;rw [hea] at EA0;rw [hep] at EP0;rw [hen] at EN0;rw [hnm] at NM0;clear hea hep hen hnm;have zqt:=ae qt;have zea:=ae ea;have zep:=ae ep;have zen:=ae en;have znm:=ae nm;obtain ⟨x4,hx4⟩:∃ x,([60,60,32,47,84,105,116,108,101,32]:List UInt8)++qt=x:=⟨_,rfl⟩;have Ax4:=ai (show (⟨#[60,60,32,47,84,105,116,108,101,32]⟩:ByteArray)++⟨qt.toArray⟩=⟨x4.toArray⟩ by rw [<-hx4];exact an _ _);have lx4:x4.length<=510:=by rw [<-hx4];simp only [ZY,ZX,ZR];omega
   have zx4:=ae x4;obtain ⟨x5,hx5⟩:∃ x,(x4:List UInt8)++[32]=x:=⟨_,rfl⟩;have Ax5:=ai (show (⟨x4.toArray⟩:ByteArray)++⟨#[32]⟩=⟨x5.toArray⟩ by rw [<-hx5];exact an _ _);have lx5:x5.length<=511:=by rw [<-hx5];simp only [ZY,ZX,ZR];omega
   have zx5:=ae x5;obtain ⟨x8,hx8⟩:∃ x,(x5:List UInt8)++ea=x:=⟨_,rfl⟩;have Ax8:=ai (show (⟨x5.toArray⟩:ByteArray)++⟨ea.toArray⟩=⟨x8.toArray⟩ by rw [<-hx8];exact an _ _);have lx8:x8.length<=611:=by rw [<-hx8];simp only [ZY,ZX,ZR];omega
   have zx8:=ae x8;obtain ⟨x11,hx11⟩:∃ x,(x8:List UInt8)++ep=x:=⟨_,rfl⟩;have Ax11:=ai (show (⟨x8.toArray⟩:ByteArray)++⟨ep.toArray⟩=⟨x11.toArray⟩ by rw [<-hx11];exact an _ _);have lx11:x11.length<=711:=by rw [<-hx11];simp only [ZY,ZX,ZR];omega
   have zx11:=ae x11;obtain ⟨x14,hx14⟩:∃ x,(x11:List UInt8)++en=x:=⟨_,rfl⟩;have Ax14:=ai (show (⟨x11.toArray⟩:ByteArray)++⟨en.toArray⟩=⟨x14.toArray⟩ by rw [<-hx14];exact an _ _);have lx14:x14.length<=811:=by rw [<-hx14];simp only [ZY,ZX,ZR];omega
   have zx14:=ae x14;obtain ⟨x15,hx15⟩:∃ x,(x14:List UInt8)++[47,68,101,115,116,32,91]=x:=⟨_,rfl⟩;have Ax15:=ai (show (⟨x14.toArray⟩:ByteArray)++⟨#[47,68,101,115,116,32,91]⟩=⟨x15.toArray⟩ by rw [<-hx15];exact an _ _);have lx15:x15.length<=818:=by rw [<-hx15];simp only [ZY,ZX,ZR];omega
   have zx15:=ae x15;obtain ⟨x21,hx21⟩:∃ x,(x15:List UInt8)++nm=x:=⟨_,rfl⟩;have Ax21:=ai (show (⟨x15.toArray⟩:ByteArray)++⟨nm.toArray⟩=⟨x21.toArray⟩ by rw [<-hx21];exact an _ _);have lx21:x21.length<=848:=by rw [<-hx21];simp only [ZY,ZX,ZR];omega
   have zx21:=ae x21;obtain ⟨x22,hx22⟩:∃ x,(x21:List UInt8)++[32,47,70,105,116,93,32,62,62]=x:=⟨_,rfl⟩;have Ax22:=ai (show (⟨x21.toArray⟩:ByteArray)++⟨#[32,47,70,105,116,93,32,62,62]⟩=⟨x22.toArray⟩ by rw [<-hx22];exact an _ _);have lx22:x22.length<=857:=by rw [<-hx22];simp only [ZY,ZX,ZR];omega
   have zx22:=ae x22;have HBB:Hid (x22=bb):=by show _=_;rw [hbd, <-hx22, <-hx21, <-hx15, <-hx14, <-hx11, <-hx8, <-hx5, <-hx4]
   clear hbd hx4 hx5 hx8 hx11 hx14 hx15 hx21 hx22;obtain ⟨mb,hmbe⟩:∃ x,x=wr.heap.size:=⟨_,rfl⟩;obtain ⟨wm,hwm⟩:∃ x,x=(wr.alloc (.cells #[.string ⟨#[]⟩,oz] 98)).setRow wr.heap.size #[tk,(pk:Int)]:=⟨_,rfl⟩;have KMB:Hid (wm.heap[mb]? =some (.cells #[tk,(pk:Int)] 98 (0,0))):=by rw [hwm,hmbe];exact YK _ wr.heap.size _ _ _ _ (ZF wr _)
   have hmb:mb < wm.heap.size:=by rw [hwm,hmbe];simp
   have bwm:Below wr wr wm:=by
    rw [hwm];exact {os:=rfl,tape:=rfl,output:=rfl,size:=by simp,block:=fun k hk=>by rw [World.setRow_other9 _ _ _ _ (by omega)];exact Zf wr _ k hk}
   have QT:=ai (fun w1 (hG:af wm w1)=>QT0.out w1 (bwm.trans (hG.mono bwm.size)));have EA:=ai (fun w1 (hG:af wm w1)=>EA0.out w1 (bwm.trans (hG.mono bwm.size)));have EP:=ai (fun w1 (hG:af wm w1)=>EP0.out w1 (bwm.trans (hG.mono bwm.size)));have EN:=ai (fun w1 (hG:af wm w1)=>EN0.out w1 (bwm.trans (hG.mono bwm.size)));have NM:=ai (fun w1 (hG:af wm w1)=>NM0.out w1 (bwm.trans (hG.mono bwm.size)));have AD:=ai (fun w1 (hG:af wm w1)=>AD0.out w1 (bwm.trans (hG.mono bwm.size)));have HWM:=ai hwm;have HF:=ai hF;have HMB:=ai hmbe;clear hwm bwm QT0 EA0 EP0 EN0 NM0 AD0 hF hmbe;by_cases hf:i=0
   ·by_cases hl:i+1=m
    ·skip
     have ipv:(if i=0 then (0:Int) else ((all+i:Nat):Int))=0:=by rw [ZN hf]
     have inx:(if i+1=m then (0:Int) else ((all+i+2:Nat):Int))=0:=by rw [ZN hl]
     rw [ipv] at EP;rw [inx] at EN;have dpv:decide ((all:Int)+1+(i:Int) - 1 < (all:Int)+1)=true:=by simp;omega
     have dpv2:(all:Int)+1+(i:Int) - 1 < (all:Int)+1:=by omega
     have dnx:decide ((all:Int)+(m:Int) < (all:Int)+1+(i:Int)+1)=true:=by simp;omega
     have dnx2:(all:Int)+(m:Int) < (all:Int)+1+(i:Int)+1:=by omega
     clear ipv inx hf hl;go_wp2_with (first
      | (refine wpList_load_mid rfl 98 _ rfl b (i*2) rfl _ _ HF.out underlying98 rfl (by kernel_rfl) ?_)
      | (refine Zj rfl 98 (.tmp 11) _ rfl wr.heap.size _ rfl rfl _ _ (ZF _ _) (by kernel_rfl) rfl (by kernel_rfl) ?_;rw [<-HWM.out, <-HMB.out];clear HWM))
     refine ap 23 _ (ag [zp Eb,zp mb,tk,.string ⟨qt.toArray⟩,.string ⟨x4.toArray⟩,.string ⟨x5.toArray⟩,(all:Int),.string ⟨ea.toArray⟩,.string ⟨x8.toArray⟩,oz,.string ⟨ep.toArray⟩,.string ⟨x11.toArray⟩,oz,.string ⟨en.toArray⟩,.string ⟨x14.toArray⟩,.string ⟨x15.toArray⟩,(fp:Int),zq mb 1,(pk:Int),((fp+pk:Nat):Int),.string ⟨nm.toArray⟩,.string ⟨x21.toArray⟩,.string ⟨x22.toArray⟩]) (by kernel_rfl) rfl (by kernel_rfl) aq ?_;simp only [TD]
     iterate 23
      refine ⟨fun w1 hG hd=>?_,fun v=>?_⟩
      ·have c1:=Zw w1 mb 0 _ _ (0,0) ((hG.block mb hmb).trans KMB.out);simp at c1;have c2:=Zw w1 mb 1 _ _ (0,0) ((hG.block mb hmb).trans KMB.out);simp at c2
       try (have d:=hd _ ⟨ZB _⟩ rfl;simp only [ag,GD] at d;subst d)
       try (have d:=hd _ ⟨.tail _ (.head _)⟩ rfl;simp only [ag,GD] at d;subst d)
       clear hd;go_wp2_with fail
       first
        | exact RG
        | exact CS (by assumption)
        | ((first | with_reducible refine (QT.out w1 hG).mono ?_ | with_reducible refine (EA.out w1 hG).mono ?_ | with_reducible refine (EP.out w1 hG).mono ?_ | with_reducible refine (EN.out w1 hG).mono ?_ | refine (NM.out w1 hG).mono ?_);rintro e w2 ⟨rfl,hB2⟩;go_wp2_with fail;exact ⟨rfl,hB2⟩)
      simp only [TN]
     intro w7 hG hd;have d0:=hd 0 (by omega);have d22:=hd 22 (by omega);simp only [ag,GD] at d0 d22;subst d0 d22;obtain ⟨kk,hA⟩:=AD.out w7 hG;rw [<-HBB.out] at hA;have HAA:=ai hA;clear hA hd hG QT EA EP EN NM AD KMB;go_wp2_with fail
     refine HAA.out.mono ?_;rintro e w8 ⟨rfl,hI2⟩;clear HAA;go_wp2_with fail
     go_roundg (gk - 1)
     case measure=>omega
     case rel=>exact ⟨i+1,by omega,by omega,by congr 1,hI2⟩
    ·skip
     have ipv:(if i=0 then (0:Int) else ((all+i:Nat):Int))=0:=by rw [ZN hf]
     have inx:(if i+1=m then (0:Int) else ((all+i+2:Nat):Int))=((all:Int)+1+(i:Int)+1):=by rw [ZO hl];omega
     rw [ipv] at EP;rw [inx] at EN;have dpv:decide ((all:Int)+1+(i:Int) - 1 < (all:Int)+1)=true:=by simp;omega
     have dpv2:(all:Int)+1+(i:Int) - 1 < (all:Int)+1:=by omega
     have dnx:decide ((all:Int)+(m:Int) < (all:Int)+1+(i:Int)+1)=false:=by simp;omega
     have dnx2:¬ (all:Int)+(m:Int) < (all:Int)+1+(i:Int)+1:=by omega
     clear ipv inx hf hl;go_wp2_with (first
      | (refine wpList_load_mid rfl 98 _ rfl b (i*2) rfl _ _ HF.out underlying98 rfl (by kernel_rfl) ?_)
      | (refine Zj rfl 98 (.tmp 11) _ rfl wr.heap.size _ rfl rfl _ _ (ZF _ _) (by kernel_rfl) rfl (by kernel_rfl) ?_;rw [<-HWM.out, <-HMB.out];clear HWM))
     refine ap 23 _ (ag [zp Eb,zp mb,tk,.string ⟨qt.toArray⟩,.string ⟨x4.toArray⟩,.string ⟨x5.toArray⟩,(all:Int),.string ⟨ea.toArray⟩,.string ⟨x8.toArray⟩,oz,.string ⟨ep.toArray⟩,.string ⟨x11.toArray⟩,((all:Int)+1+(i:Int)+1:Int),.string ⟨en.toArray⟩,.string ⟨x14.toArray⟩,.string ⟨x15.toArray⟩,(fp:Int),zq mb 1,(pk:Int),((fp+pk:Nat):Int),.string ⟨nm.toArray⟩,.string ⟨x21.toArray⟩,.string ⟨x22.toArray⟩]) (by kernel_rfl) rfl (by kernel_rfl) aq ?_;simp only [TD]
     iterate 23
      refine ⟨fun w1 hG hd=>?_,fun v=>?_⟩
      ·have c1:=Zw w1 mb 0 _ _ (0,0) ((hG.block mb hmb).trans KMB.out);simp at c1;have c2:=Zw w1 mb 1 _ _ (0,0) ((hG.block mb hmb).trans KMB.out);simp at c2
       try (have d:=hd _ ⟨ZB _⟩ rfl;simp only [ag,GD] at d;subst d)
       try (have d:=hd _ ⟨.tail _ (.head _)⟩ rfl;simp only [ag,GD] at d;subst d)
       clear hd;go_wp2_with fail
       first
        | exact RG
        | exact CS (by assumption)
        | ((first | with_reducible refine (QT.out w1 hG).mono ?_ | with_reducible refine (EA.out w1 hG).mono ?_ | with_reducible refine (EP.out w1 hG).mono ?_ | with_reducible refine (EN.out w1 hG).mono ?_ | refine (NM.out w1 hG).mono ?_);rintro e w2 ⟨rfl,hB2⟩;go_wp2_with fail;exact ⟨rfl,hB2⟩)
      simp only [TN]
     intro w7 hG hd;have d0:=hd 0 (by omega);have d22:=hd 22 (by omega);simp only [ag,GD] at d0 d22;subst d0 d22;obtain ⟨kk,hA⟩:=AD.out w7 hG;rw [<-HBB.out] at hA;have HAA:=ai hA;clear hA hd hG QT EA EP EN NM AD KMB;go_wp2_with fail
     refine HAA.out.mono ?_;rintro e w8 ⟨rfl,hI2⟩;clear HAA;go_wp2_with fail
     go_roundg (gk - 1)
     case measure=>omega
     case rel=>exact ⟨i+1,by omega,by omega,by congr 1,hI2⟩
   ·by_cases hl:i+1=m
    ·skip
     have ipv:(if i=0 then (0:Int) else ((all+i:Nat):Int))=((all:Int)+1+(i:Int) - 1):=by rw [ZO hf];omega
     have inx:(if i+1=m then (0:Int) else ((all+i+2:Nat):Int))=0:=by rw [ZN hl]
     rw [ipv] at EP;rw [inx] at EN;have dpv:decide ((all:Int)+1+(i:Int) - 1 < (all:Int)+1)=false:=by simp;omega
     have dpv2:¬ (all:Int)+1+(i:Int) - 1 < (all:Int)+1:=by omega
     have dnx:decide ((all:Int)+(m:Int) < (all:Int)+1+(i:Int)+1)=true:=by simp;omega
     have dnx2:(all:Int)+(m:Int) < (all:Int)+1+(i:Int)+1:=by omega
     clear ipv inx hf hl;go_wp2_with (first
      | (refine wpList_load_mid rfl 98 _ rfl b (i*2) rfl _ _ HF.out underlying98 rfl (by kernel_rfl) ?_)
      | (refine Zj rfl 98 (.tmp 11) _ rfl wr.heap.size _ rfl rfl _ _ (ZF _ _) (by kernel_rfl) rfl (by kernel_rfl) ?_;rw [<-HWM.out, <-HMB.out];clear HWM))
     refine ap 23 _ (ag [zp Eb,zp mb,tk,.string ⟨qt.toArray⟩,.string ⟨x4.toArray⟩,.string ⟨x5.toArray⟩,(all:Int),.string ⟨ea.toArray⟩,.string ⟨x8.toArray⟩,((all:Int)+1+(i:Int) - 1:Int),.string ⟨ep.toArray⟩,.string ⟨x11.toArray⟩,oz,.string ⟨en.toArray⟩,.string ⟨x14.toArray⟩,.string ⟨x15.toArray⟩,(fp:Int),zq mb 1,(pk:Int),((fp+pk:Nat):Int),.string ⟨nm.toArray⟩,.string ⟨x21.toArray⟩,.string ⟨x22.toArray⟩]) (by kernel_rfl) rfl (by kernel_rfl) aq ?_;simp only [TD]
     iterate 23
      refine ⟨fun w1 hG hd=>?_,fun v=>?_⟩
      ·have c1:=Zw w1 mb 0 _ _ (0,0) ((hG.block mb hmb).trans KMB.out);simp at c1;have c2:=Zw w1 mb 1 _ _ (0,0) ((hG.block mb hmb).trans KMB.out);simp at c2
       try (have d:=hd _ ⟨ZB _⟩ rfl;simp only [ag,GD] at d;subst d)
       try (have d:=hd _ ⟨.tail _ (.head _)⟩ rfl;simp only [ag,GD] at d;subst d)
       clear hd;go_wp2_with fail
       first
        | exact RG
        | exact CS (by assumption)
        | ((first | with_reducible refine (QT.out w1 hG).mono ?_ | with_reducible refine (EA.out w1 hG).mono ?_ | with_reducible refine (EP.out w1 hG).mono ?_ | with_reducible refine (EN.out w1 hG).mono ?_ | refine (NM.out w1 hG).mono ?_);rintro e w2 ⟨rfl,hB2⟩;go_wp2_with fail;exact ⟨rfl,hB2⟩)
      simp only [TN]
     intro w7 hG hd;have d0:=hd 0 (by omega);have d22:=hd 22 (by omega);simp only [ag,GD] at d0 d22;subst d0 d22;obtain ⟨kk,hA⟩:=AD.out w7 hG;rw [<-HBB.out] at hA;have HAA:=ai hA;clear hA hd hG QT EA EP EN NM AD KMB;go_wp2_with fail
     refine HAA.out.mono ?_;rintro e w8 ⟨rfl,hI2⟩;clear HAA;go_wp2_with fail
     go_roundg (gk - 1)
     case measure=>omega
     case rel=>exact ⟨i+1,by omega,by omega,by congr 1,hI2⟩
    ·skip
     have ipv:(if i=0 then (0:Int) else ((all+i:Nat):Int))=((all:Int)+1+(i:Int) - 1):=by rw [ZO hf];omega
     have inx:(if i+1=m then (0:Int) else ((all+i+2:Nat):Int))=((all:Int)+1+(i:Int)+1):=by rw [ZO hl];omega
     rw [ipv] at EP;rw [inx] at EN;have dpv:decide ((all:Int)+1+(i:Int) - 1 < (all:Int)+1)=false:=by simp;omega
     have dpv2:¬ (all:Int)+1+(i:Int) - 1 < (all:Int)+1:=by omega
     have dnx:decide ((all:Int)+(m:Int) < (all:Int)+1+(i:Int)+1)=false:=by simp;omega
     have dnx2:¬ (all:Int)+(m:Int) < (all:Int)+1+(i:Int)+1:=by omega
     clear ipv inx hf hl;go_wp2_with (first
      | (refine wpList_load_mid rfl 98 _ rfl b (i*2) rfl _ _ HF.out underlying98 rfl (by kernel_rfl) ?_)
      | (refine Zj rfl 98 (.tmp 11) _ rfl wr.heap.size _ rfl rfl _ _ (ZF _ _) (by kernel_rfl) rfl (by kernel_rfl) ?_;rw [<-HWM.out, <-HMB.out];clear HWM))
     refine ap 23 _ (ag [zp Eb,zp mb,tk,.string ⟨qt.toArray⟩,.string ⟨x4.toArray⟩,.string ⟨x5.toArray⟩,(all:Int),.string ⟨ea.toArray⟩,.string ⟨x8.toArray⟩,((all:Int)+1+(i:Int) - 1:Int),.string ⟨ep.toArray⟩,.string ⟨x11.toArray⟩,((all:Int)+1+(i:Int)+1:Int),.string ⟨en.toArray⟩,.string ⟨x14.toArray⟩,.string ⟨x15.toArray⟩,(fp:Int),zq mb 1,(pk:Int),((fp+pk:Nat):Int),.string ⟨nm.toArray⟩,.string ⟨x21.toArray⟩,.string ⟨x22.toArray⟩]) (by kernel_rfl) rfl (by kernel_rfl) aq ?_;simp only [TD]
     iterate 23
      refine ⟨fun w1 hG hd=>?_,fun v=>?_⟩
      ·have c1:=Zw w1 mb 0 _ _ (0,0) ((hG.block mb hmb).trans KMB.out);simp at c1;have c2:=Zw w1 mb 1 _ _ (0,0) ((hG.block mb hmb).trans KMB.out);simp at c2
       try (have d:=hd _ ⟨ZB _⟩ rfl;simp only [ag,GD] at d;subst d)
       try (have d:=hd _ ⟨.tail _ (.head _)⟩ rfl;simp only [ag,GD] at d;subst d)
       clear hd;go_wp2_with fail
       first
        | exact RG
        | exact CS (by assumption)
        | ((first | with_reducible refine (QT.out w1 hG).mono ?_ | with_reducible refine (EA.out w1 hG).mono ?_ | with_reducible refine (EP.out w1 hG).mono ?_ | with_reducible refine (EN.out w1 hG).mono ?_ | refine (NM.out w1 hG).mono ?_);rintro e w2 ⟨rfl,hB2⟩;go_wp2_with fail;exact ⟨rfl,hB2⟩)
      simp only [TN]
     intro w7 hG hd;have d0:=hd 0 (by omega);have d22:=hd 22 (by omega);simp only [ag,GD] at d0 d22;subst d0 d22;obtain ⟨kk,hA⟩:=AD.out w7 hG;rw [<-HBB.out] at hA;have HAA:=ai hA;clear hA hd hG QT EA EP EN NM AD KMB;go_wp2_with fail
     refine HAA.out.mono ?_;rintro e w8 ⟨rfl,hI2⟩;clear HAA;go_wp2_with fail
     go_roundg (gk - 1)
     case measure=>omega
     case rel=>exact ⟨i+1,by omega,by omega,by congr 1,hI2⟩
  ·obtain rfl:i=m:=by omega
   have d1:decide ((i:Int) < (i:Int))=false:=by simp
   have hZ:=HZ.out wr hI;go_wp2_with fail
   first
    | exact hZ
    | (go_ret;exact hZ)
theorem kv {T e:TypeId} {B b:Nat} {p:Value} {bs:List Value} {w w':World} (h:Lib.BuilderAt T e B b p bs w) (g:Below w w w'):Lib.BuilderAt T e B b p bs w':=by
 obtain ⟨h1,v,hb,h2,h3⟩:=h;have hlt:b < w.heap.size:=by
  rcases Nat.lt_or_ge b w.heap.size with h | h
  ·exact h
  ·rw [Array.getElem?_eq_none h] at hb;cases hb
 exact ⟨h1,v,(g.block b hlt).trans hb,lH h2 (fun k hk=>g.block k (h2.lt k hk).2),h3⟩
theorem nT.on {B b:Nat} {l:List UInt8} {w w':World} (h:nT B b l w) (g:Below w w w'):nT B b l w':=h.elim (fun h=>.inl (kv h g)) (fun h=>.inr (kv h g))
theorem jr (n:Nat) (hn:n < 10000000000):(gr n).length=10:=by
 have h1:(Lib.decDigits n).length<=10:=by
  have hd:∀ (k u:Nat),u < 10 ^ (k+1)->(Lib.decDigits u).length<=k+1:=by
   intro k;induction k with
   | zero=>intro u h;rw [Lib.decDigits,dif_pos (by omega)];simp
   | succ k ih=>
    intro u h;rw [Lib.decDigits];split
    ·simp
    ·have:=ih (u / 10) (by rw [Nat.pow_succ] at h;omega);simp;omega
  exact hd 9 n (by simpa using hn)
 unfold gr;rw [Lib.itoa_nonneg,ZY,Lib.repeatL_length];simp;omega
theorem tL (w:World) (B Fb b n cap:Nat) (begins:List Nat) (hl:begins.length=n) (hn:n<=1000) (hn0:0 < n) (hcap:n<=cap) (hcap2:cap<=9223372036854775807) (hbg:∀ x∈begins,x<=4000000000) (hFb:Fb < w.heap.size) (hbl:b < w.heap.size) (hB:B<=w.heap.size) (ht:bU B w) (c1:w.cell? (zq Fb 1)=some (.slice b n cap)) (hc:∀ (i:Nat) x,begins[i]? =some x->w.cell? (zq b i)=(x:Int)):
  QB 140 #[zp Fb] w (.string ⟨(fu begins).toArray⟩):=by
 obtain ⟨bb,hbb⟩:∃ bb,bb=w.heap.size:=⟨_,rfl⟩;have HF:Hid (nT bb bb [] (w.alloc (Obj.cells #[Value.pointer none,Value.slice none 0 0] 232))):=by rw [hbb];exact Lib.fresh_isBuilder 232 5 w
 have BA:Below bb w (w.alloc (Obj.cells #[Value.pointer none,Value.slice none 0 0] 232)):=by rw [hbb];exact (ZT _ w).alloc (ZW _) _
 have hza:bb < (w.alloc (Obj.cells #[Value.pointer none,Value.slice none 0 0] 232)).heap.size:=by rw [hbb];simp
 have HIt:Hid (∀ wx,Below bb w wx->QB 120 #[((n+1:Nat):Int)] wx (.string ⟨(Lib.itoa ((n+1:Nat):Int)).toArray⟩)):=fun wx hb=>bp B wx _ (by omega) (by omega) (ht.on (hb.mono (by omega)))
 have lit:=ar ((n+1:Nat):Int) (by omega) (by omega);have HTb:Hid (fu begins=[120,114,101,102,10,48,32]++Lib.itoa ((n+1:Nat):Int)++[10,48,48,48,48,48,48,48,48,48,48,32,54,53,53,51,53,32,102,32,10]++bR begins):=by show _=_;rw [fu,hl]
 have HTn:Hid (∀ (k x:Nat),begins[k]? =some x->∀ wx,Below bb w wx->bb<=wx.heap.size->QB 184 #[(x:Int)] wx (.string ⟨(gr x).toArray⟩)):=by
  intro k x hx wx hb hz;have hxm:x<=4000000000:=hbg x (YG hx);refine ul B wx x hxm (by omega) (ht.on (hb.mono (by omega))) ?_;rw [Lib.repeatL_length];simp
 have HC:=ai hc;have HXB:Hid (∀ (k x:Nat),begins[k]? =some x->x<=4000000000):=fun k x hx=>hbg x (YG hx)
 obtain ⟨it,hit⟩:∃ x,Lib.itoa ((n+1:Nat):Int)=x:=⟨_,rfl⟩;rw [hit] at HIt lit HTb;have zit:=ae it;have HHd:Hid ((⟨#[120,114,101,102,10,48,32]⟩++⟨it.toArray⟩++⟨#[10,48,48,48,48,48,48,48,48,48,48,32,54,53,53,51,53,32,102,32,10]⟩:ByteArray).data.toList=[120,114,101,102,10,48,32]++it++[10,48,48,48,48,48,48,48,48,48,48,32,54,53,53,51,53,32,102,32,10]):=by show _=_;simp
 have hFb2:Fb < bb:=by omega
 have hbl2:b < bb:=by omega
 have C1:=ai c1;clear hit hc hbg ht;have HBB:=ai hbb;have hc1a:(w.alloc (Obj.cells #[Value.pointer none,Value.slice none 0 0] 232)).cell? (zq Fb 1)=some (.slice b n cap):=(BA.cell (p:=zq Fb 1) hFb2).trans c1;have HNN:=ai (dD (w.alloc (Obj.cells #[Value.pointer none,Value.slice none 0 0] 232)) Fb n cap (some ⟨b,0,none⟩) hc1a (by omega));go_enter func140,ntmps140
 go_wp2_with fail
 rw [<-hbb];clear hbb hc1a;refine HNN.out.mono ?_;rintro e w1 ⟨rfl,rfl⟩;go_wp2_with fail
 refine (HIt.out _ BA).mono ?_;rintro e w2 ⟨rfl,g2⟩;have h2:=HF.out.on g2;have b2:=BA.trans (g2.mono (by omega));have z2:=ZK hza g2.size;have HW2:=ai (jX bb bb [] (⟨#[120,114,101,102,10,48,32]⟩++⟨it.toArray⟩++⟨#[10,48,48,48,48,48,48,48,48,48,48,32,54,53,53,51,53,32,102,32,10]⟩) w2 h2 (by simp [ByteArray.size];omega) (by omega));rw [HHd.out] at HW2;have B2:=ai b2;clear HF BA g2 h2 b2 hza HIt HNN;go_wp2_with fail
 refine HW2.out.mono ?_;rintro e w3 ⟨rfl,h3,g3⟩;have H3:=ai h3;have B3:=ai (B2.out.trans g3);have z3:=ZK z2 g3.size;have k1:=(B3.out.cell (p:=zq Fb 1) hFb2).trans c1;clear h3 g3 z2 HW2 B2 c1;go_wp2_with fail
 obtain ⟨hd,hhd⟩:∃ x,x=[120,114,101,102,10,48,32]++it++[10,48,48,48,48,48,48,48,48,48,48,32,54,53,53,51,53,32,102,32,10]:=⟨_,rfl⟩;rw [Zq, <-hhd] at H3;rw [<-hhd] at HTb;have hhl:hd.length<=100:=by rw [hhd];simp;omega
 clear hhd k1 HHd;go_loopg [5,17] (n+1) (fun g _ x wr=>∃ i:Nat,∃ acc:List UInt8,i<=n/\n - i < g/\x=.int .i64 (i:Int)/\Hid (acc=hd++bR (begins.take i))/\acc.length<=100+20*i/\Hid (nT bb bb acc wr)/\Hid (Below bb w wr)/\bb < wr.heap.size)
 case atStart=>exact ⟨0,hd,by omega,by omega,rfl,by show _=_;simp [bR],by omega,H3,B3,z3⟩
 case round=>
  obtain ⟨i,acc,hi,hgi,rfl,HA,hal,HI,HW,hz⟩:=hrel;clear H3 B3 z3;by_cases hlt:i < n
  ·have d1:decide ((i:Int) < (n:Int))=true:=by simp;omega
   have hil:i < begins.length:=by omega
   obtain ⟨x,hx⟩:∃ x,begins[i]? =some x:=⟨begins[i],ZM hil⟩;have cx:=(HW.out.cell (p:=zq b i) hbl2).trans (HC.out i x hx);have HT:=ai (HTn.out i x hx wr HW.out (by omega));have hxe:begins[i]=x:=by rw [ZM hil] at hx;exact YI hx
   have HN:Hid (acc++(gr x++[32,48,48,48,48,48,32,110,32,10])=hd++bR (begins.take (i+1))):=by
    show _=_
    rw [Zv hil,mP,HA.out,hxe,ZS];rfl
   have htd:(gr x).length<=10:=by
    have hxm:x < 10000000000:=XS (HXB.out i x hx) (by decide);rw [jr x hxm];omega
   obtain ⟨td,htd2⟩:∃ y,gr x=y:=⟨_,rfl⟩;rw [htd2] at HT HN htd;have ztd:=ae td;clear hx hxe HA htd2;go_wp2_with fail
   refine HT.out.mono ?_;rintro e u1 ⟨rfl,g1⟩;have h1:=HI.out.on g1;have b1:=HW.out.trans (g1.mono (by omega));have z1:=ZK hz g1.size;have HW1:=ai (jX bb bb acc (⟨td.toArray⟩++⟨#[32,48,48,48,48,48,32,110,32,10]⟩) u1 h1 (by simp [ByteArray.size];omega) (by omega));have e1:(⟨td.toArray⟩++⟨#[32,48,48,48,48,48,32,110,32,10]⟩:ByteArray).data.toList=td++[32,48,48,48,48,48,32,110,32,10]:=by simp
   rw [e1] at HW1;have B1:=ai b1;clear g1 h1 b1 e1 HT;go_wp2_with fail
   refine HW1.out.mono ?_;rintro e u2 ⟨rfl,h2,g2⟩;have H2:=ai h2;have B2:=ai (B1.out.trans g2);have z2:=ZK z1 g2.size;clear HW1 h2 g2 B1 cx;go_wp2_with fail
   go_roundg (gk - 1)
   case measure=>omega
   case rel=>exact ⟨i+1,_,by omega,by omega,by congr 1,HN,by simp;omega,H2,B2,z2⟩
  ·obtain rfl:i=n:=by omega
   have d1:decide ((i:Int) < (i:Int))=false:=by simp
   have HQ:Hid (acc=fu begins):=by
    show _=_
    rw [HA.out,HTb.out,Zy (by omega)]
   have HS:=ai (uH bb bb acc wr HI.out (by omega));clear HA HTb;go_wp2_with fail
   refine HS.out.mono ?_;rintro e u1 ⟨rfl,g1⟩;have hB9:=ai (HW.out.trans g1);clear g1;go_wp2_with fail
   go_ret;rw [HQ.out];refine ⟨rfl,?_⟩;rw [<-HBB.out];exact hB9.out
end Go.Proofs.YtbklfkpjoinofaaGreatDoor
