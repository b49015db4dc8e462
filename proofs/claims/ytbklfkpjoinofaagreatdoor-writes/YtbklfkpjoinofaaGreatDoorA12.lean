import Derived.Test.YtbklfkpjoinofaaGreatDoorA11
set_option linter.all false
set_option maxRecDepth 100000
set_option maxHeartbeats 8000000
namespace Go.Proofs.YtbklfkpjoinofaaGreatDoor
open Go.RowKit Go.Proofs.Tryz
theorem aY {B:Nat} {w w':World} {n:Nat} (h:Below B w w'):Below B w (w'.drewN n):=⟨h.os,h.tape,h.output,h.size,h.block⟩
section
variable {Wp:Value} {Rb:Nat} {et:TypeId} {ev:Value}
theorem oD (w:World) (n:Int) (hn:¬ n=0) (HR:Hid (QD 47 #[Wp] w (.tuple #[.pointer none,n]))):
  QD 77 #[Wp] w (.tuple #[.pointer none,n]):=by
 go_enter func77,ntmps77
 go_wp2_with fail
 refine HR.out.mono ?_;rintro e w1 ⟨rfl,qn,rfl⟩;go_wp2;go_ret2;exact ⟨rfl,_,rfl⟩
theorem x' (w:World) (W H:Int) (n:Int) (hn:¬ n=0) (HR:Hid (QD 47 #[Wp] w (.tuple #[.pointer none,n]))):
  QD 34 #[Wp,W,H] w n:=by
 go_enter func34,ntmps34
 go_wp2_with fail
 refine HR.out.mono ?_;rintro e w1 ⟨rfl,qn,rfl⟩;go_wp2;go_ret;exact ⟨rfl,_,rfl⟩
theorem xK (w:World) (s:ByteArray) (n:Int) (hn:¬ n=0) (HR:Hid (QD 47 #[Wp] w (.tuple #[.pointer none,n]))):
  QD 41 #[Wp,s] w n:=by
 go_enter func41,ntmps41
 go_wp2_with fail
 refine HR.out.mono ?_;rintro e w1 ⟨rfl,qn,rfl⟩;go_wp2;go_ret;exact ⟨rfl,_,rfl⟩
theorem zj (w:World) (s:ByteArray) (n:Int) (hn:¬ n=0) (HR:Hid (QD 47 #[Wp] w (.tuple #[.pointer none,n]))):
  QD 39 #[Wp,s] w n:=by
 go_enter func39,ntmps39
 go_wp2_with fail
 refine HR.out.mono ?_;rintro e w1 ⟨rfl,qn,rfl⟩;go_wp2;go_ret;exact ⟨rfl,_,rfl⟩
theorem vS (w:World) (s:ByteArray) (n:Int) (hn:¬ n=0) (HR:Hid (QD 47 #[Wp] w (.tuple #[.pointer none,n]))):
  QD 36 #[Wp,s] w n:=by
 go_enter func36,ntmps36
 go_wp2_with fail
 refine HR.out.mono ?_;rintro e w1 ⟨rfl,qn,rfl⟩;go_wp2;go_ret;exact ⟨rfl,_,rfl⟩
theorem vr (w:World) (n:Int) (hn:¬ n=0) (HR:Hid (QD 47 #[Wp] w (.tuple #[.pointer none,n]))):
  QD 38 #[Wp] w n:=by
 go_enter func38,ntmps38
 go_wp2_with fail
 refine HR.out.mono ?_;rintro e w1 ⟨rfl,qn,rfl⟩;go_wp2;go_ret;exact ⟨rfl,_,rfl⟩
theorem wM (w:World) (n:Int) (hn:¬ n=0) (HR:Hid (QD 47 #[Wp] w (.tuple #[.pointer none,n]))):
  QD 18 #[Wp] w n:=by
 go_enter func18,ntmps18
 go_wp2_with fail
 refine HR.out.mono ?_;rintro e w1 ⟨rfl,qn,rfl⟩;go_wp2;go_ret;exact ⟨rfl,_,rfl⟩
theorem rM (w:World) (K A B C D E Co Ro:Int) (s:ByteArray) (n:Int) (hn:¬ n=0) (HR:Hid (∀ wx,Below w w wx->QD 77 #[Wp] wx (.tuple #[.pointer none,n]))):
  QB 42 #[Wp,.agg #[K,A,B,C,D,E,Co,Ro,s]] w n:=by
 go_enter func42,ntmps42
 go_wp2_with fail
 refine (HR.out _ ((ZV _ w).alloc (ZX _) _)).mono ?_;rintro e w1 ⟨rfl,qn,rfl⟩;go_wp2;go_ret;exact ⟨rfl,aY ((ZV _ w).alloc (ZX _) _)⟩
theorem oQ (w:World) (K A B C D E Co Ro:Int) (s:ByteArray) (n:Int) (hn:¬ n=0) (HR:Hid (∀ wx,Below w w wx->QD 77 #[Wp] wx (.tuple #[.pointer none,n]))):
  QB 40 #[Wp,.agg #[K,A,B,C,D,E,Co,Ro,s]] w n:=by
 go_enter func40,ntmps40
 go_wp2_with fail
 refine (HR.out _ ((ZV _ w).alloc (ZX _) _)).mono ?_;rintro e w1 ⟨rfl,qn,rfl⟩;go_wp2;go_ret;exact ⟨rfl,aY ((ZV _ w).alloc (ZX _) _)⟩
theorem uw (w:World) (Pg:Nat) (r2:w.cell? (zq Rb 2)=zp Pg) (HR:Hid (QD 47 #[Wp] w (.tuple #[zp Rb,oz]))):
  QD 18 #[Wp] w (2:Int):=by
 go_enter func18,ntmps18
 go_wp2_with fail
 refine HR.out.mono ?_;rintro e w1 ⟨rfl,qn,rfl⟩;go_wp2;go_ret;exact ⟨rfl,_,rfl⟩
theorem pu (w:World) (r1:w.cell? (zq Rb 1)=some (.pointer none)) (r2:w.cell? (zq Rb 2)=some (.pointer none)) (HR:Hid (QD 47 #[Wp] w (.tuple #[zp Rb,oz]))):
  QD 18 #[Wp] w (2:Int):=by
 go_enter func18,ntmps18
 go_wp2_with fail
 refine HR.out.mono ?_;rintro e w1 ⟨rfl,qn,rfl⟩;go_wp2;go_ret;exact ⟨rfl,_,rfl⟩
theorem uv (w:World) (Fb:Nat) (Z:Ending->World->Prop) (r1:w.cell? (zq Rb 1)=zp Fb) (r2:w.cell? (zq Rb 2)=some (.pointer none)) (HR:Hid (QD 47 #[Wp] w (.tuple #[zp Rb,oz])))
  (HE:Hid (∀ qn,CP 48 #[zp Rb] (w.drewN qn) fun e w'=>∃ v,e=.returned v/\Z (.returned v) w')):
  CP 18 #[Wp] w Z:=by
 go_enter func18,ntmps18
 go_wp2_with fail
 refine HR.out.mono ?_;rintro e w1 ⟨rfl,qn,rfl⟩;have HX:=aa (HE.out qn);clear HE HR;go_wp2_with fail
 refine HX.out.mono ?_;rintro e w2 ⟨v,rfl,hZ⟩;go_wp2
 first
  | exact hZ
  | (go_ret;exact hZ)
end
theorem om (w:World) (y:Nat) (K A X C D E Co Ro:Int) (t:ByteArray) (HD:Hid (∀ wx,Below w w wx->QD 110 #[zp y] wx false)):
  QB 60 #[zp y,.agg #[K,A,X,C,D,E,Co,Ro,t]] w (2:Int):=by
 go_enter func60,ntmps60
 go_wp2_with fail
 refine (HD.out _ ((ZV _ w).alloc (ZX _) _)).mono ?_;rintro e w1 ⟨rfl,q,rfl⟩;go_wp2;go_ret;exact ⟨rfl,aY ((ZV _ w).alloc (ZX _) _)⟩
theorem oF (w:World) (y:Nat) (A X C D Co Ro:Int) (m z:Nat) (x:ByteArray) (hc0:1<=Co) (hc1:Co<=64) (hr0:1<=Ro) (hr1:Ro<=64) (hm:Hid (Co*Ro=(m:Int))) (hm2:m<=4096) (hz:z<=1048576) (hx:x.size<=1000000) (hl:1048576 < z+x.size+m) (hy:y < w.heap.size) (c14:w.cell? (zq y 14)=(z:Int)) (fz:∀ o,w.frozen? (zq y o)=false) (HD:Hid (∀ wx,Below w w wx->QD 110 #[zp y] wx true)) (I1:Hid (∀ wx,QE 109 #[A,(-14400000:Int),(14400000:Int)] wx true)) (I2:Hid (∀ wx,QE 109 #[X,(-14400000:Int),(14400000:Int)] wx true)) (I3:Hid (∀ wx,QE 109 #[C,(1:Int),(14400000:Int)] wx true)) (I4:Hid (∀ wx,QE 109 #[D,(1:Int),(14400000:Int)] wx true)) (I5:Hid (∀ wx,QE 109 #[Co,(1:Int),(64:Int)] wx true)) (I6:Hid (∀ wx,QE 109 #[Ro,(1:Int),(64:Int)] wx true)) (HX:Hid (∀ wx,Below w w wx->QB 112 #[.agg #[(4:Int),A,X,C,D,(0:Int),Co,Ro,.string ⟨#[]⟩]] wx x)):
  QB 60 #[zp y,.agg #[(4:Int),A,X,C,D,(0:Int),Co,Ro,.string ⟨#[]⟩]] w (3:Int):=by
 go_enter func60,ntmps60
 go_wp2_with fail
 refine (HD.out _ ((ZV _ w).alloc (ZX _) _)).mono ?_;rintro e w1 ⟨rfl,q,rfl⟩;go_wp2_with fail
 refine (I1.out _).mono ?_;rintro e w1 ⟨rfl,rfl⟩;go_wp2_with fail
 refine (I2.out _).mono ?_;rintro e w1 ⟨rfl,rfl⟩;go_wp2_with fail
 refine (I3.out _).mono ?_;rintro e w1 ⟨rfl,rfl⟩;go_wp2_with fail
 refine (I4.out _).mono ?_;rintro e w1 ⟨rfl,rfl⟩;go_wp2_with fail
 refine (I5.out _).mono ?_;rintro e w1 ⟨rfl,rfl⟩;go_wp2_with fail
 refine (I6.out _).mono ?_;rintro e w1 ⟨rfl,rfl⟩;obtain ⟨w0,hw0⟩:∃ w0,w0=(w.alloc (.cells #[(4:Int),A,X,C,D,oz,Co,Ro,.string ⟨#[]⟩] 31)).drewN q:=⟨_,rfl⟩;have b9:Below w w w0:=by rw [hw0];exact aY ((ZV _ w).alloc (ZX _) _)
 have hz0:w.heap.size < w0.heap.size:=by rw [hw0];show w.heap.size < (w.alloc _).heap.size;simp
 have hbk:w0.heap[w.heap.size]? =some (.cells #[(4:Int),A,X,C,D,oz,Co,Ro,.string ⟨#[]⟩] 31 (0,0)):=by rw [hw0];exact ZE w _
 have HOB:Hid (∀ (w1:World),af w0 w1->w1.heap[w.heap.size]? =some (.cells #[(4:Int),A,X,C,D,oz,Co,Ro,.string ⟨#[]⟩] 31 (0,0))):=fun w1 hG=>(hG.block w.heap.size hz0).trans hbk
 have HB9:Hid (∀ (w1:World),af w0 w1->Below w w w1):=fun w1 hG=>b9.trans (hG.mono b9.size)
 have HW0:=aa hw0;clear hbk b9 hw0;have hzz:=hz0;clear hz0;go_wp2_with fail
 rw [<-HW0.out];clear HW0;refine ap 14 _ (ag [zp y,zp y,zq y 14,(z:Int),.agg #[(4:Int),A,X,C,D,(0:Int),Co,Ro,.string ⟨#[]⟩],x,(x.size:Int),((z:Int)+(x.size:Int):Int),zq w.heap.size 6,Co,zq w.heap.size 7,Ro,(m:Int),((z:Int)+(x.size:Int)+(m:Int):Int)]) (by kernel_rfl) rfl (by kernel_rfl) aq ?_;simp only [TD]
 iterate 3
  refine ⟨fun w1 hG hd=>?_,fun v=>?_⟩
  ·try (have d:=hd _ ⟨ZM _⟩ rfl;simp only [ag,GD] at d;subst d)
   clear hd;go_wp2;exact RG
  simp only [TN]
 refine ⟨fun w1 hG hd=>?_,fun v3=>?_⟩
 ·have d2:=hd ⟨2,.data⟩ (by simp) rfl;simp only [ag,GD] at d2;clear hd;subst d2;have c:=(HB9.out w1 hG).cell (p:=zq y 14) hy;rw [c14] at c;go_wp2;exact RG
 simp only [TN];refine ⟨fun w1 hG hd=>?_,fun v4=>?_⟩
 ·clear hd;refine Zu rfl 31 (.tmp 3) rfl w.heap.size rfl 31 _ (0,0) _ (HOB.out _ hG) underlying31 rfl (by kernel_rfl) ?_;refine Zq ?_;exact ⟨rfl,rfl,rfl,af.refl _⟩
 simp only [TN]
 iterate 7
  refine ⟨fun w1 hG hd=>?_,fun v=>?_⟩
  ·have c1:=ZL w1 w.heap.size 6 _ _ (0,0) (HOB.out _ hG);simp at c1;have c2:=ZL w1 w.heap.size 7 _ _ (0,0) (HOB.out _ hG);simp at c2
   try (have d:=hd _ ⟨ZM _⟩ rfl;simp only [ag,GD] at d;subst d)
   try (have d:=hd _ ⟨.tail _ (.head _)⟩ rfl;simp only [ag,GD] at d;subst d)
   clear hd;go_wp2_with fail
   first
    | exact RG
    | ((with_reducible refine (HX.out w1 (HB9.out w1 hG)).mono ?_);rintro e w2 ⟨rfl,hB2⟩;go_wp2;exact ⟨rfl,hB2⟩)
  simp only [TN]
 refine ⟨fun w1 hG hd=>?_,fun v12=>?_⟩
 ·have d9:=hd ⟨9,.data⟩ (by simp) rfl;have d11:=hd ⟨11,.data⟩ (by simp) rfl;simp only [ag,GD] at d9 d11;clear hd;subst d9 d11;go_wp2;exact ⟨congrArg (Value.int .i64) (by rw [hm.out];exact YS _ (by omega)),af.refl _⟩
 simp only [TN];refine ⟨fun w1 hG hd=>?_,fun v13=>?_⟩
 ·have d7:=hd ⟨7,.data⟩ (by simp) rfl;have d12:=hd ⟨12,.data⟩ (by simp) rfl;simp only [ag,GD] at d7 d12;clear hd;subst d7 d12;go_wp2;exact RG
 simp only [TN];intro w2 hG hd;have d13:=hd 13 (by omega);simp only [ag,GD] at d13;subst d13;have hB2:=HB9.out w2 hG;have hob:=HOB.out w2 hG;clear hd HOB HB9 hG HD I1 I2 I3 I4 I5 I6 HX;have d1:decide (1048576 < (z:Int)+(x.size:Int)+(m:Int))=true:=by simp;omega
 have d1':1048576 < (z:Int)+(x.size:Int)+(m:Int):=by omega
 have HB:=aa hB2;clear hB2 hob c14 fz;go_wp2;go_ret;exact ⟨rfl,HB.out⟩
theorem sQ (w:World) (y:Nat) (A X C D Co Ro:Int) (m z:Nat) (x:ByteArray) (hc0:1<=Co) (hc1:Co<=64) (hr0:1<=Ro) (hr1:Ro<=64) (hm:Hid (Co*Ro=(m:Int))) (hm2:m<=4096) (hz:z<=1048576) (hx:x.size<=1000000) (hl:z+x.size+m<=1048576) (hy:y < w.heap.size) (c14:w.cell? (zq y 14)=(z:Int)) (fz:∀ o,w.frozen? (zq y o)=false) (HD:Hid (∀ wx,Below w w wx->QD 110 #[zp y] wx true)) (I1:Hid (∀ wx,QE 109 #[A,(-14400000:Int),(14400000:Int)] wx true)) (I2:Hid (∀ wx,QE 109 #[X,(-14400000:Int),(14400000:Int)] wx true)) (I3:Hid (∀ wx,QE 109 #[C,(1:Int),(14400000:Int)] wx true)) (I4:Hid (∀ wx,QE 109 #[D,(1:Int),(14400000:Int)] wx true)) (I5:Hid (∀ wx,QE 109 #[Co,(1:Int),(64:Int)] wx true)) (I6:Hid (∀ wx,QE 109 #[Ro,(1:Int),(64:Int)] wx true)) (HX:Hid (∀ wx,Below w w wx->QB 112 #[.agg #[(4:Int),A,X,C,D,(0:Int),Co,Ro,.string ⟨#[]⟩]] wx x)) (c13:∃ o,w.cell? (zq y 13)=some (.int .i64 o)) (ht:w.there y 4 9) (Z:Ending->World->Prop) (HZ:Hid (∀ wx,Below w w wx->Z (.returned (0:Int)) (((wx.setCell (zq y 14) ((z+x.size+m:Nat):Int)).setCells y 4 [.int .i64 4,.int .i64 A,.int .i64 X,.int .i64 C,.int .i64 D,.int .i64 0,.int .i64 Co,.int .i64 Ro,.string ⟨#[]⟩]).setCell (zq y 13) (m:Int)))):
  CP 60 #[zp y,.agg #[(4:Int),A,X,C,D,(0:Int),Co,Ro,.string ⟨#[]⟩]] w Z:=by
 go_enter func60,ntmps60
 go_wp2_with fail
 refine (HD.out _ ((ZV _ w).alloc (ZX _) _)).mono ?_;rintro e w1 ⟨rfl,q,rfl⟩;go_wp2_with fail
 refine (I1.out _).mono ?_;rintro e w1 ⟨rfl,rfl⟩;go_wp2_with fail
 refine (I2.out _).mono ?_;rintro e w1 ⟨rfl,rfl⟩;go_wp2_with fail
 refine (I3.out _).mono ?_;rintro e w1 ⟨rfl,rfl⟩;go_wp2_with fail
 refine (I4.out _).mono ?_;rintro e w1 ⟨rfl,rfl⟩;go_wp2_with fail
 refine (I5.out _).mono ?_;rintro e w1 ⟨rfl,rfl⟩;go_wp2_with fail
 refine (I6.out _).mono ?_;rintro e w1 ⟨rfl,rfl⟩;obtain ⟨w0,hw0⟩:∃ w0,w0=(w.alloc (.cells #[(4:Int),A,X,C,D,oz,Co,Ro,.string ⟨#[]⟩] 31)).drewN q:=⟨_,rfl⟩;have b9:Below w w w0:=by rw [hw0];exact aY ((ZV _ w).alloc (ZX _) _)
 have hz0:w.heap.size < w0.heap.size:=by rw [hw0];show w.heap.size < (w.alloc _).heap.size;simp
 have hbk:w0.heap[w.heap.size]? =some (.cells #[(4:Int),A,X,C,D,oz,Co,Ro,.string ⟨#[]⟩] 31 (0,0)):=by rw [hw0];exact ZE w _
 have HOB:Hid (∀ (w1:World),af w0 w1->w1.heap[w.heap.size]? =some (.cells #[(4:Int),A,X,C,D,oz,Co,Ro,.string ⟨#[]⟩] 31 (0,0))):=fun w1 hG=>(hG.block w.heap.size hz0).trans hbk
 have HB9:Hid (∀ (w1:World),af w0 w1->Below w w w1):=fun w1 hG=>b9.trans (hG.mono b9.size)
 have HW0:=aa hw0;clear hbk b9 hw0;have hzz:=hz0;clear hz0;go_wp2_with fail
 rw [<-HW0.out];clear HW0;refine ap 14 _ (ag [zp y,zp y,zq y 14,(z:Int),.agg #[(4:Int),A,X,C,D,(0:Int),Co,Ro,.string ⟨#[]⟩],x,(x.size:Int),((z:Int)+(x.size:Int):Int),zq w.heap.size 6,Co,zq w.heap.size 7,Ro,(m:Int),((z:Int)+(x.size:Int)+(m:Int):Int)]) (by kernel_rfl) rfl (by kernel_rfl) aq ?_;simp only [TD]
 iterate 3
  refine ⟨fun w1 hG hd=>?_,fun v=>?_⟩
  ·try (have d:=hd _ ⟨ZM _⟩ rfl;simp only [ag,GD] at d;subst d)
   clear hd;go_wp2;exact RG
  simp only [TN]
 refine ⟨fun w1 hG hd=>?_,fun v3=>?_⟩
 ·have d2:=hd ⟨2,.data⟩ (by simp) rfl;simp only [ag,GD] at d2;clear hd;subst d2;have c:=(HB9.out w1 hG).cell (p:=zq y 14) hy;rw [c14] at c;go_wp2;exact RG
 simp only [TN];refine ⟨fun w1 hG hd=>?_,fun v4=>?_⟩
 ·clear hd;refine Zu rfl 31 (.tmp 3) rfl w.heap.size rfl 31 _ (0,0) _ (HOB.out _ hG) underlying31 rfl (by kernel_rfl) ?_;refine Zq ?_;exact ⟨rfl,rfl,rfl,af.refl _⟩
 simp only [TN]
 iterate 7
  refine ⟨fun w1 hG hd=>?_,fun v=>?_⟩
  ·have c1:=ZL w1 w.heap.size 6 _ _ (0,0) (HOB.out _ hG);simp at c1;have c2:=ZL w1 w.heap.size 7 _ _ (0,0) (HOB.out _ hG);simp at c2
   try (have d:=hd _ ⟨ZM _⟩ rfl;simp only [ag,GD] at d;subst d)
   try (have d:=hd _ ⟨.tail _ (.head _)⟩ rfl;simp only [ag,GD] at d;subst d)
   clear hd;go_wp2_with fail
   first
    | exact RG
    | ((with_reducible refine (HX.out w1 (HB9.out w1 hG)).mono ?_);rintro e w2 ⟨rfl,hB2⟩;go_wp2;exact ⟨rfl,hB2⟩)
  simp only [TN]
 refine ⟨fun w1 hG hd=>?_,fun v12=>?_⟩
 ·have d9:=hd ⟨9,.data⟩ (by simp) rfl;have d11:=hd ⟨11,.data⟩ (by simp) rfl;simp only [ag,GD] at d9 d11;clear hd;subst d9 d11;go_wp2;exact ⟨congrArg (Value.int .i64) (by rw [hm.out];exact YS _ (by omega)),af.refl _⟩
 simp only [TN];refine ⟨fun w1 hG hd=>?_,fun v13=>?_⟩
 ·have d7:=hd ⟨7,.data⟩ (by simp) rfl;have d12:=hd ⟨12,.data⟩ (by simp) rfl;simp only [ag,GD] at d7 d12;clear hd;subst d7 d12;go_wp2;exact RG
 simp only [TN];intro w2 hG hd;have d13:=hd 13 (by omega);simp only [ag,GD] at d13;subst d13;have hB2:=HB9.out w2 hG;have hob:=HOB.out w2 hG;clear hd HOB HB9 hG HD I1 I2 I3 I4 I5 I6 HX;have e1:(z:Int)+(x.size:Int)+(m:Int)=((z+x.size+m:Nat):Int):=by omega
 rw [e1];obtain ⟨N,hN⟩:∃ N,N=z+x.size+m:=⟨_,rfl⟩;rw [<-hN] at hl HZ ⊢;have d1:decide (1048576 < (N:Int))=false:=by simp;omega
 have k14:=(hB2.cell (p:=zq y 14) hy).trans c14;have kf14:=(ZJ (a:=zq y 14) (hB2.block y hy)).trans (fz 14);have HZX:=aa (HZ.out w2 hB2);obtain ⟨o13,c13⟩:=c13;have hty:(w2.setCell (zq y 14) (N:Int)).there y 4 9:=by
  intro j hj;rw [ZT _ _ _ _ (by first | (simp;done) | (simp;omega)),ZG,ZS (a:=zq y (4+j)) (hB2.block y hy),ZJ (a:=zq y (4+j)) (hB2.block y hy)];exact ht j hj
 have HTY:=aa hty;have HOW:Hid ((w2.setCell (zq y 14) (N:Int)).heap[w.heap.size]? =_):=(Yw w2 ⟨y,14,none⟩ w.heap.size _ (by first | (simp;done) | (simp;omega))).trans hob;obtain ⟨w3,hw3⟩:∃ w3,w3=(w2.setCell (zq y 14) (N:Int)).setCells y 4 [.int .i64 4,.int .i64 A,.int .i64 X,.int .i64 C,.int .i64 D,.int .i64 0,.int .i64 Co,.int .i64 Ro,.string ⟨#[]⟩]:=⟨_,rfl⟩;have k13:w3.cell? (zq y 13)=some (.int .i64 o13):=by
  rw [hw3,World.cell?_setCells_out _ _ _ _ _ (by simp),ZT _ _ _ _ (by simp),ZS (a:=zq y 13) (hB2.block y hy)];exact c13
 have kf13:w3.frozen? (zq y 13)=false:=by
  rw [hw3,World.frozen?_setCells,ZG,ZJ (a:=zq y 13) (hB2.block y hy)];exact fz 13
 have ko6:w3.cell? (zq w 6)=Co:=by
  rw [hw3,World.cell?_setCells_out _ _ _ _ _ (by first | (simp;done) | (simp;omega)),ZL _ w.heap.size 6 _ _ (0,0) HOW.out];rfl
 have ko7:w3.cell? (zq w 7)=Ro:=by
  rw [hw3,World.cell?_setCells_out _ _ _ _ _ (by first | (simp;done) | (simp;omega)),ZL _ w.heap.size 7 _ _ (0,0) HOW.out];rfl
 have hmm:=hm.out;have HW3:=aa hw3;have HZ3:Hid (Z (.returned (0:Int)) (w3.setCell (zq y 13) (m:Int))):=by rw [hw3];exact HZX.out
 clear hob hB2 hN e1 HZ HZX c14 c13 fz ht hty hw3;go_wp2_with (first
  | (refine Zu rfl 31 (.tmp 3) rfl w.heap.size rfl 31 _ (0,0) _ HOW.out underlying31 rfl (by kernel_rfl) ?_)
  | (refine wpList_store_mid rfl 31 (.tmp 95) (.tmp 93) rfl y 4 _ rfl rfl HTY.out (by kernel_rfl) (by kernel_rfl) ?_;rw [<-HW3.out];clear HW3))
 first
  | exact HZ3.out
  | (go_ret;exact HZ3.out)
theorem o5 (w:World) (y:Nat) (left:Nat) (s:ByteArray) (hs:s.size<=9223372036854775807) (hl:left<=4096) (c13:w.cell? (zq y 13)=(left:Int)) (h:left=0\/left < s.size):
  QE 61 #[zp y,s] w (.int .i64 (if left=0 then 2 else 1)):=by
 by_cases h0:left=0
 ·subst h0;go_enter func61,ntmps61
  go_wp2;go_ret;exact ⟨rfl,rfl⟩
 ·have h1:left < s.size:=by omega
  have d0:¬ (left:Int)=0:=by omega
  have d1:decide ((left:Int) < (s.size:Int))=true:=by simp;omega
  go_enter func61,ntmps61
  go_wp2;go_ret;exact ⟨by simp [h0],rfl⟩
theorem ri (w:World) (y:Nat) (left:Nat) (s o:ByteArray) (hl:left<=4096) (ho:o.size<=4096) (hs:s.size < left) (c13:w.cell? (zq y 13)=(left:Int)) (c12:w.cell? (zq y 12)=some (.string o)) (fz:∀ o,w.frozen? (zq y o)=false):
  CP 61 #[zp y,s] w fun e w'=>e=.returned (0:Int)/\w'=(w.setCell (zq y 12) (.string (o++s))).setCell (zq y 13) ((left - s.size:Nat):Int):=by
 have d0:¬ (left:Int)=0:=by omega
 have d1:decide ((left:Int) < (s.size:Int))=false:=by simp;omega
 have d2:(left:Int) - (s.size:Int)=((left - s.size:Nat):Int):=by omega
 have d3:¬ ((left - s.size:Nat):Int)=0:=by omega
 have f12:=fz 12;have f13:=fz 13;go_enter func61,ntmps61
 go_wp2;go_ret;exact ⟨rfl,rfl⟩
theorem rx (w:World) (y:Nat) (K A X C D E Co Ro:Int) (s o:ByteArray) (hs:s.size<=4096) (hs0:0 < s.size) (ho:o.size<=4096) (c13:w.cell? (zq y 13)=(s.size:Int)) (c12:w.cell? (zq y 12)=some (.string o)) (hr:w.rangeAt y 4 [.int .i64 K,.int .i64 A,.int .i64 X,.int .i64 C,.int .i64 D,.int .i64 E,.int .i64 Co,.int .i64 Ro]) (fz:∀ o,w.frozen? (zq y o)=false) (Z:Ending->World->Prop)
  (HR:Hid (CP 113 #[.pointer (some ⟨y,0,none⟩),.agg #[.int .i64 K,.int .i64 A,.int .i64 X,.int .i64 C,.int .i64 D,.int .i64 E,.int .i64 Co,.int .i64 Ro,.string (o++s)]] ((w.setCell (zq y 12) (.string (o++s))).setCell (zq y 13) (0:Int)) fun e w'=>e=.returned (.tuple #[])/\Z (.returned (0:Int)) w')):
  CP 61 #[zp y,s] w Z:=by
 have d0:¬ (s.size:Int)=0:=by omega
 have d1:decide ((s.size:Int) < (s.size:Int))=false:=by simp
 have d2:(s.size:Int) - (s.size:Int)=0:=by omega
 have f12:=fz 12;have f13:=fz 13;have hr2:((w.setCell (zq y 12) (.string (o++s))).setCell (zq y 13) (0:Int)).rangeAt y 4 [.int .i64 K,.int .i64 A,.int .i64 X,.int .i64 C,.int .i64 D,.int .i64 E,.int .i64 Co,.int .i64 Ro,.string (o++s)]:=by
  intro j v hj;have hjl:j < 9:=(Zv.1 hj).1;by_cases h8:j=8
  ·subst h8;simp at hj;subst hj;rw [ZT _ _ _ _ (by simp)];exact ZA _ _ _ c12
  ·rw [ZT _ _ _ _ (by first | (simp;done) | (simp;omega)),ZT _ _ _ _ (by first | (simp;done) | (simp;omega))];refine hr j v ?_;have h7:j < 8:=by omega
   rw [show ([.int .i64 K,.int .i64 A,.int .i64 X,.int .i64 C,.int .i64 D,.int .i64 E,.int .i64 Co,.int .i64 Ro,.string (o++s)]:List Value)=[.int .i64 K,.int .i64 A,.int .i64 X,.int .i64 C,.int .i64 D,.int .i64 E,.int .i64 Co,.int .i64 Ro]++[.string (o++s)] from rfl,Za (by simpa using h7)] at hj;exact hj
 have HR2:=aa hr2;clear hr hr2;go_enter func61,ntmps61
 go_wp2_with (refine wpList_load_mid rfl 31 _ rfl y 4 rfl _ _ HR2.out underlying31 rfl (by kernel_rfl) ?_)
 refine HR.out.mono ?_;rintro e w3 ⟨rfl,hZ⟩;go_wp2_with fail
 first
  | exact hZ
  | (go_ret;exact hZ)
theorem kE (w:World) (y:Nat) (op:Bool) (s:ByteArray) (n cap:Nat) (ad:Option Addr) (hn:n<=1000) (hs:s.size<=9223372036854775807) (c3:w.cell? (zq y 3)=op) (c2:w.cell? (zq y 2)=some (.slice ad n cap)) (h:op=false\/s.size=0\/100 < s.size\/20<=n):
  QE 62 #[zp y,s] w (.int .i64 (if op=false then 2 else if s.size=0\/100 < s.size then 1 else 3)):=by
 cases op with
 | false=>
  clear h;go_enter func62,ntmps62
  go_wp2;go_ret;exact ⟨rfl,rfl⟩
 | true=>
  have hh:s.size=0\/100 < s.size\/20<=n:=by simpa using h
  clear h;by_cases h0:s.size=0
  ·have hs0:s=⟨#[]⟩:=by
    apply Zj;apply YF;have:s.data.toList.length=0:=by simpa using h0
    simpa using Zh this
   subst hs0;go_enter func62,ntmps62
   go_wp2;go_ret;exact ⟨rfl,rfl⟩
  ·have hne:s.toList.isEmpty=false:=by
    cases hb:s.toList.isEmpty with
    | false=>rfl
    | true=>
     have e:s.toList=[]:=by simpa using hb
     exact absurd (by rw [Yy] at e;have:=congrArg List.length e;simpa using this) h0
   by_cases h1:100 < s.size
   ·have d1:decide (100 < (s.size:Int))=true:=by simp;omega
    go_enter func62,ntmps62
    go_wp2;go_ret;exact ⟨by simp [h0,h1],rfl⟩
   ·have d1:decide (100 < (s.size:Int))=false:=by simp;omega
    have h2:20<=n:=by omega
    clear hh;have d2:decide (20<=(n:Int))=true:=by simp;omega
    go_enter func62,ntmps62
    go_wp2;go_ret;exact ⟨by simp [h0,h1],rfl⟩
def aM (b:Nat) (w w':World):Prop:=w.heap.size<=w'.heap.size/\∀ k,b<=k->k < w.heap.size->w'.heap[k]? =w.heap[k]?
theorem aM.refl (b:Nat) (w:World):aM b w w:=⟨ZX _,fun _ _ _=>rfl⟩
theorem aM.of {b:Nat} {w w':World} (g:af w w'):aM b w w':=⟨g.size,fun k _ hk=>g.block k hk⟩
theorem aM.trans {b:Nat} {w w' w'':World} (h:aM b w w') (g:aM b w' w''):aM b w w'':=⟨ZN h.1 g.1,fun k hb hk=>(g.2 k hb (ZR hk h.1)).trans (h.2 k hb hk)⟩
theorem Mv.keepB {S S':Bl} {w w':World} {b:Nat} (m:Mv S w S' w') (h:∀ k,S k->k < b):aM b w w':=⟨m.size,fun k hb hk=>m.keep hk (fun e=>by have:=h k e;omega)⟩
def bi (l:List Value) (t:Nat) (Q1:Int->World->Prop) (k:Nat) (v:Value) (w:World):Prop:=if k=t then ∃ m,v=.int .i64 m/\Q1 m w else v=l.getD k undef
theorem es {l:List Value} {t n:Nat} {Q1:Int->World->Prop} (hQ:∀ n w1 w2,Q1 n w1->af w1 w2->Q1 n w2):∀ k v w w',k < n->bi l t Q1 k v w->af w w'->bi l t Q1 k v w':=by
 intro k v w w' _ h g;unfold bi at h ⊢;split at h
 ·rename_i hk
  rw [ZO hk];obtain ⟨m,e,q⟩:=h;exact ⟨m,e,hQ _ _ _ q g⟩
 ·rename_i hk;rw [ZU hk];exact h
theorem dH {l:List Value} {t n:Nat} {Q1:Int->World->Prop} {G:World->World->Prop}:∀ k v w w',k < n->k≠t->bi l t Q1 k v w->G w w'->bi l t Q1 k v w':=by
 intro k v w w' _ hk h _;unfold bi at h ⊢;rw [ZU hk] at h ⊢;exact h
theorem ew (w:World) (x y:Value) (st:Array Value):∃ wa pb sb,wa=(w.alloc (.cells #[x,y] 35)).alloc (.cells st 38)/\pb=w.heap.size/\sb=w.heap.size+1/\Below w w wa/\Hid (wa.heap[pb]? =some (.cells #[x,y] 35 (0,0)))/\Hid (wa.heap[sb]? =some (.cells st 38 (0,0)))/\w.heap.size<=pb/\w.heap.size<=sb/\pb < wa.heap.size/\sb < wa.heap.size:=
 ⟨_,_,_,rfl,rfl,rfl,((ZV _ w).alloc (ZX _) _).alloc (by simp) _,(ZC _ _ w.heap.size (by simp)).trans (ZE w _),YE w _ _,ZX _,by omega,by simp;omega,by simp⟩
theorem xI (w:World) (x y:Value) (hx1:x.oneCell'=true) (hy1:y.oneCell'=true) (On W H K A X C D E Co Ro:Int) (t s:ByteArray) (Q1:Int->World->Prop) (Z:Ending->World->Prop)
  (H1:Hid (∀ wx,Below w w wx->CP 34 #[x,W,H] wx fun e w'=>∃ n,e=.returned (.int .i64 n)/\Q1 n w'/\aM w wx w'))
  (HQ:Hid (∀ n w1 w2,Q1 n w1->af w1 w2->Q1 n w2))
  (H2:Hid (∀ n w1,Q1 n w1->CP 58 #[y,W,H] w1 fun e w'=>∃ m,e=.returned (.int .i64 m)/\Z (.returned (.tuple #[.int .i64 n,.int .i64 m])) w')):
  CP 28 #[.agg #[x,y],.agg #[(1:Int),On,W,H,K,A,X,C,D,E,Co,Ro,t,s]] w Z:=by
 go_enter func28,ntmps28
 go_wp2_with fail
 obtain ⟨wa,pb,sb,hwa,hpbe,hsbe,bA,KP,KS,hpb,hsb,hpl,hsl⟩:=ew w x y #[(1:Int),On,W,H,K,A,X,C,D,E,Co,Ro,t,s];have HX1:=aa (fun wx (hg:af wa wx)=>H1.out wx (bA.trans (hg.mono bA.size)));rw [<-hwa]
 try rw [<-hsbe]
 rw [<-hpbe];clear hwa hpbe hsbe bA H1;refine cW 13 _ 6 (aM w.heap.size) (bi [zp pb,x,zq sb 2,W,zq sb 3,H,undef,zq pb 1,y,zq sb 2,W,zq sb 3,H] 6 Q1) (by kernel_rfl) rfl (by kernel_rfl) (aM.refl _) (fun _ _ _ h g=>h.trans (aM.of g)) (fun _ _ _ g h=>(aM.of g).trans h) (es HQ.out) dH ?_;simp only [TD]
 iterate 6
  refine ⟨aB (by decide) fun w1 hG hd=>?_,fun v=>?_⟩
  ·have c1:=ZL w1 pb 0 _ _ (0,0) ((hG.2 pb hpb hpl).trans KP.out);simp at c1;have c2:=ZL w1 sb 2 _ _ (0,0) ((hG.2 sb hsb hsl).trans KS.out);simp at c2;have c3:=ZL w1 sb 3 _ _ (0,0) ((hG.2 sb hsb hsl).trans KS.out);simp at c3
   try (have d:=hd _ ⟨ZM _⟩ rfl;simp only [bi,GD,Nat.reduceEqDiff,reduceIte] at d;subst d)
   clear hd;go_wp2;exact RG
  simp only [TN]
 refine ⟨dO rfl fun w1 hG hd=>?_,fun v6=>?_⟩
 ·have d1:=hd ⟨1,.data⟩ (by simp) rfl;have d3:=hd ⟨3,.data⟩ (by simp) rfl;have d5:=hd ⟨5,.data⟩ (by simp) rfl;simp only [bi,GD,Nat.reduceEqDiff,reduceIte] at d1 d3 d5;clear hd;subst d1 d3 d5;have HX:=aa (HX1.out w1 hG);go_wp2_with fail
  refine HX.out.mono ?_;rintro e w2 ⟨m,rfl,hq,hk⟩;go_wp2
  first
   | exact ⟨m,rfl,hq⟩
   | exact ⟨⟨m,rfl,hq⟩,hk⟩
 simp only [TN]
 iterate 6
  refine ⟨aB (by decide) fun w1 hG hd=>?_,fun v=>?_⟩
  ·have c1:=ZL w1 pb 1 _ _ (0,0) ((hG.2 pb hpb hpl).trans KP.out);simp at c1;have c2:=ZL w1 sb 2 _ _ (0,0) ((hG.2 sb hsb hsl).trans KS.out);simp at c2;have c3:=ZL w1 sb 3 _ _ (0,0) ((hG.2 sb hsb hsl).trans KS.out);simp at c3
   try (have d:=hd _ ⟨ZM _⟩ rfl;simp only [bi,GD,Nat.reduceEqDiff,reduceIte] at d;subst d)
   clear hd;go_wp2;exact RG
  simp only [TN]
 intro w7 hG hd;have d8:=hd 8 (by omega);have d10:=hd 10 (by omega);have d12:=hd 12 (by omega);simp only [bi,GD,Nat.reduceEqDiff,reduceIte] at d8 d10 d12;have d6:∃ m,v6=.int .i64 m/\Q1 m w7:=hd 6 (by omega);subst d8 d10 d12;obtain ⟨m1,hm1,hq1⟩:=d6;subst hm1;have HX:=aa (H2.out m1 w7 hq1);clear hd hG hq1 HX1 HQ H2;go_wp2_with fail
 refine HX.out.mono ?_;rintro e w8 ⟨m2,rfl,hZ⟩;clear HX;go_wp2_with fail
 first
  | exact hZ
  | (go_ret2;exact hZ)
theorem yP (w:World) (x y:Value) (hx1:x.oneCell'=true) (hy1:y.oneCell'=true) (On W H K A X C D E Co Ro:Int) (t s:ByteArray) (Q1:Int->World->Prop) (Z:Ending->World->Prop)
  (H1:Hid (∀ wx,Below w w wx->CP 42 #[x,.agg #[K,A,X,C,D,E,Co,Ro,t]] wx fun e w'=>∃ n,e=.returned (.int .i64 n)/\Q1 n w'/\aM w wx w'))
  (HQ:Hid (∀ n w1 w2,Q1 n w1->af w1 w2->Q1 n w2))
  (H2:Hid (∀ n w1,Q1 n w1->CP 59 #[y,.agg #[K,A,X,C,D,E,Co,Ro,t]] w1 fun e w'=>∃ m,e=.returned (.int .i64 m)/\Z (.returned (.tuple #[.int .i64 n,.int .i64 m])) w')):
  CP 28 #[.agg #[x,y],.agg #[(2:Int),On,W,H,K,A,X,C,D,E,Co,Ro,t,s]] w Z:=by
 go_enter func28,ntmps28
 go_wp2_with fail
 obtain ⟨wa,pb,sb,hwa,hpbe,hsbe,bA,KP,KS,hpb,hsb,hpl,hsl⟩:=ew w x y #[(2:Int),On,W,H,K,A,X,C,D,E,Co,Ro,t,s];have HX1:=aa (fun wx (hg:af wa wx)=>H1.out wx (bA.trans (hg.mono bA.size)));have RKK:Hid (∀ (j:Nat) u,([.int .i64 K,.int .i64 A,.int .i64 X,.int .i64 C,.int .i64 D,.int .i64 E,.int .i64 Co,.int .i64 Ro,.string t]:List Value)[j]? =some u->(#[(2:Int),On,W,H,K,A,X,C,D,E,Co,Ro,t,s]:Array Value)[4+j]? =some u):=by
  intro j u hj;have hjl:j < 9:=(Zv.1 hj).1;rw [<-hj]
  match j,hjl with
  | 0,_=>rfl
  | 1,_=>rfl
  | 2,_=>rfl
  | 3,_=>rfl
  | 4,_=>rfl
  | 5,_=>rfl
  | 6,_=>rfl
  | 7,_=>rfl
  | 8,_=>rfl
 rw [<-hwa]
 try rw [<-hsbe]
 rw [<-hpbe];clear hwa hpbe hsbe bA H1;refine cW 9 _ 4 (aM w.heap.size) (bi [zp pb,x,zq sb 4,.agg #[K,A,X,C,D,E,Co,Ro,t],undef,zq pb 1,y,zq sb 4,.agg #[K,A,X,C,D,E,Co,Ro,t]] 4 Q1) (by kernel_rfl) rfl (by kernel_rfl) (aM.refl _) (fun _ _ _ h g=>h.trans (aM.of g)) (fun _ _ _ g h=>(aM.of g).trans h) (es HQ.out) dH ?_;simp only [TD]
 iterate 3
  refine ⟨aB (by decide) fun w1 hG hd=>?_,fun v=>?_⟩
  ·have c1:=ZL w1 pb 0 _ _ (0,0) ((hG.2 pb hpb hpl).trans KP.out);simp at c1
   try (have d:=hd _ ⟨ZM _⟩ rfl;simp only [bi,GD,Nat.reduceEqDiff,reduceIte] at d;subst d)
   clear hd;go_wp2;exact RG
  simp only [TN]
 refine ⟨aB (by decide) fun w1 hG hd=>?_,fun v3=>?_⟩
 ·have d2:=hd ⟨2,.data⟩ (by simp) rfl;simp only [bi,GD,Nat.reduceEqDiff,reduceIte] at d2;clear hd;subst d2;refine wpList_load_mid rfl 31 (.tmp 28) rfl sb 4 rfl [.int .i64 K,.int .i64 A,.int .i64 X,.int .i64 C,.int .i64 D,.int .i64 E,.int .i64 Co,.int .i64 Ro,.string t] _ (fun j u hj=>by rw [ZL w1 sb (4+j) _ _ (0,0) ((hG.2 sb hsb hsl).trans KS.out)];exact RKK.out j u hj) underlying31 rfl (by kernel_rfl) ?_;refine Zq ?_;exact ⟨rfl,rfl,rfl,af.refl _⟩
 simp only [TN];refine ⟨dO rfl fun w1 hG hd=>?_,fun v4=>?_⟩
 ·have d1:=hd ⟨1,.data⟩ (by simp) rfl;have d3:=hd ⟨3,.data⟩ (by simp) rfl;simp only [bi,GD,Nat.reduceEqDiff,reduceIte] at d1 d3;clear hd;subst d1 d3;have HX:=aa (HX1.out w1 hG);go_wp2_with fail
  refine HX.out.mono ?_;rintro e w2 ⟨m,rfl,hq,hk⟩;go_wp2
  first
   | exact ⟨m,rfl,hq⟩
   | exact ⟨⟨m,rfl,hq⟩,hk⟩
 simp only [TN]
 iterate 3
  refine ⟨aB (by decide) fun w1 hG hd=>?_,fun v=>?_⟩
  ·have c1:=ZL w1 pb 1 _ _ (0,0) ((hG.2 pb hpb hpl).trans KP.out);simp at c1
   try (have d:=hd _ ⟨ZM _⟩ rfl;simp only [bi,GD,Nat.reduceEqDiff,reduceIte] at d;subst d)
   clear hd;go_wp2;exact RG
  simp only [TN]
 refine ⟨aB (by decide) fun w1 hG hd=>?_,fun v8=>?_⟩
 ·have d7:=hd ⟨7,.data⟩ (by simp) rfl;simp only [bi,GD,Nat.reduceEqDiff,reduceIte] at d7;clear hd;subst d7;refine wpList_load_mid rfl 31 (.tmp 33) rfl sb 4 rfl [.int .i64 K,.int .i64 A,.int .i64 X,.int .i64 C,.int .i64 D,.int .i64 E,.int .i64 Co,.int .i64 Ro,.string t] _ (fun j u hj=>by rw [ZL w1 sb (4+j) _ _ (0,0) ((hG.2 sb hsb hsl).trans KS.out)];exact RKK.out j u hj) underlying31 rfl (by kernel_rfl) ?_;refine Zq ?_;exact ⟨rfl,rfl,rfl,af.refl _⟩
 simp only [TN];intro w7 hG hd;have d6:=hd 6 (by omega);have d8:=hd 8 (by omega);simp only [bi,GD,Nat.reduceEqDiff,reduceIte] at d6 d8;have d4:∃ m,v4=.int .i64 m/\Q1 m w7:=hd 4 (by omega);subst d6 d8;obtain ⟨m1,hm1,hq1⟩:=d4;subst hm1;have HX:=aa (H2.out m1 w7 hq1);clear hd hG hq1 HX1 HQ H2;go_wp2_with fail
 refine HX.out.mono ?_;rintro e w8 ⟨m2,rfl,hZ⟩;clear HX;go_wp2_with fail
 first
  | exact hZ
  | (go_ret2;exact hZ)
theorem xD (w:World) (x y:Value) (hx1:x.oneCell'=true) (hy1:y.oneCell'=true) (On W H K A X C D E Co Ro:Int) (t s:ByteArray) (Q1:Int->World->Prop) (Z:Ending->World->Prop)
  (H1:Hid (∀ wx,Below w w wx->CP 40 #[x,.agg #[K,A,X,C,D,E,Co,Ro,t]] wx fun e w'=>∃ n,e=.returned (.int .i64 n)/\Q1 n w'/\aM w wx w'))
  (HQ:Hid (∀ n w1 w2,Q1 n w1->af w1 w2->Q1 n w2))
  (H2:Hid (∀ n w1,Q1 n w1->CP 60 #[y,.agg #[K,A,X,C,D,E,Co,Ro,t]] w1 fun e w'=>∃ m,e=.returned (.int .i64 m)/\Z (.returned (.tuple #[.int .i64 n,.int .i64 m])) w')):
  CP 28 #[.agg #[x,y],.agg #[(3:Int),On,W,H,K,A,X,C,D,E,Co,Ro,t,s]] w Z:=by
 go_enter func28,ntmps28
 go_wp2_with fail
 obtain ⟨wa,pb,sb,hwa,hpbe,hsbe,bA,KP,KS,hpb,hsb,hpl,hsl⟩:=ew w x y #[(3:Int),On,W,H,K,A,X,C,D,E,Co,Ro,t,s];have HX1:=aa (fun wx (hg:af wa wx)=>H1.out wx (bA.trans (hg.mono bA.size)));have RKK:Hid (∀ (j:Nat) u,([.int .i64 K,.int .i64 A,.int .i64 X,.int .i64 C,.int .i64 D,.int .i64 E,.int .i64 Co,.int .i64 Ro,.string t]:List Value)[j]? =some u->(#[(3:Int),On,W,H,K,A,X,C,D,E,Co,Ro,t,s]:Array Value)[4+j]? =some u):=by
  intro j u hj;have hjl:j < 9:=(Zv.1 hj).1;rw [<-hj]
  match j,hjl with
  | 0,_=>rfl
  | 1,_=>rfl
  | 2,_=>rfl
  | 3,_=>rfl
  | 4,_=>rfl
  | 5,_=>rfl
  | 6,_=>rfl
  | 7,_=>rfl
  | 8,_=>rfl
 rw [<-hwa]
 try rw [<-hsbe]
 rw [<-hpbe];clear hwa hpbe hsbe bA H1;refine cW 9 _ 4 (aM w.heap.size) (bi [zp pb,x,zq sb 4,.agg #[K,A,X,C,D,E,Co,Ro,t],undef,zq pb 1,y,zq sb 4,.agg #[K,A,X,C,D,E,Co,Ro,t]] 4 Q1) (by kernel_rfl) rfl (by kernel_rfl) (aM.refl _) (fun _ _ _ h g=>h.trans (aM.of g)) (fun _ _ _ g h=>(aM.of g).trans h) (es HQ.out) dH ?_;simp only [TD]
 iterate 3
  refine ⟨aB (by decide) fun w1 hG hd=>?_,fun v=>?_⟩
  ·have c1:=ZL w1 pb 0 _ _ (0,0) ((hG.2 pb hpb hpl).trans KP.out);simp at c1
   try (have d:=hd _ ⟨ZM _⟩ rfl;simp only [bi,GD,Nat.reduceEqDiff,reduceIte] at d;subst d)
   clear hd;go_wp2;exact RG
  simp only [TN]
 refine ⟨aB (by decide) fun w1 hG hd=>?_,fun v3=>?_⟩
 ·have d2:=hd ⟨2,.data⟩ (by simp) rfl;simp only [bi,GD,Nat.reduceEqDiff,reduceIte] at d2;clear hd;subst d2;refine wpList_load_mid rfl 31 (.tmp 40) rfl sb 4 rfl [.int .i64 K,.int .i64 A,.int .i64 X,.int .i64 C,.int .i64 D,.int .i64 E,.int .i64 Co,.int .i64 Ro,.string t] _ (fun j u hj=>by rw [ZL w1 sb (4+j) _ _ (0,0) ((hG.2 sb hsb hsl).trans KS.out)];exact RKK.out j u hj) underlying31 rfl (by kernel_rfl) ?_;refine Zq ?_;exact ⟨rfl,rfl,rfl,af.refl _⟩
 simp only [TN];refine ⟨dO rfl fun w1 hG hd=>?_,fun v4=>?_⟩
 ·have d1:=hd ⟨1,.data⟩ (by simp) rfl;have d3:=hd ⟨3,.data⟩ (by simp) rfl;simp only [bi,GD,Nat.reduceEqDiff,reduceIte] at d1 d3;clear hd;subst d1 d3;have HX:=aa (HX1.out w1 hG);go_wp2_with fail
  refine HX.out.mono ?_;rintro e w2 ⟨m,rfl,hq,hk⟩;go_wp2
  first
   | exact ⟨m,rfl,hq⟩
   | exact ⟨⟨m,rfl,hq⟩,hk⟩
 simp only [TN]
 iterate 3
  refine ⟨aB (by decide) fun w1 hG hd=>?_,fun v=>?_⟩
  ·have c1:=ZL w1 pb 1 _ _ (0,0) ((hG.2 pb hpb hpl).trans KP.out);simp at c1
   try (have d:=hd _ ⟨ZM _⟩ rfl;simp only [bi,GD,Nat.reduceEqDiff,reduceIte] at d;subst d)
   clear hd;go_wp2;exact RG
  simp only [TN]
 refine ⟨aB (by decide) fun w1 hG hd=>?_,fun v8=>?_⟩
 ·have d7:=hd ⟨7,.data⟩ (by simp) rfl;simp only [bi,GD,Nat.reduceEqDiff,reduceIte] at d7;clear hd;subst d7;refine wpList_load_mid rfl 31 (.tmp 45) rfl sb 4 rfl [.int .i64 K,.int .i64 A,.int .i64 X,.int .i64 C,.int .i64 D,.int .i64 E,.int .i64 Co,.int .i64 Ro,.string t] _ (fun j u hj=>by rw [ZL w1 sb (4+j) _ _ (0,0) ((hG.2 sb hsb hsl).trans KS.out)];exact RKK.out j u hj) underlying31 rfl (by kernel_rfl) ?_;refine Zq ?_;exact ⟨rfl,rfl,rfl,af.refl _⟩
 simp only [TN];intro w7 hG hd;have d6:=hd 6 (by omega);have d8:=hd 8 (by omega);simp only [bi,GD,Nat.reduceEqDiff,reduceIte] at d6 d8;have d4:∃ m,v4=.int .i64 m/\Q1 m w7:=hd 4 (by omega);subst d6 d8;obtain ⟨m1,hm1,hq1⟩:=d4;subst hm1;have HX:=aa (H2.out m1 w7 hq1);clear hd hG hq1 HX1 HQ H2;go_wp2_with fail
 refine HX.out.mono ?_;rintro e w8 ⟨m2,rfl,hZ⟩;clear HX;go_wp2_with fail
 first
  | exact hZ
  | (go_ret2;exact hZ)
theorem xG (w:World) (x y:Value) (hx1:x.oneCell'=true) (hy1:y.oneCell'=true) (On W H K A X C D E Co Ro:Int) (t s:ByteArray) (Q1:Int->World->Prop) (Z:Ending->World->Prop)
  (H1:Hid (∀ wx,Below w w wx->CP 41 #[x,s] wx fun e w'=>∃ n,e=.returned (.int .i64 n)/\Q1 n w'/\aM w wx w'))
  (HQ:Hid (∀ n w1 w2,Q1 n w1->af w1 w2->Q1 n w2))
  (H2:Hid (∀ n w1,Q1 n w1->CP 61 #[y,s] w1 fun e w'=>∃ m,e=.returned (.int .i64 m)/\Z (.returned (.tuple #[.int .i64 n,.int .i64 m])) w')):
  CP 28 #[.agg #[x,y],.agg #[(4:Int),On,W,H,K,A,X,C,D,E,Co,Ro,t,s]] w Z:=by
 go_enter func28,ntmps28
 go_wp2_with fail
 obtain ⟨wa,pb,sb,hwa,hpbe,hsbe,bA,KP,KS,hpb,hsb,hpl,hsl⟩:=ew w x y #[(4:Int),On,W,H,K,A,X,C,D,E,Co,Ro,t,s];have HX1:=aa (fun wx (hg:af wa wx)=>H1.out wx (bA.trans (hg.mono bA.size)));rw [<-hwa]
 try rw [<-hsbe]
 rw [<-hpbe];clear hwa hpbe hsbe bA H1;refine cW 9 _ 4 (aM w.heap.size) (bi [zp pb,x,zq sb 13,s,undef,zq pb 1,y,zq sb 13,s] 4 Q1) (by kernel_rfl) rfl (by kernel_rfl) (aM.refl _) (fun _ _ _ h g=>h.trans (aM.of g)) (fun _ _ _ g h=>(aM.of g).trans h) (es HQ.out) dH ?_;simp only [TD]
 iterate 4
  refine ⟨aB (by decide) fun w1 hG hd=>?_,fun v=>?_⟩
  ·have c1:=ZL w1 pb 0 _ _ (0,0) ((hG.2 pb hpb hpl).trans KP.out);simp at c1;have c2:=ZL w1 sb 13 _ _ (0,0) ((hG.2 sb hsb hsl).trans KS.out);simp at c2
   try (have d:=hd _ ⟨ZM _⟩ rfl;simp only [bi,GD,Nat.reduceEqDiff,reduceIte] at d;subst d)
   clear hd;go_wp2;exact RG
  simp only [TN]
 refine ⟨dO rfl fun w1 hG hd=>?_,fun v4=>?_⟩
 ·have d1:=hd ⟨1,.data⟩ (by simp) rfl;have d3:=hd ⟨3,.data⟩ (by simp) rfl;simp only [bi,GD,Nat.reduceEqDiff,reduceIte] at d1 d3;clear hd;subst d1 d3;have HX:=aa (HX1.out w1 hG);go_wp2_with fail
  refine HX.out.mono ?_;rintro e w2 ⟨m,rfl,hq,hk⟩;go_wp2
  first
   | exact ⟨m,rfl,hq⟩
   | exact ⟨⟨m,rfl,hq⟩,hk⟩
 simp only [TN]
 iterate 4
  refine ⟨aB (by decide) fun w1 hG hd=>?_,fun v=>?_⟩
  ·have c1:=ZL w1 pb 1 _ _ (0,0) ((hG.2 pb hpb hpl).trans KP.out);simp at c1;have c2:=ZL w1 sb 13 _ _ (0,0) ((hG.2 sb hsb hsl).trans KS.out);simp at c2
   try (have d:=hd _ ⟨ZM _⟩ rfl;simp only [bi,GD,Nat.reduceEqDiff,reduceIte] at d;subst d)
   clear hd;go_wp2;exact RG
  simp only [TN]
 intro w7 hG hd;have d6:=hd 6 (by omega);have d8:=hd 8 (by omega);simp only [bi,GD,Nat.reduceEqDiff,reduceIte] at d6 d8;have d4:∃ m,v4=.int .i64 m/\Q1 m w7:=hd 4 (by omega);subst d6 d8;obtain ⟨m1,hm1,hq1⟩:=d4;subst hm1;have HX:=aa (H2.out m1 w7 hq1);clear hd hG hq1 HX1 HQ H2;go_wp2_with fail
 refine HX.out.mono ?_;rintro e w8 ⟨m2,rfl,hZ⟩;clear HX;go_wp2_with fail
 first
  | exact hZ
  | (go_ret2;exact hZ)
theorem xA (w:World) (x y:Value) (hx1:x.oneCell'=true) (hy1:y.oneCell'=true) (On W H K A X C D E Co Ro:Int) (t s:ByteArray) (Q1:Int->World->Prop) (Z:Ending->World->Prop)
  (H1:Hid (∀ wx,Below w w wx->CP 39 #[x,s] wx fun e w'=>∃ n,e=.returned (.int .i64 n)/\Q1 n w'/\aM w wx w'))
  (HQ:Hid (∀ n w1 w2,Q1 n w1->af w1 w2->Q1 n w2))
  (H2:Hid (∀ n w1,Q1 n w1->CP 62 #[y,s] w1 fun e w'=>∃ m,e=.returned (.int .i64 m)/\Z (.returned (.tuple #[.int .i64 n,.int .i64 m])) w')):
  CP 28 #[.agg #[x,y],.agg #[(5:Int),On,W,H,K,A,X,C,D,E,Co,Ro,t,s]] w Z:=by
 go_enter func28,ntmps28
 go_wp2_with fail
 obtain ⟨wa,pb,sb,hwa,hpbe,hsbe,bA,KP,KS,hpb,hsb,hpl,hsl⟩:=ew w x y #[(5:Int),On,W,H,K,A,X,C,D,E,Co,Ro,t,s];have HX1:=aa (fun wx (hg:af wa wx)=>H1.out wx (bA.trans (hg.mono bA.size)));rw [<-hwa]
 try rw [<-hsbe]
 rw [<-hpbe];clear hwa hpbe hsbe bA H1;refine cW 9 _ 4 (aM w.heap.size) (bi [zp pb,x,zq sb 13,s,undef,zq pb 1,y,zq sb 13,s] 4 Q1) (by kernel_rfl) rfl (by kernel_rfl) (aM.refl _) (fun _ _ _ h g=>h.trans (aM.of g)) (fun _ _ _ g h=>(aM.of g).trans h) (es HQ.out) dH ?_;simp only [TD]
 iterate 4
  refine ⟨aB (by decide) fun w1 hG hd=>?_,fun v=>?_⟩
  ·have c1:=ZL w1 pb 0 _ _ (0,0) ((hG.2 pb hpb hpl).trans KP.out);simp at c1;have c2:=ZL w1 sb 13 _ _ (0,0) ((hG.2 sb hsb hsl).trans KS.out);simp at c2
   try (have d:=hd _ ⟨ZM _⟩ rfl;simp only [bi,GD,Nat.reduceEqDiff,reduceIte] at d;subst d)
   clear hd;go_wp2;exact RG
  simp only [TN]
 refine ⟨dO rfl fun w1 hG hd=>?_,fun v4=>?_⟩
 ·have d1:=hd ⟨1,.data⟩ (by simp) rfl;have d3:=hd ⟨3,.data⟩ (by simp) rfl;simp only [bi,GD,Nat.reduceEqDiff,reduceIte] at d1 d3;clear hd;subst d1 d3;have HX:=aa (HX1.out w1 hG);go_wp2_with fail
  refine HX.out.mono ?_;rintro e w2 ⟨m,rfl,hq,hk⟩;go_wp2
  first
   | exact ⟨m,rfl,hq⟩
   | exact ⟨⟨m,rfl,hq⟩,hk⟩
 simp only [TN]
 iterate 4
  refine ⟨aB (by decide) fun w1 hG hd=>?_,fun v=>?_⟩
  ·have c1:=ZL w1 pb 1 _ _ (0,0) ((hG.2 pb hpb hpl).trans KP.out);simp at c1;have c2:=ZL w1 sb 13 _ _ (0,0) ((hG.2 sb hsb hsl).trans KS.out);simp at c2
   try (have d:=hd _ ⟨ZM _⟩ rfl;simp only [bi,GD,Nat.reduceEqDiff,reduceIte] at d;subst d)
   clear hd;go_wp2;exact RG
  simp only [TN]
 intro w7 hG hd;have d6:=hd 6 (by omega);have d8:=hd 8 (by omega);simp only [bi,GD,Nat.reduceEqDiff,reduceIte] at d6 d8;have d4:∃ m,v4=.int .i64 m/\Q1 m w7:=hd 4 (by omega);subst d6 d8;obtain ⟨m1,hm1,hq1⟩:=d4;subst hm1;have HX:=aa (H2.out m1 w7 hq1);clear hd hG hq1 HX1 HQ H2;go_wp2_with fail
 refine HX.out.mono ?_;rintro e w8 ⟨m2,rfl,hZ⟩;clear HX;go_wp2_with fail
 first
  | exact hZ
  | (go_ret2;exact hZ)
theorem xC (w:World) (x y:Value) (hx1:x.oneCell'=true) (hy1:y.oneCell'=true) (On W H K A X C D E Co Ro:Int) (t s:ByteArray) (Q1:Int->World->Prop) (Z:Ending->World->Prop)
  (H1:Hid (∀ wx,Below w w wx->CP 36 #[x,s] wx fun e w'=>∃ n,e=.returned (.int .i64 n)/\Q1 n w'/\aM w wx w'))
  (HQ:Hid (∀ n w1 w2,Q1 n w1->af w1 w2->Q1 n w2))
  (H2:Hid (∀ n w1,Q1 n w1->CP 63 #[y,s] w1 fun e w'=>∃ m,e=.returned (.int .i64 m)/\Z (.returned (.tuple #[.int .i64 n,.int .i64 m])) w')):
  CP 28 #[.agg #[x,y],.agg #[(6:Int),On,W,H,K,A,X,C,D,E,Co,Ro,t,s]] w Z:=by
 go_enter func28,ntmps28
 go_wp2_with fail
 obtain ⟨wa,pb,sb,hwa,hpbe,hsbe,bA,KP,KS,hpb,hsb,hpl,hsl⟩:=ew w x y #[(6:Int),On,W,H,K,A,X,C,D,E,Co,Ro,t,s];have HX1:=aa (fun wx (hg:af wa wx)=>H1.out wx (bA.trans (hg.mono bA.size)));rw [<-hwa]
 try rw [<-hsbe]
 rw [<-hpbe];clear hwa hpbe hsbe bA H1;refine cW 9 _ 4 (aM w.heap.size) (bi [zp pb,x,zq sb 13,s,undef,zq pb 1,y,zq sb 13,s] 4 Q1) (by kernel_rfl) rfl (by kernel_rfl) (aM.refl _) (fun _ _ _ h g=>h.trans (aM.of g)) (fun _ _ _ g h=>(aM.of g).trans h) (es HQ.out) dH ?_;simp only [TD]
 iterate 4
  refine ⟨aB (by decide) fun w1 hG hd=>?_,fun v=>?_⟩
  ·have c1:=ZL w1 pb 0 _ _ (0,0) ((hG.2 pb hpb hpl).trans KP.out);simp at c1;have c2:=ZL w1 sb 13 _ _ (0,0) ((hG.2 sb hsb hsl).trans KS.out);simp at c2
   try (have d:=hd _ ⟨ZM _⟩ rfl;simp only [bi,GD,Nat.reduceEqDiff,reduceIte] at d;subst d)
   clear hd;go_wp2;exact RG
  simp only [TN]
 refine ⟨dO rfl fun w1 hG hd=>?_,fun v4=>?_⟩
 ·have d1:=hd ⟨1,.data⟩ (by simp) rfl;have d3:=hd ⟨3,.data⟩ (by simp) rfl;simp only [bi,GD,Nat.reduceEqDiff,reduceIte] at d1 d3;clear hd;subst d1 d3;have HX:=aa (HX1.out w1 hG);go_wp2_with fail
  refine HX.out.mono ?_;rintro e w2 ⟨m,rfl,hq,hk⟩;go_wp2
  first
   | exact ⟨m,rfl,hq⟩
   | exact ⟨⟨m,rfl,hq⟩,hk⟩
 simp only [TN]
 iterate 4
  refine ⟨aB (by decide) fun w1 hG hd=>?_,fun v=>?_⟩
  ·have c1:=ZL w1 pb 1 _ _ (0,0) ((hG.2 pb hpb hpl).trans KP.out);simp at c1;have c2:=ZL w1 sb 13 _ _ (0,0) ((hG.2 sb hsb hsl).trans KS.out);simp at c2
   try (have d:=hd _ ⟨ZM _⟩ rfl;simp only [bi,GD,Nat.reduceEqDiff,reduceIte] at d;subst d)
   clear hd;go_wp2;exact RG
  simp only [TN]
 intro w7 hG hd;have d6:=hd 6 (by omega);have d8:=hd 8 (by omega);simp only [bi,GD,Nat.reduceEqDiff,reduceIte] at d6 d8;have d4:∃ m,v4=.int .i64 m/\Q1 m w7:=hd 4 (by omega);subst d6 d8;obtain ⟨m1,hm1,hq1⟩:=d4;subst hm1;have HX:=aa (H2.out m1 w7 hq1);clear hd hG hq1 HX1 HQ H2;go_wp2_with fail
 refine HX.out.mono ?_;rintro e w8 ⟨m2,rfl,hZ⟩;clear HX;go_wp2_with fail
 first
  | exact hZ
  | (go_ret2;exact hZ)
theorem pF (w:World) (x y:Value) (hx1:x.oneCell'=true) (hy1:y.oneCell'=true) (On W H K A X C D E Co Ro:Int) (t s:ByteArray) (Q1:Int->World->Prop) (Z:Ending->World->Prop)
  (H1:Hid (∀ wx,Below w w wx->CP 38 #[x] wx fun e w'=>∃ n,e=.returned (.int .i64 n)/\Q1 n w'/\aM w wx w'))
  (HQ:Hid (∀ n w1 w2,Q1 n w1->af w1 w2->Q1 n w2))
  (H2:Hid (∀ n w1,Q1 n w1->CP 64 #[y] w1 fun e w'=>∃ m,e=.returned (.int .i64 m)/\Z (.returned (.tuple #[.int .i64 n,.int .i64 m])) w')):
  CP 28 #[.agg #[x,y],.agg #[(7:Int),On,W,H,K,A,X,C,D,E,Co,Ro,t,s]] w Z:=by
 go_enter func28,ntmps28
 go_wp2_with fail
 obtain ⟨wa,pb,sb,hwa,hpbe,hsbe,bA,KP,KS,hpb,hsb,hpl,hsl⟩:=ew w x y #[(7:Int),On,W,H,K,A,X,C,D,E,Co,Ro,t,s];have HX1:=aa (fun wx (hg:af wa wx)=>H1.out wx (bA.trans (hg.mono bA.size)));rw [<-hwa]
 try rw [<-hsbe]
 rw [<-hpbe];clear hwa hpbe hsbe bA H1;refine cW 5 _ 2 (aM w.heap.size) (bi [zp pb,x,undef,zq pb 1,y] 2 Q1) (by kernel_rfl) rfl (by kernel_rfl) (aM.refl _) (fun _ _ _ h g=>h.trans (aM.of g)) (fun _ _ _ g h=>(aM.of g).trans h) (es HQ.out) dH ?_;simp only [TD]
 iterate 2
  refine ⟨aB (by decide) fun w1 hG hd=>?_,fun v=>?_⟩
  ·have c1:=ZL w1 pb 0 _ _ (0,0) ((hG.2 pb hpb hpl).trans KP.out);simp at c1
   try (have d:=hd _ ⟨ZM _⟩ rfl;simp only [bi,GD,Nat.reduceEqDiff,reduceIte] at d;subst d)
   clear hd;go_wp2;exact RG
  simp only [TN]
 refine ⟨dO rfl fun w1 hG hd=>?_,fun v2=>?_⟩
 ·have d1:=hd ⟨1,.data⟩ (by simp) rfl;simp only [bi,GD,Nat.reduceEqDiff,reduceIte] at d1;clear hd;subst d1;have HX:=aa (HX1.out w1 hG);go_wp2_with fail
  refine HX.out.mono ?_;rintro e w2 ⟨m,rfl,hq,hk⟩;go_wp2
  first
   | exact ⟨m,rfl,hq⟩
   | exact ⟨⟨m,rfl,hq⟩,hk⟩
 simp only [TN]
 iterate 2
  refine ⟨aB (by decide) fun w1 hG hd=>?_,fun v=>?_⟩
  ·have c1:=ZL w1 pb 1 _ _ (0,0) ((hG.2 pb hpb hpl).trans KP.out);simp at c1
   try (have d:=hd _ ⟨ZM _⟩ rfl;simp only [bi,GD,Nat.reduceEqDiff,reduceIte] at d;subst d)
   clear hd;go_wp2;exact RG
  simp only [TN]
 intro w7 hG hd;have d4:=hd 4 (by omega);simp only [bi,GD,Nat.reduceEqDiff,reduceIte] at d4;have d2:∃ m,v2=.int .i64 m/\Q1 m w7:=hd 2 (by omega);subst d4;obtain ⟨m1,hm1,hq1⟩:=d2;subst hm1;have HX:=aa (H2.out m1 w7 hq1);clear hd hG hq1 HX1 HQ H2;go_wp2_with fail
 refine HX.out.mono ?_;rintro e w8 ⟨m2,rfl,hZ⟩;clear HX;go_wp2_with fail
 first
  | exact hZ
  | (go_ret2;exact hZ)
theorem sJ (w:World) (x y:Value) (hx1:x.oneCell'=true) (hy1:y.oneCell'=true) (On W H K A X C D E Co Ro:Int) (t s:ByteArray) (Q1:Int->World->Prop) (Z:Ending->World->Prop)
  (H1:Hid (∀ wx,Below w w wx->CP 33 #[x] wx fun e w'=>∃ n,e=.returned (.int .i64 n)/\Q1 n w'/\aM w wx w'))
  (HQ:Hid (∀ n w1 w2,Q1 n w1->af w1 w2->Q1 n w2))
  (H2:Hid (∀ n w1,Q1 n w1->CP 65 #[y] w1 fun e w'=>∃ m,e=.returned (.int .i64 m)/\Z (.returned (.tuple #[.int .i64 n,.int .i64 m])) w')):
  CP 28 #[.agg #[x,y],.agg #[(8:Int),On,W,H,K,A,X,C,D,E,Co,Ro,t,s]] w Z:=by
 go_enter func28,ntmps28
 go_wp2_with fail
 obtain ⟨wa,pb,sb,hwa,hpbe,hsbe,bA,KP,KS,hpb,hsb,hpl,hsl⟩:=ew w x y #[(8:Int),On,W,H,K,A,X,C,D,E,Co,Ro,t,s];have HX1:=aa (fun wx (hg:af wa wx)=>H1.out wx (bA.trans (hg.mono bA.size)));rw [<-hwa]
 try rw [<-hsbe]
 rw [<-hpbe];clear hwa hpbe hsbe bA H1;refine cW 5 _ 2 (aM w.heap.size) (bi [zp pb,x,undef,zq pb 1,y] 2 Q1) (by kernel_rfl) rfl (by kernel_rfl) (aM.refl _) (fun _ _ _ h g=>h.trans (aM.of g)) (fun _ _ _ g h=>(aM.of g).trans h) (es HQ.out) dH ?_;simp only [TD]
 iterate 2
  refine ⟨aB (by decide) fun w1 hG hd=>?_,fun v=>?_⟩
  ·have c1:=ZL w1 pb 0 _ _ (0,0) ((hG.2 pb hpb hpl).trans KP.out);simp at c1
   try (have d:=hd _ ⟨ZM _⟩ rfl;simp only [bi,GD,Nat.reduceEqDiff,reduceIte] at d;subst d)
   clear hd;go_wp2;exact RG
  simp only [TN]
 refine ⟨dO rfl fun w1 hG hd=>?_,fun v2=>?_⟩
 ·have d1:=hd ⟨1,.data⟩ (by simp) rfl;simp only [bi,GD,Nat.reduceEqDiff,reduceIte] at d1;clear hd;subst d1;have HX:=aa (HX1.out w1 hG);go_wp2_with fail
  refine HX.out.mono ?_;rintro e w2 ⟨m,rfl,hq,hk⟩;go_wp2
  first
   | exact ⟨m,rfl,hq⟩
   | exact ⟨⟨m,rfl,hq⟩,hk⟩
 simp only [TN]
 iterate 2
  refine ⟨aB (by decide) fun w1 hG hd=>?_,fun v=>?_⟩
  ·have c1:=ZL w1 pb 1 _ _ (0,0) ((hG.2 pb hpb hpl).trans KP.out);simp at c1
   try (have d:=hd _ ⟨ZM _⟩ rfl;simp only [bi,GD,Nat.reduceEqDiff,reduceIte] at d;subst d)
   clear hd;go_wp2;exact RG
  simp only [TN]
 intro w7 hG hd;have d4:=hd 4 (by omega);simp only [bi,GD,Nat.reduceEqDiff,reduceIte] at d4;have d2:∃ m,v2=.int .i64 m/\Q1 m w7:=hd 2 (by omega);subst d4;obtain ⟨m1,hm1,hq1⟩:=d2;subst hm1;have HX:=aa (H2.out m1 w7 hq1);clear hd hG hq1 HX1 HQ H2;go_wp2_with fail
 refine HX.out.mono ?_;rintro e w8 ⟨m2,rfl,hZ⟩;clear HX;go_wp2_with fail
 first
  | exact hZ
  | (go_ret2;exact hZ)
theorem yI (w:World) (x y:Value) (hx1:x.oneCell'=true) (hy1:y.oneCell'=true) (On W H K A X C D E Co Ro:Int) (t s:ByteArray) (Q1:Int->World->Prop) (Z:Ending->World->Prop)
  (H1:Hid (∀ wx,Below w w wx->CP 18 #[x] wx fun e w'=>∃ n,e=.returned (.int .i64 n)/\Q1 n w'/\aM w wx w'))
  (HQ:Hid (∀ n w1 w2,Q1 n w1->af w1 w2->Q1 n w2))
  (H2:Hid (∀ n w1,Q1 n w1->CP 66 #[y] w1 fun e w'=>∃ m,e=.returned (.int .i64 m)/\Z (.returned (.tuple #[.int .i64 n,.int .i64 m])) w')):
  CP 28 #[.agg #[x,y],.agg #[(9:Int),On,W,H,K,A,X,C,D,E,Co,Ro,t,s]] w Z:=by
 go_enter func28,ntmps28
 go_wp2_with fail
 obtain ⟨wa,pb,sb,hwa,hpbe,hsbe,bA,KP,KS,hpb,hsb,hpl,hsl⟩:=ew w x y #[(9:Int),On,W,H,K,A,X,C,D,E,Co,Ro,t,s];have HX1:=aa (fun wx (hg:af wa wx)=>H1.out wx (bA.trans (hg.mono bA.size)));rw [<-hwa]
 try rw [<-hsbe]
 rw [<-hpbe];clear hwa hpbe hsbe bA H1;refine cW 5 _ 2 (aM w.heap.size) (bi [zp pb,x,undef,zq pb 1,y] 2 Q1) (by kernel_rfl) rfl (by kernel_rfl) (aM.refl _) (fun _ _ _ h g=>h.trans (aM.of g)) (fun _ _ _ g h=>(aM.of g).trans h) (es HQ.out) dH ?_;simp only [TD]
 iterate 2
  refine ⟨aB (by decide) fun w1 hG hd=>?_,fun v=>?_⟩
  ·have c1:=ZL w1 pb 0 _ _ (0,0) ((hG.2 pb hpb hpl).trans KP.out);simp at c1
   try (have d:=hd _ ⟨ZM _⟩ rfl;simp only [bi,GD,Nat.reduceEqDiff,reduceIte] at d;subst d)
   clear hd;go_wp2;exact RG
  simp only [TN]
 refine ⟨dO rfl fun w1 hG hd=>?_,fun v2=>?_⟩
 ·have d1:=hd ⟨1,.data⟩ (by simp) rfl;simp only [bi,GD,Nat.reduceEqDiff,reduceIte] at d1;clear hd;subst d1;have HX:=aa (HX1.out w1 hG);go_wp2_with fail
  refine HX.out.mono ?_;rintro e w2 ⟨m,rfl,hq,hk⟩;go_wp2
  first
   | exact ⟨m,rfl,hq⟩
   | exact ⟨⟨m,rfl,hq⟩,hk⟩
 simp only [TN]
 iterate 2
  refine ⟨aB (by decide) fun w1 hG hd=>?_,fun v=>?_⟩
  ·have c1:=ZL w1 pb 1 _ _ (0,0) ((hG.2 pb hpb hpl).trans KP.out);simp at c1
   try (have d:=hd _ ⟨ZM _⟩ rfl;simp only [bi,GD,Nat.reduceEqDiff,reduceIte] at d;subst d)
   clear hd;go_wp2;exact RG
  simp only [TN]
 intro w7 hG hd;have d4:=hd 4 (by omega);simp only [bi,GD,Nat.reduceEqDiff,reduceIte] at d4;have d2:∃ m,v2=.int .i64 m/\Q1 m w7:=hd 2 (by omega);subst d4;obtain ⟨m1,hm1,hq1⟩:=d2;subst hm1;have HX:=aa (H2.out m1 w7 hq1);clear hd hG hq1 HX1 HQ H2;go_wp2_with fail
 refine HX.out.mono ?_;rintro e w8 ⟨m2,rfl,hZ⟩;clear HX;go_wp2_with fail
 first
  | exact hZ
  | (go_ret2;exact hZ)
section
variable {Wp:Value} {Rb:Nat}
theorem jB (w:World) (s:ByteArray) (hs:s.size<=9223372036854775807):QE 86 #[s] w (.bool (decide (0 < s.size/\s.size<=100))):=by
 have HT:=aa (fun wx=>jc wx s hs);by_cases h0:s.size=0
 ·have hs0:s=⟨#[]⟩:=by
   apply Zj;apply YF;have:s.data.toList.length=0:=by simpa using h0
   simpa using Zh this
  subst hs0;go_enter func86,ntmps86
  go_wp2;go_ret;exact ⟨rfl,rfl⟩
 ·have hne:¬ s.toList=[]:=fun e=>h0 (by rw [Yy] at e;have:=congrArg List.length e;simpa using this)
  by_cases h1:s.size<=100
  ·have e1:decide (s.size<=100)=true:=by simpa using h1
   have e2:decide (0 < s.size/\s.size<=100)=true:=by simp;omega
   rw [e2];go_enter func86,ntmps86
   go_wp2_with fail
   refine (HT.out _).mono ?_;rintro e w1 ⟨rfl,rfl⟩;rw [e1];go_wp2;go_ret;exact ⟨by simp [hne],rfl⟩
  ·have e1:decide (s.size<=100)=false:=by simpa using h1
   have e2:decide (0 < s.size/\s.size<=100)=false:=by simp;omega
   rw [e2];go_enter func86,ntmps86
   go_wp2_with fail
   refine (HT.out _).mono ?_;rintro e w1 ⟨rfl,rfl⟩;rw [e1];go_wp2;go_ret;exact ⟨rfl,rfl⟩
theorem nc (w:World) (s:ByteArray) (r2:w.cell? (zq Rb 2)=some (.pointer none)) (HR:Hid (QD 47 #[Wp] w (.tuple #[zp Rb,oz]))):
  QD 39 #[Wp,s] w (2:Int):=by
 go_enter func39,ntmps39
 go_wp2_with fail
 refine HR.out.mono ?_;rintro e w1 ⟨rfl,qn,rfl⟩;go_wp2;go_ret;exact ⟨rfl,_,rfl⟩
theorem yB (w:World) (Pg:Nat) (s:ByteArray) (hs:s.size<=9223372036854775807) (h1:decide (0 < s.size/\s.size<=100)=false) (r2:w.cell? (zq Rb 2)=zp Pg) (HR:Hid (QD 47 #[Wp] w (.tuple #[zp Rb,oz]))):
  QD 39 #[Wp,s] w (1:Int):=by
 go_enter func39,ntmps39
 go_wp2_with fail
 refine HR.out.mono ?_;rintro e w1 ⟨rfl,qn,rfl⟩;go_wp2_with fail
 refine (jB _ s hs).mono ?_;rintro e w1 ⟨rfl,rfl⟩;rw [h1];go_wp2;go_ret;exact ⟨rfl,_,rfl⟩
theorem tj (w:World) (Pg n cap:Nat) (ad:Option Addr) (s:ByteArray) (hs:s.size<=9223372036854775807) (h1:decide (0 < s.size/\s.size<=100)=true) (hn:20<=n) (hn2:n<=1000) (r2:w.cell? (zq Rb 2)=zp Pg) (r5:w.cell? (zq Rb 5)=some (.slice ad n cap)) (HR:Hid (QD 47 #[Wp] w (.tuple #[zp Rb,oz]))):
  QD 39 #[Wp,s] w (3:Int):=by
 have hn':(20:Int)<=(n:Int):=by omega
 go_enter func39,ntmps39
 go_wp2_with fail
 refine HR.out.mono ?_;rintro e w1 ⟨rfl,qn,rfl⟩;go_wp2_with fail
 refine (jB _ s hs).mono ?_;rintro e w1 ⟨rfl,rfl⟩;rw [h1];go_wp2;go_ret;exact ⟨rfl,_,rfl⟩
end
def fU (w:World) (lim:Int):World:=
 ((((w.alloc (.cells #[lim,.slice none 0 0,false] 153)).alloc (.cells #[.iface 89 (zp w),oz] 208)).alloc (.cells #[zp (w.heap.size+1),.slice none 0 0,.slice none 0 0] 166)).alloc (.cells #[zp w.heap.size,zp (w.heap.size+2),.pointer none,oz,.string ⟨#[]⟩,.slice none 0 0] 93)).alloc (.cells #[zp (w.heap.size+3)] 72)
theorem qe (w:World) (lim:Int):CP 10 #[lim] w fun e w'=>e=.returned (zp (w.heap.size+4))/\w'=fU w lim:=by
 go_enter func10,ntmps10
 go_wp2;go_ret;exact ⟨rfl,rfl⟩
theorem vx (w:World):QE 20 #[.pointer none] w (.string ⟨#[]⟩):=by
 go_enter func20,ntmps20
 go_wp2;go_ret;exact ⟨rfl,rfl⟩
theorem pd (w:World) (B Wb Rb T:Nat) (lim:Int) (S:Bl) (X:List UInt8) (c0:w.cell? Wb=zp Rb) (r0:w.cell? Rb=zp T) (h:jp B T lim w S X) (hl:X.length<=2000000000):
  QE 20 #[zp Wb] w (.string ⟨X.toArray⟩):=by
 have HX:=aa (nD w B T lim S X h hl);go_enter func20,ntmps20
 go_wp2_with fail
 refine HX.out.mono ?_;rintro e w1 ⟨rfl,rfl⟩;go_wp2;go_ret;exact ⟨rfl,rfl⟩
end Go.Proofs.YtbklfkpjoinofaaGreatDoor
