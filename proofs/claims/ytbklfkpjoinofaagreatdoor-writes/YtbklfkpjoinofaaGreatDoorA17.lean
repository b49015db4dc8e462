import Derived.Test.YtbklfkpjoinofaaGreatDoorA14
import Derived.Test.YtbklfkpjoinofaaGreatDoorA06
set_option linter.all false
set_option maxRecDepth 100000
set_option maxHeartbeats 8000000
namespace Go.Proofs.YtbklfkpjoinofaaGreatDoor
open Go.RowKit Go.Proofs.Tryz
theorem zO (w:World) (B c a q a1:Nat) (a2 a3 m:Nat) (fs:List UInt8) (x:UInt8) (n:Int) (s:ByteArray) (S:Bl) (h:aZ B c s a w S) (hs:s.size<=2000000000) (hq:q<=100000) (ha1:a1<=s.size) (haa:a<=a1) (HA2:Hid (a2=a1+1)) (ha12:a1 < a2) (HA3:Hid (a3=a2+fs.length)) (ha23:a2<=a3) (ha3:a3 < s.size) (hfl:fs.length<=3) (HFD:Hid (∀ y∈fs,48<=y.toNat/\y.toNat<=57)) (HG:Hid (au s a2 (fs++[x]))) (hx:x.toNat < 48\/57 < x.toNat) (HFV:Hid (∀ k,k < 4->cV 100 (fs.take k)<=999)) (HM0:Hid (cV 100 fs=m)) (hm1:m < 1000) (hn:Hid (n=(1000*(q:Int)+(m:Int))))
  (H1:Hid (∀ wx,wx.cell? c=some (.string s)->wx.cell? (zq c 1)=some (.int .i64 (a:Int))->QD 163 #[zp c,.string ⟨#[45]⟩] wx false))
  (H2:Hid (∀ wx,aZ B c s a wx S->CP 121 #[zp c] wx fun e w'=>e=.returned (q:Int)/\aZ B c s a1 w' S/\Mv S wx S w'))
  (H3:Hid (∀ wx,wx.cell? c=some (.string s)->wx.cell? (zq c 1)=some (.int .i64 (a1:Int))->QD 163 #[zp c,.string ⟨#[46]⟩] wx true))
  (H4:Hid (∀ wx,Mv S w S wx->QB 161 #[n] wx (.string (s.extract a a3)))):
  CP 119 #[zp c] w fun e w'=>e=.returned n/\aZ B c s a3 w' S/\Mv S w S w':=by
 have c0:=h.at 0 _ rfl;have c1:=h.at 1 _ rfl;have f1:=h.fz 1;go_enter func119,ntmps119
 go_wp2_with fail
 refine (H1.out w c0 c1).mono ?_;rintro e w1 ⟨rfl,q1,rfl⟩;go_wp2_with fail
 refine (H2.out _ (h.drewN q1)).mono ?_;rintro e w2 ⟨rfl,h2,m2⟩;have m2':=m2.undrew;clear c0 c1 f1 m2 H1 H2 h;have c0:=h2.at 0 _ rfl;have c1:=h2.at 1 _ rfl;have f1:=h2.fz 1;go_wp2_with fail
 refine (H3.out _ c0 c1).mono ?_;rintro e w1 ⟨rfl,q3,rfl⟩;obtain ⟨h3,m3⟩:=(h2.drewN q3).put (z:=(a1:Int)+1) (b:=a2) (by have:=HA2.out;omega);have m3:=m2'.trans m3.undrew;go_wp2_with fail
 clear c0 c1 f1 h2 m2' H3;have hA3:=HA3.out;go_loopg [5,7] 5 (fun g x f wr=>∃ k p v:Nat,k<=fs.length/\fs.length - k < g/\Hid (p=a2+k)/\Hid (v=cV 100 (fs.take k))/\x=.int .i64 (1000*(q:Int)+(v:Int))/\(∃ F:Int,f=.int .i64 F/\Hid (F=((100 / 10 ^ k:Nat):Int)))/\aZ B c s p wr S/\Mv S w S wr)
 case atStart=>exact ⟨0,a2,0,by omega,by omega,rfl,rfl,by simp,⟨100,rfl,rfl⟩,h3,m3⟩
 case round=>
  obtain ⟨k,p,v,hk,hgk,HP,HVk,rfl,⟨F,rfl,HFF⟩,hc,hm⟩:=hrel;clear h3 m3;have c0:=hc.at 0 _ rfl;have c1:=hc.at 1 _ rfl;have f1:=hc.fz 1;have hv:v<=999:=by
   have:=HFV.out k (by omega);have:=HVk.out;omega
  by_cases hlt:k < fs.length
  ·obtain ⟨hl,hb⟩:=HG.out.get k (by simp;omega);rw [List.getElem_append_left hlt] at hb;obtain ⟨y,hy⟩:∃ y,fs[k]=y:=⟨_,rfl⟩;rw [hy] at hb;have hdig:=HFD.out y (by rw [<-hy];exact YK hlt);have hpp:=HP.out;have hb':∃ hl:p < s.size,s[p]=y:=by subst hpp;exact ⟨hl,hb⟩
   obtain ⟨hpl,hbp⟩:=hb';have HN:Hid (v+100 / 10 ^ k*(y.toNat - 48)=cV 100 (fs.take (k+1))):=by
    show _=_
    rw [ZH hlt,jQ, <-HVk.out,hy,Zx,Zr (Yu hlt)]
   clear hb hl hy hpp hA3;have d1:decide ((p:Int) < (s.size:Int))=true:=by simp;omega
   have d2:decide (48<=(y.toNat:Int))=true:=by simp;omega
   have d3:decide ((y.toNat:Int)<=57)=true:=by simp;omega
   have hk3:k=0\/k=1\/k=2:=by omega
   have HV2:=aa (HFV.out (k+1) (by omega));have hv2:v+100 / 10 ^ k*(y.toNat - 48)<=999:=by rw [HN.out];exact HV2.out
   have hFF:=HFF.out;rcases hk3 with rfl | rfl | rfl
   all_goals
    simp only [Nat.pow_zero,Nat.pow_one,Nat.reducePow,Nat.reduceDiv,Nat.reduceAdd] at hFF hv2 HN
    (try simp only [Nat.cast_ofNat] at hFF)
    subst hFF;go_wp2_with fail
    go_quiet (fail)
    revert nq;intro n1;go_wp2_with fail
    go_quiet (fail)
    go_wp2;go_roundg (gk - 1)
    case measure=>omega
    case rel=>
     obtain ⟨g1,m1⟩:=(hc.drewN (n1+nq)).put (z:=(p:Int)+1) (b:=p+1) (by omega);refine ⟨_,p+1,_,hlt,by omega,?_,HN,?_,⟨_,rfl,?_⟩,g1,?_⟩
     ·show _=_
      rw [HP.out]
     ·congr 1;omega
     ·show _=_
      simp
     ·exact hm.trans (Mv.undrew (q:=n1+nq) m1)
  ·have hkl:k=fs.length:=by omega
   subst hkl;have hvm:v=m:=by
    have h1:=HVk.out;rw [ZF (ZX _),HM0.out] at h1;exact h1
   subst hvm;have hpp:p=a3:=by rw [HP.out,hA3]
   subst hpp;have hbx:s[p]=x:=by
    obtain ⟨_,hb⟩:=HG.out.get fs.length (by simp);have e1:s[p]=s[a2+fs.length]:=by congr 1
    rw [e1,hb,List.getElem_append_right (ZX _)];simp
   have d1:decide ((p:Int) < (s.size:Int))=true:=by simp;omega
   have hFF:=HFF.out;have hk4:fs.length=3\/(0 < F/\(x.toNat < 48\/57 < x.toNat)):=by
    have h4:fs.length=3\/fs.length=0\/fs.length=1\/fs.length=2:=by omega
    rcases h4 with h4 | h4 | h4 | h4
    ·exact .inl h4
    all_goals
     refine .inr ⟨?_,hx⟩;rw [hFF,h4];decide
   have HNN:=aa hn.out;clear hA3 HP HVk HFD HG HFV hgk hm1 HM0 HFF HA3 hn;rcases hk4 with h3 | ⟨hF0,hx | hx⟩
   ·have hF00:F=0:=by rw [hFF,h3];decide
    subst hF00;clear hFF;go_wp2_with fail
    go_quiet (fail)
    go_wp2_with fail
    have HK:=aa (fun wx (g:af (wr.drewN nq) wx)=>(aS.thing B c _).grow (hc.drewN nq) g);have HM:=aa (fun wx (g:af (wr.drewN nq) wx)=>(hm.drewN nq).trans (Mv.grow g S));have hn':n=(1000*(q:Int)+(v:Int)):=HNN.out;subst hn';clear c0 c1 f1 hc hm HNN;refine ap 19 124 (ag [zp c,zp c,zq c 2,false,true,true,zp c,zp c,zp c,s,(a:Int),zp c,zp c,zq c 1,(p:Int),.string (s.extract a p),(1000*(q:Int)+(v:Int):Int),.string (s.extract a p),false]) (by kernel_rfl) rfl (by kernel_rfl) aq ?_;simp only [TD]
    iterate 19
     refine ⟨fun w1 hG hd=>?_,fun v=>?_⟩
     ·have c1:=(HK.out w1 hG).at 2 _ rfl;have c2:=(HK.out w1 hG).at 0 _ rfl;have c3:=(HK.out w1 hG).at 1 _ rfl
      try (have d:=hd _ ⟨ZM _⟩ rfl;simp only [ag,GD] at d;subst d)
      try (have d:=hd _ ⟨.tail _ (.head _)⟩ rfl;simp only [ag,GD] at d;subst d)
      try (have d:=hd _ ⟨.tail _ (.tail _ (.head _))⟩ rfl;simp only [ag,GD] at d;subst d)
      try (have d:=hd _ ⟨.tail _ (.tail _ (.tail _ (.head _)))⟩ rfl;simp only [ag,GD] at d;subst d)
      clear hd;go_wp2_with fail
      first
       | exact RG
       | ((with_reducible refine (H4.out w1 (HM.out w1 hG)).mono ?_);rintro e w2 ⟨rfl,hB2⟩;go_wp2;exact ⟨rfl,hB2⟩)
     simp only [TN]
    intro w9 hG hd;have d5:=hd 5 (by omega);have d18:=hd 18 (by omega);simp only [ag,GD] at d5 d18;subst d5 d18;have HR:=aa (show aZ B c s p w9 S/\Mv S w S w9 from ⟨HK.out w9 hG,HM.out w9 hG⟩);clear hd HK HM hG;go_wp2;go_ret;exact ⟨rfl,HR.out⟩
   ·have d2:decide (48<=(x.toNat:Int))=false:=by simp;omega
    have d2':decide (48<=x.toNat)=false:=by simp;omega
    have d2'':¬ 48<=x.toNat:=by omega
    have d4:decide (0 < F)=true:=by simp;omega
    clear hFF;go_wp2_with fail
    go_quiet (fail)
    go_wp2_with fail
    have HK:=aa (fun wx (g:af (wr.drewN nq) wx)=>(aS.thing B c _).grow (hc.drewN nq) g);have HM:=aa (fun wx (g:af (wr.drewN nq) wx)=>(hm.drewN nq).trans (Mv.grow g S));have hn':n=(1000*(q:Int)+(v:Int)):=HNN.out;subst hn';clear c0 c1 f1 hc hm HNN;refine ap 19 124 (ag [zp c,zp c,zq c 2,false,true,true,zp c,zp c,zp c,s,(a:Int),zp c,zp c,zq c 1,(p:Int),.string (s.extract a p),(1000*(q:Int)+(v:Int):Int),.string (s.extract a p),false]) (by kernel_rfl) rfl (by kernel_rfl) aq ?_;simp only [TD]
    iterate 19
     refine ⟨fun w1 hG hd=>?_,fun v=>?_⟩
     ·have c1:=(HK.out w1 hG).at 2 _ rfl;have c2:=(HK.out w1 hG).at 0 _ rfl;have c3:=(HK.out w1 hG).at 1 _ rfl
      try (have d:=hd _ ⟨ZM _⟩ rfl;simp only [ag,GD] at d;subst d)
      try (have d:=hd _ ⟨.tail _ (.head _)⟩ rfl;simp only [ag,GD] at d;subst d)
      try (have d:=hd _ ⟨.tail _ (.tail _ (.head _))⟩ rfl;simp only [ag,GD] at d;subst d)
      try (have d:=hd _ ⟨.tail _ (.tail _ (.tail _ (.head _)))⟩ rfl;simp only [ag,GD] at d;subst d)
      clear hd;go_wp2_with fail
      first
       | exact RG
       | ((with_reducible refine (H4.out w1 (HM.out w1 hG)).mono ?_);rintro e w2 ⟨rfl,hB2⟩;go_wp2;exact ⟨rfl,hB2⟩)
     simp only [TN]
    intro w9 hG hd;have d5:=hd 5 (by omega);have d18:=hd 18 (by omega);simp only [ag,GD] at d5 d18;subst d5 d18;have HR:=aa (show aZ B c s p w9 S/\Mv S w S w9 from ⟨HK.out w9 hG,HM.out w9 hG⟩);clear hd HK HM hG;go_wp2;go_ret;exact ⟨rfl,HR.out⟩
   ·have d2:decide (48<=(x.toNat:Int))=true:=by simp;omega
    have d2':decide (48<=x.toNat)=true:=by simp;omega
    have d2'':48<=x.toNat:=by omega
    have d3:decide ((x.toNat:Int)<=57)=false:=by simp;omega
    have d3':decide (x.toNat<=57)=false:=by simp;omega
    have d3'':¬ x.toNat<=57:=by omega
    have d4:decide (0 < F)=true:=by simp;omega
    clear hFF;go_wp2_with fail
    go_quiet (fail)
    go_wp2_with fail
    have HK:=aa (fun wx (g:af (wr.drewN nq) wx)=>(aS.thing B c _).grow (hc.drewN nq) g);have HM:=aa (fun wx (g:af (wr.drewN nq) wx)=>(hm.drewN nq).trans (Mv.grow g S));have hn':n=(1000*(q:Int)+(v:Int)):=HNN.out;subst hn';clear c0 c1 f1 hc hm HNN;refine ap 19 124 (ag [zp c,zp c,zq c 2,false,true,true,zp c,zp c,zp c,s,(a:Int),zp c,zp c,zq c 1,(p:Int),.string (s.extract a p),(1000*(q:Int)+(v:Int):Int),.string (s.extract a p),false]) (by kernel_rfl) rfl (by kernel_rfl) aq ?_;simp only [TD]
    iterate 19
     refine ⟨fun w1 hG hd=>?_,fun v=>?_⟩
     ·have c1:=(HK.out w1 hG).at 2 _ rfl;have c2:=(HK.out w1 hG).at 0 _ rfl;have c3:=(HK.out w1 hG).at 1 _ rfl
      try (have d:=hd _ ⟨ZM _⟩ rfl;simp only [ag,GD] at d;subst d)
      try (have d:=hd _ ⟨.tail _ (.head _)⟩ rfl;simp only [ag,GD] at d;subst d)
      try (have d:=hd _ ⟨.tail _ (.tail _ (.head _))⟩ rfl;simp only [ag,GD] at d;subst d)
      try (have d:=hd _ ⟨.tail _ (.tail _ (.tail _ (.head _)))⟩ rfl;simp only [ag,GD] at d;subst d)
      clear hd;go_wp2_with fail
      first
       | exact RG
       | ((with_reducible refine (H4.out w1 (HM.out w1 hG)).mono ?_);rintro e w2 ⟨rfl,hB2⟩;go_wp2;exact ⟨rfl,hB2⟩)
     simp only [TN]
    intro w9 hG hd;have d5:=hd 5 (by omega);have d18:=hd 18 (by omega);simp only [ag,GD] at d5 d18;subst d5 d18;have HR:=aa (show aZ B c s p w9 S/\Mv S w S w9 from ⟨HK.out w9 hG,HM.out w9 hG⟩);clear hd HK HM hG;go_wp2;go_ret;exact ⟨rfl,HR.out⟩
end Go.Proofs.YtbklfkpjoinofaaGreatDoor
