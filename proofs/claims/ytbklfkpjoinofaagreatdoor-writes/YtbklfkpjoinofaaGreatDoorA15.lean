import Derived.Test.YtbklfkpjoinofaaGreatDoorA14
import Derived.Test.YtbklfkpjoinofaaGreatDoorA06
set_option linter.all false
set_option maxRecDepth 100000
set_option maxHeartbeats 8000000
namespace Go.Proofs.YtbklfkpjoinofaaGreatDoor
open Go.RowKit Go.Proofs.Tryz
theorem zW (w:World) (B c a q a1:Nat) (n:Int) (s:ByteArray) (S:Bl) (h:aZ B c s a w S) (hs:s.size<=2000000000) (hq:q<=100000) (ha1:a1<=s.size) (haa:a<=a1) (hn:Hid (n=(1000*(q:Int))))
  (H1:Hid (∀ wx,wx.cell? c=some (.string s)->wx.cell? (zq c 1)=some (.int .i64 (a:Int))->QD 163 #[zp c,.string ⟨#[45]⟩] wx false))
  (H2:Hid (∀ wx,aZ B c s a wx S->CP 121 #[zp c] wx fun e w'=>e=.returned (q:Int)/\aZ B c s a1 w' S/\Mv S wx S w'))
  (H3:Hid (∀ wx,wx.cell? c=some (.string s)->wx.cell? (zq c 1)=some (.int .i64 (a1:Int))->QD 163 #[zp c,.string ⟨#[46]⟩] wx false))
  (H4:Hid (∀ wx,Mv S w S wx->QB 161 #[n] wx (.string (s.extract a a1)))):
  CP 119 #[zp c] w fun e w'=>e=.returned n/\aZ B c s a1 w' S/\Mv S w S w':=by
 have c0:=h.at 0 _ rfl;have c1:=h.at 1 _ rfl;have f1:=h.fz 1;go_enter func119,ntmps119
 go_wp2_with fail
 refine (H1.out w c0 c1).mono ?_;rintro e w1 ⟨rfl,q1,rfl⟩;go_wp2_with fail
 refine (H2.out _ (h.drewN q1)).mono ?_;rintro e w2 ⟨rfl,h2,m2⟩;have m2':=m2.undrew;clear c0 c1 f1 m2 H1 H2 h;have c0:=h2.at 0 _ rfl;have c1:=h2.at 1 _ rfl;have f1:=h2.fz 1;go_wp2_with fail
 refine (H3.out _ c0 c1).mono ?_;rintro e w1 ⟨rfl,q3,rfl⟩;have HK:=aa (fun wx (g:af (w2.drewN q3) wx)=>(aS.thing B c _).grow (h2.drewN q3) g);have HM:=aa (fun wx (g:af (w2.drewN q3) wx)=>(m2'.drewN q3).trans (Mv.grow g S));clear c0 c1 f1 h2 m2' H3;have hn':n=(1000*(q:Int)):=hn.out;subst hn';clear hn;go_wp2_with fail
 refine ap 19 124 (ag [zp c,zp c,zq c 2,false,true,true,zp c,zp c,zp c,s,(a:Int),zp c,zp c,zq c 1,(a1:Int),.string (s.extract a a1),(1000*(q:Int):Int),.string (s.extract a a1),false]) (by kernel_rfl) rfl (by kernel_rfl) aq ?_;simp only [TD]
 iterate 19
  refine ⟨fun w1 hG hd=>?_,fun v=>?_⟩
  ·have c1:=(HK.out w1 hG).at 2 _ rfl;have c2:=(HK.out w1 hG).at 0 _ rfl;have c3:=(HK.out w1 hG).at 1 _ rfl
   try (have d:=hd _ ⟨ZM _⟩ rfl;simp only [ag,GD] at d;subst d)
   try (have d:=hd _ ⟨.tail _ (.head _)⟩ rfl;simp only [ag,GD] at d;subst d)
   try (have d:=hd _ ⟨.tail _ (.tail _ (.head _))⟩ rfl;simp only [ag,GD] at d;subst d)
   try (have d:=hd _ ⟨.tail _ (.tail _ (.tail _ (.head _)))⟩ rfl;simp only [ag,GD] at d;subst d)
   clear hd;go_wp2_with fail
   first
    | exact RG
    | ((with_reducible refine (H4.out w1 (HM.out w1 hG)).mono ?_);rintro e w2 ⟨rfl,hB2⟩;go_wp2;exact ⟨rfl,hB2⟩)
  simp only [TN]
 intro w9 hG hd;have d5:=hd 5 (by omega);have d18:=hd 18 (by omega);simp only [ag,GD] at d5 d18;subst d5 d18;have HR:=aa (show aZ B c s a1 w9 S/\Mv S w S w9 from ⟨HK.out w9 hG,HM.out w9 hG⟩);clear hd HK HM hG;go_wp2;go_ret;exact ⟨rfl,HR.out⟩
end Go.Proofs.YtbklfkpjoinofaaGreatDoor
