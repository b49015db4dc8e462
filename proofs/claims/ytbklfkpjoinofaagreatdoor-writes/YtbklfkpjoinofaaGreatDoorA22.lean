import Derived.Test.YtbklfkpjoinofaaGreatDoorA20
set_option linter.all false
set_option maxRecDepth 100000
set_option maxHeartbeats 8000000
namespace Go.Proofs.YtbklfkpjoinofaaGreatDoor
open Go.RowKit Go.Proofs.Tryz
theorem y6 (w:World) (B c a p1 p2 p3 p4:Nat) (s:ByteArray) (S:Bl) (A X C D E:Int) (h:aZ B c s a w S)
  (H1:Hid (∀ wx,aZ B c s a wx S->CP 163 #[zp c,.string ⟨#[66,84,32,47,70,49,32]⟩] wx fun e w'=>e=.returned false/\aZ B c s a w' S/\Mv S wx S w'))
  (H2:Hid (∀ wx,aZ B c s a wx S->CP 163 #[zp c,.string ⟨#[113,32]⟩] wx fun e w'=>e=.returned false/\aZ B c s a w' S/\Mv S wx S w'))
  (H3:Hid (∀ wx,Mv S w S wx->aZ B c s a wx S->CP 238 #[zp c,(1:Int)] wx fun e w'=>e=.returned (.agg #[E,oz,oz,oz])/\aZ B c s p1 w' S/\Mv S wx S w'))
  (H4:Hid (∀ wx,aZ B c s p1 wx S->CP 163 #[zp c,.string ⟨#[119,32]⟩] wx fun e w'=>e=.returned false/\aZ B c s p1 w' S/\Mv S wx S w'))
  (H5:Hid (∀ wx,aZ B c s p1 wx S->CP 114 #[zp c,.string ⟨#[103,32]⟩] wx fun e w'=>e=.returned (.tuple #[])/\aZ B c s p2 w' S/\Mv S wx S w'))
  (H6:Hid (∀ wx,Mv S w S wx->aZ B c s p2 wx S->CP 238 #[zp c,(4:Int)] wx fun e w'=>e=.returned (.agg #[A,X,C,D])/\aZ B c s p3 w' S/\Mv S wx S w'))
  (H7:Hid (∀ wx,aZ B c s p3 wx S->CP 114 #[zp c,.string ⟨#[114,101,32,102,10]⟩] wx fun e w'=>e=.returned (.tuple #[])/\aZ B c s p4 w' S/\Mv S wx S w')):
  CP 209 #[zp c] w fun e w'=>e=.returned (.agg #[(3:Int),A,X,C,D,E,oz,oz,.string ⟨#[]⟩])/\aZ B c s p4 w' S/\Mv S w S w':=by
 have hcl:c < w.heap.size:=h.2.2.1;have HO:=aa ((jL.here h).lay (.cells #[oz,oz,oz,oz,oz,oz,oz,oz,.string ⟨#[]⟩] 31));go_enter func209,ntmps209
 go_wp2_with fail
 refine (H1.out _ HO.out.cur).mono ?_;rintro e w1 ⟨rfl,h1,m1⟩;have HO:=aa ((HO.out.step hcl h1 m1));clear h1 m1;go_wp2_with fail
 refine (H2.out _ HO.out.cur).mono ?_;rintro e w2 ⟨rfl,h2,m2⟩;have HO:=aa ((HO.out.step hcl h2 m2));clear h2 m2;go_wp2_with fail
 refine (H3.out _ HO.out.mv HO.out.cur).mono ?_;rintro e w3 ⟨rfl,h3,m3⟩;have HO:=aa ((HO.out.step hcl h3 m3).lay (.cells #[E,oz,oz,oz] 277));clear h3 m3;go_wp2_with fail
 refine (H4.out _ HO.out.cur).mono ?_;rintro e w4 ⟨rfl,h4,m4⟩;have HO:=aa ((HO.out.step hcl h4 m4));clear h4 m4;go_wp2_with fail
 refine (H5.out _ HO.out.cur).mono ?_;rintro e w5 ⟨rfl,h5,m5⟩;have HO:=aa ((HO.out.step hcl h5 m5));clear h5 m5;go_wp2_with fail
 refine (H6.out _ HO.out.mv HO.out.cur).mono ?_;rintro e w6 ⟨rfl,h6,m6⟩;have HO:=aa ((HO.out.step hcl h6 m6).lay (.cells #[A,X,C,D] 277));clear h6 m6;go_wp2_with fail
 refine (H7.out _ HO.out.cur).mono ?_;rintro e w7 ⟨rfl,h7,m7⟩;have HO:=aa ((HO.out.step hcl h7 m7));clear h7 m7;obtain ⟨_,_,k0⟩:=HO.out.at 0 rfl;have z6_0:=(aj (i:=0) k0).trans rfl;have z6_1:=(aj (i:=1) k0).trans rfl;have z6_2:=(aj (i:=2) k0).trans rfl;have z6_3:=(aj (i:=3) k0).trans rfl;obtain ⟨_,_,k1⟩:=HO.out.at 1 rfl;have z3_0:=(aj (i:=0) k1).trans rfl;have z3_1:=(aj (i:=1) k1).trans rfl;have z3_2:=(aj (i:=2) k1).trans rfl;have z3_3:=(aj (i:=3) k1).trans rfl;obtain ⟨_,hRl,kR⟩:=HO.out.at 2 rfl;have s0:=(aj (i:=0) kR).trans rfl;have s1:=(aj (i:=1) kR).trans rfl;have s2:=(aj (i:=2) kR).trans rfl;have s3:=(aj (i:=3) kR).trans rfl;have s4:=(aj (i:=4) kR).trans rfl;have s5:=(aj (i:=5) kR).trans rfl;have s6:=(aj (i:=6) kR).trans rfl;have s7:=(aj (i:=7) kR).trans rfl;have s8:=(aj (i:=8) kR).trans rfl;have fz:=fun i=>cD (i:=i) kR
 have HK:=aa kR;clear k0 k1 kR;have HB:=aa (ZD _ w.heap.size 8 _ _ (.string ⟨#[]⟩) (ZD _ w.heap.size 7 _ _ (0:Int) (ZD _ w.heap.size 6 _ _ (0:Int) (ZD _ w.heap.size 5 _ _ E (ZD _ w.heap.size 4 _ _ D (ZD _ w.heap.size 3 _ _ C (ZD _ w.heap.size 2 _ _ X (ZD _ w.heap.size 1 _ _ A (ZD _ w.heap.size 0 _ _ (3:Int) HK.out)))))))));have HF:=aa (((((((((HO.out.set hcl w.heap.size 0 (ZX _) (.int .i64 3)).set hcl w.heap.size 1 (ZX _) (.int .i64 A)).set hcl w.heap.size 2 (ZX _) (.int .i64 X)).set hcl w.heap.size 3 (ZX _) (.int .i64 C)).set hcl w.heap.size 4 (ZX _) (.int .i64 D)).set hcl w.heap.size 5 (ZX _) (.int .i64 E)).set hcl w.heap.size 6 (ZX _) (.int .i64 0)).set hcl w.heap.size 7 (ZX _) (.int .i64 0)).set hcl w.heap.size 8 (ZX _) (.string ⟨#[]⟩));go_wp2_with fail
 refine Zb (YL rfl _ _ w.heap.size 31 #[(3:Int),A,X,C,D,E,oz,oz,.string ⟨#[]⟩] (0,0) _ rfl HB.out underlying31 rfl (by kernel_rfl)) rfl ?_;exact ⟨rfl,HF.out.cur,HF.out.mv⟩
end Go.Proofs.YtbklfkpjoinofaaGreatDoor
