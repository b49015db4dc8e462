import Derived.Test.YtbklfkpjoinofaaGreatDoorA20
set_option linter.all false
set_option maxRecDepth 100000
set_option maxHeartbeats 8000000
namespace Go.Proofs.YtbklfkpjoinofaaGreatDoor
open Go.RowKit Go.Proofs.Tryz
theorem rY (w:World) (B c a p1 p2 p3 p4 p5 p6 p7 p8 p9 p10 p11 co ro N:Nat) (s t:ByteArray) (S:Bl) (A X C D:Int) (h:aZ B c s a w S) (hs:s.size<=2000000000) (hco:co<=64) (hro:ro<=64) (hmul:(co:Int)*(ro:Int)=(N:Int)) (hN:N<=4096) (hp9:p9+N<=s.size) (HT:Hid (s.extract p9 (p9+N)=t)) (HP10:Hid (p10=p9+N))
  (H1:Hid (∀ wx,aZ B c s a wx S->CP 114 #[zp c,.string ⟨#[113,32]⟩] wx fun e w'=>e=.returned (.tuple #[])/\aZ B c s p1 w' S/\Mv S wx S w'))
  (H2:Hid (∀ wx,Mv S w S wx->aZ B c s p1 wx S->CP 238 #[zp c,(1:Int)] wx fun e w'=>e=.returned (.agg #[C,oz,oz,oz])/\aZ B c s p2 w' S/\Mv S wx S w'))
  (H3:Hid (∀ wx,aZ B c s p2 wx S->CP 114 #[zp c,.string ⟨#[48,32,48,32]⟩] wx fun e w'=>e=.returned (.tuple #[])/\aZ B c s p3 w' S/\Mv S wx S w'))
  (H4:Hid (∀ wx,Mv S w S wx->aZ B c s p3 wx S->CP 238 #[zp c,(3:Int)] wx fun e w'=>e=.returned (.agg #[D,A,X,oz])/\aZ B c s p4 w' S/\Mv S wx S w'))
  (H5:Hid (∀ wx,aZ B c s p4 wx S->CP 114 #[zp c,.string ⟨#[99,109,32,66,73,32,47,87,32]⟩] wx fun e w'=>e=.returned (.tuple #[])/\aZ B c s p5 w' S/\Mv S wx S w'))
  (H6:Hid (∀ wx,aZ B c s p5 wx S->CP 121 #[zp c] wx fun e w'=>e=.returned (co:Int)/\aZ B c s p6 w' S/\Mv S wx S w'))
  (H7:Hid (∀ wx,aZ B c s p6 wx S->CP 114 #[zp c,.string ⟨#[32,47,72,32]⟩] wx fun e w'=>e=.returned (.tuple #[])/\aZ B c s p7 w' S/\Mv S wx S w'))
  (H8:Hid (∀ wx,aZ B c s p7 wx S->CP 121 #[zp c] wx fun e w'=>e=.returned (ro:Int)/\aZ B c s p8 w' S/\Mv S wx S w'))
  (H9:Hid (∀ wx,aZ B c s p8 wx S->CP 114 #[zp c,.string ⟨#[32,47,67,83,32,47,71,32,47,66,80,67,32,56,32,73,68,32]⟩] wx fun e w'=>e=.returned (.tuple #[])/\aZ B c s p9 w' S/\Mv S wx S w'))
  (H10:Hid (∀ wx,aZ B c s p10 wx S->CP 114 #[zp c,.string ⟨#[10,69,73,32,81,10]⟩] wx fun e w'=>e=.returned (.tuple #[])/\aZ B c s p11 w' S/\Mv S wx S w')):
  CP 239 #[zp c] w fun e w'=>e=.returned (.agg #[(4:Int),A,X,C,D,oz,(co:Int),(ro:Int),t])/\aZ B c s p11 w' S/\Mv S w S w':=by
 have hcl:c < w.heap.size:=h.2.2.1;have HO:=aa ((jL.here h).lay (.cells #[oz,oz,oz,oz,oz,oz,oz,oz,.string ⟨#[]⟩] 31));go_enter func239,ntmps239
 go_wp2_with fail
 refine (H1.out _ HO.out.cur).mono ?_;rintro e w1 ⟨rfl,h1,m1⟩;have HO:=aa ((HO.out.step hcl h1 m1));clear h1 m1;go_wp2_with fail
 refine (H2.out _ HO.out.mv HO.out.cur).mono ?_;rintro e w2 ⟨rfl,h2,m2⟩;have HO:=aa ((HO.out.step hcl h2 m2).lay (.cells #[C,oz,oz,oz] 277));clear h2 m2;go_wp2_with fail
 refine (H3.out _ HO.out.cur).mono ?_;rintro e w3 ⟨rfl,h3,m3⟩;have HO:=aa ((HO.out.step hcl h3 m3));clear h3 m3;go_wp2_with fail
 refine (H4.out _ HO.out.mv HO.out.cur).mono ?_;rintro e w4 ⟨rfl,h4,m4⟩;have HO:=aa ((HO.out.step hcl h4 m4).lay (.cells #[D,A,X,oz] 277));clear h4 m4;go_wp2_with fail
 refine (H5.out _ HO.out.cur).mono ?_;rintro e w5 ⟨rfl,h5,m5⟩;have HO:=aa ((HO.out.step hcl h5 m5));clear h5 m5;go_wp2_with fail
 refine (H6.out _ HO.out.cur).mono ?_;rintro e w6 ⟨rfl,h6,m6⟩;have HO:=aa ((HO.out.step hcl h6 m6));clear h6 m6;go_wp2_with fail
 refine (H7.out _ HO.out.cur).mono ?_;rintro e w7 ⟨rfl,h7,m7⟩;have HO:=aa ((HO.out.step hcl h7 m7));clear h7 m7;go_wp2_with fail
 refine (H8.out _ HO.out.cur).mono ?_;rintro e w8 ⟨rfl,h8,m8⟩;have HO:=aa ((HO.out.step hcl h8 m8));clear h8 m8;go_wp2_with fail
 refine (H9.out _ HO.out.cur).mono ?_;rintro e w9 ⟨rfl,h9,m9⟩;have HO:=aa ((HO.out.step hcl h9 m9));clear h9 m9;obtain ⟨_,_,k0⟩:=HO.out.at 0 rfl;have z4_0:=(aj (i:=0) k0).trans rfl;have z4_1:=(aj (i:=1) k0).trans rfl;have z4_2:=(aj (i:=2) k0).trans rfl;have z4_3:=(aj (i:=3) k0).trans rfl;obtain ⟨_,_,k1⟩:=HO.out.at 1 rfl;have z2_0:=(aj (i:=0) k1).trans rfl;have z2_1:=(aj (i:=1) k1).trans rfl;have z2_2:=(aj (i:=2) k1).trans rfl;have z2_3:=(aj (i:=3) k1).trans rfl;clear k0 k1;have HLt:=aa (fun x hx=>(HO.out.blk x hx).2.1);have HO:=aa (HO.out.lay (.cells #[(4:Int),A,X,C,D,oz,(co:Int),(ro:Int),.string ⟨#[]⟩] 31));have y0:=HO.out.cur.at 0 _ rfl;have y1:=HO.out.cur.at 1 _ rfl;have y2:=HO.out.cur.at 2 _ rfl;have d1:decide (64 < (co:Int))=false:=by simp;omega
 have d2:decide (64 < (ro:Int))=false:=by simp;omega
 have d3:decide ((s.size:Int) < (p9:Int)+(N:Int))=false:=by simp;omega
 go_wp2_with fail
 go_quiet (fail)
 have HZ:=aa HO.out;have HO:=aa (HO.out.drewN nq);have hlO:w9.heap.size < (w9.alloc (.cells #[(4:Int),A,X,C,D,oz,(co:Int),(ro:Int),.string ⟨#[]⟩] 31)).heap.size:=by simp
 have kO:=(HO.out.at 0 rfl).2.2;have o8:=(aj (i:=8) kO).trans rfl;have of:=cD (i:=8) kO;have y0:=HO.out.cur.at 0 _ rfl;have y1:=HO.out.cur.at 1 _ rfl;clear kO;go_wp2_with fail
 refine bO 18 (by kernel_rfl) (by kernel_rfl) ?_;simp only [TD]
 repeat (go_big_quiet_step (fail))
 refine Yh ?_;intro _ hw';obtain ⟨nq2,hw''⟩:=hw';subst hw'';have HY:=aa ((HZ.out.drewN (nq+nq2)).put hcl (fun x hx=>by have:=HLt.out x hx;omega) 8 (.string (s.extract p9 (p9+N))));have x1:=HY.out.cur.at 1 _ rfl;have xf:=HY.out.cur.fz 1;go_wp2_with fail
 clear x1 xf;have HO:=aa (((HZ.out.drewN (nq+nq2)).put hcl (fun x hx=>by have:=HLt.out x hx;omega) 8 (.string (s.extract p9 (p9+N)))).go (p':=p10) (z:=(p9:Int)+(N:Int)) hcl (by have:=HP10.out;omega));clear o8 of y0 y1 y2;refine (H10.out _ HO.out.cur).mono ?_;rintro e w10 ⟨rfl,h10,m10⟩;have HO:=aa (HO.out.step hcl h10 m10);clear h10 m10;obtain ⟨_,_,kO⟩:=HO.out.at 0 rfl;obtain ⟨_,hRl,kR⟩:=HO.out.at 3 rfl;have u0:=(aj (i:=0) kO).trans rfl;have u1:=(aj (i:=1) kO).trans rfl;have u2:=(aj (i:=2) kO).trans rfl;have u3:=(aj (i:=3) kO).trans rfl;have u4:=(aj (i:=4) kO).trans rfl;have u5:=(aj (i:=5) kO).trans rfl;have u6:=(aj (i:=6) kO).trans rfl;have u7:=(aj (i:=7) kO).trans rfl;have u8:=(aj (i:=8) kO).trans rfl;have s0:=(aj (i:=0) kR).trans rfl;have s1:=(aj (i:=1) kR).trans rfl;have s2:=(aj (i:=2) kR).trans rfl;have s3:=(aj (i:=3) kR).trans rfl;have s4:=(aj (i:=4) kR).trans rfl;have s5:=(aj (i:=5) kR).trans rfl;have s6:=(aj (i:=6) kR).trans rfl;have s7:=(aj (i:=7) kR).trans rfl;have s8:=(aj (i:=8) kR).trans rfl;have fz:=fun i=>cD (i:=i) kR
 have HK:=aa kR;clear kO kR;rw [HT.out] at u8;have HB:=aa (ZD _ w.heap.size 8 _ _ t (ZD _ w.heap.size 7 _ _ (ro:Int) (ZD _ w.heap.size 6 _ _ (co:Int) (ZD _ w.heap.size 5 _ _ (0:Int) (ZD _ w.heap.size 4 _ _ D (ZD _ w.heap.size 3 _ _ C (ZD _ w.heap.size 2 _ _ X (ZD _ w.heap.size 1 _ _ A (ZD _ w.heap.size 0 _ _ (4:Int) HK.out)))))))));have HF:=aa (((((((((HO.out.set hcl w.heap.size 0 (ZX _) (.int .i64 4)).set hcl w.heap.size 1 (ZX _) (.int .i64 A)).set hcl w.heap.size 2 (ZX _) (.int .i64 X)).set hcl w.heap.size 3 (ZX _) (.int .i64 C)).set hcl w.heap.size 4 (ZX _) (.int .i64 D)).set hcl w.heap.size 5 (ZX _) (.int .i64 0)).set hcl w.heap.size 6 (ZX _) (.int .i64 (co:Int))).set hcl w.heap.size 7 (ZX _) (.int .i64 (ro:Int))).set hcl w.heap.size 8 (ZX _) (.string t));go_wp2_with fail
 refine Zb (YL rfl _ _ w.heap.size 31 #[(4:Int),A,X,C,D,oz,(co:Int),(ro:Int),t] (0,0) _ rfl HB.out underlying31 rfl (by kernel_rfl)) rfl ?_;exact ⟨rfl,HF.out.cur,HF.out.mv⟩
end Go.Proofs.YtbklfkpjoinofaaGreatDoor
