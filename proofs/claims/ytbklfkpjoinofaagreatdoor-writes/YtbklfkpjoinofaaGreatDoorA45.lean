import Derived.Test.YtbklfkpjoinofaaGreatDoorA25
set_option linter.all false
set_option maxRecDepth 100000
set_option maxHeartbeats 8000000
namespace Go.Proofs.YtbklfkpjoinofaaGreatDoor
open Go.RowKit Go.Proofs.Tryz
structure zy where
 (k On W H K A' X C D E Co Ro:Int)
 (t s:ByteArray)
def zy.cs:zy->List Value
 | ⟨k,On,W,H,K,A',X,C,D,E,Co,Ro,t,s⟩=>[.int .i64 k,.int .i64 On,.int .i64 W,.int .i64 H,.int .i64 K,.int .i64 A',.int .i64 X,.int .i64 C,.int .i64 D,.int .i64 E,.int .i64 Co,.int .i64 Ro,.string t,.string s]
def cS (w:World) (lim:Int):World:=((fU w lim).alloc (.cells #[.string ⟨#[]⟩,.slice none 0 0,.slice none 0 0,false,oz,oz,oz,oz,oz,oz,oz,oz,.string ⟨#[]⟩,oz,oz,false] 33)).alloc (.cells #[zp (w.heap.size+4),zp (w.heap.size+5)] 35)
theorem rl (w:World) (a0:Option Addr) (len cap b off:Nat) (sc:Nat->zy) (hm:len<=maxLen) (ha:0 < len->a0=some ⟨b,off,none⟩) (hOn:∀ i,i < len->-9223372036854775808<=(sc i).On) (I:World->Prop) (A:World->Nat->World->Prop)
  (h0:I (cS (cS w (-1)) (-5)))
  (FI:Hid (∀ wx,I wx->((w.heap.size+6) < wx.heap.size/\∀ (j:Nat) u,([.pointer (some ⟨w.heap.size+4,0,none⟩),.pointer (some ⟨w.heap.size+5,0,none⟩)]:List Value)[j]? =some u->wx.cell? (zq (w.heap.size+6) (0+j))=some u)/\((w.heap.size+13) < wx.heap.size/\∀ (j:Nat) u,([.pointer (some ⟨w.heap.size+11,0,none⟩),.pointer (some ⟨w.heap.size+12,0,none⟩)]:List Value)[j]? =some u->wx.cell? (zq (w.heap.size+13) (0+j))=some u)/\∀ i,i < len->b < wx.heap.size/\∀ (j:Nat) u,(sc i).cs[j]? =some u->wx.cell? (zq b (off+i*14+j))=some u))
  (H1:Hid (∀ wx i,I wx->i < len->∀ wy,af wx wy->CP 12 #[.agg #[.pointer (some ⟨w.heap.size+4,0,none⟩),.pointer (some ⟨w.heap.size+5,0,none⟩)],.agg (sc i).cs.toArray] wy fun e w'=>e=.returned true/\I w'))
  (H2:Hid (∀ wx i,I wx->i < len->∀ wy,af wx wy->CP 12 #[.agg #[.pointer (some ⟨w.heap.size+11,0,none⟩),.pointer (some ⟨w.heap.size+12,0,none⟩)],.agg (sc i).cs.toArray] wy fun e w'=>e=.returned true/\I w'))
  (H3:Hid (∀ wx i,I wx->i < len->CP 13 #[.agg (sc i).cs.toArray] wx fun e w'=>e=.returned true/\I w'))
  (hA:Hid (∀ wx,I wx->A wx 0 (cS wx (-1))))
  (FA:Hid (∀ wx n wy,A wx n wy->wy.cell? (zp (wx.heap.size+6))=some (.pointer (some ⟨wx.heap.size+4,0,none⟩))/\wy.cell? (zq (wx.heap.size+6) 1)=some (.pointer (some ⟨wx.heap.size+5,0,none⟩))))
  (HA0:Hid (∀ wx wy,A wx 0 wy->CP 12 #[.agg #[.pointer (some ⟨wx.heap.size+4,0,none⟩),.pointer (some ⟨wx.heap.size+5,0,none⟩)],.agg #[(1:Int),(0:Int),(5000:Int),(7000:Int),(0:Int),(0:Int),(0:Int),(0:Int),(0:Int),(0:Int),(0:Int),(0:Int),.string ⟨#[]⟩,.string ⟨#[]⟩]] wy fun e w'=>e=.returned true/\A wx 1 w'))
  (HA1:Hid (∀ wx wy,A wx 1 wy->CP 12 #[.agg #[.pointer (some ⟨wx.heap.size+4,0,none⟩),.pointer (some ⟨wx.heap.size+5,0,none⟩)],.agg #[(2:Int),(0:Int),(0:Int),(0:Int),(1:Int),(0:Int),(0:Int),(12000:Int),(0:Int),(0:Int),(0:Int),(0:Int),.string ⟨#[97,40,98]⟩,.string ⟨#[]⟩]] wy fun e w'=>e=.returned true/\A wx 2 w'))
  (HA2:Hid (∀ wx wy,A wx 2 wy->CP 12 #[.agg #[.pointer (some ⟨wx.heap.size+4,0,none⟩),.pointer (some ⟨wx.heap.size+5,0,none⟩)],.agg #[(8:Int),(0:Int),(0:Int),(0:Int),(0:Int),(0:Int),(0:Int),(0:Int),(0:Int),(0:Int),(0:Int),(0:Int),.string ⟨#[]⟩,.string ⟨#[]⟩]] wy fun e w'=>e=.returned true/\A wx 3 w'))
  (HA3:Hid (∀ wx wy,A wx 3 wy->CP 12 #[.agg #[.pointer (some ⟨wx.heap.size+4,0,none⟩),.pointer (some ⟨wx.heap.size+5,0,none⟩)],.agg #[(9:Int),(0:Int),(0:Int),(0:Int),(0:Int),(0:Int),(0:Int),(0:Int),(0:Int),(0:Int),(0:Int),(0:Int),.string ⟨#[]⟩,.string ⟨#[]⟩]] wy fun e w'=>e=.returned true/\A wx 4 w'))
  :CP 3 #[.slice a0 len cap] w fun e w'=>e=.returned true/\∃ wx,A wx 4 w':=by
 unfold maxLen at hm;have HN1:=aa (qe w (-1));obtain ⟨w1,hw1⟩:∃ w1,w1=cS w (-1):=⟨_,rfl⟩;obtain ⟨w2,hw2⟩:∃ w2,w2=cS w1 (-5):=⟨_,rfl⟩;have z1:w1.heap.size=w.heap.size+7:=by rw [hw1];simp [cS,fU]
 have z2:w2.heap.size=w.heap.size+14:=by rw [hw2];simp [cS,fU,z1]
 have zn1:(fU w (-1)).heap.size=w.heap.size+5:=by simp [fU]
 have zn2:(fU w1 (-5)).heap.size=w.heap.size+12:=by simp [fU,z1]
 rw [<-hw1, <-hw2] at h0;obtain ⟨⟨hl1,q1⟩,⟨hl2,q2⟩,_⟩:=FI.out w2 h0;have c10:=q1 0 _ rfl;have c20:=q2 0 _ rfl;clear q1 q2;have HW1:Hid (w1=((fU w (-1)).alloc (.cells #[.string ⟨#[]⟩,.slice none 0 0,.slice none 0 0,false,oz,oz,oz,oz,oz,oz,oz,oz,.string ⟨#[]⟩,oz,oz,false] 33)).alloc (.cells #[zp (w.heap.size+4),zp (w.heap.size+5)] 35)):=hw1;have HW2:Hid (w2=((fU w1 (-5)).alloc (.cells #[.string ⟨#[]⟩,.slice none 0 0,.slice none 0 0,false,oz,oz,oz,oz,oz,oz,oz,oz,.string ⟨#[]⟩,oz,oz,false] 33)).alloc (.cells #[zp (w.heap.size+11),zp (w.heap.size+12)] 35)):=by
  show w2=_
  rw [hw2];unfold cS;rw [z1]
 have HN2:Hid (CP 10 #[(-5:Int)] w1 fun e w'=>e=.returned (zp (w.heap.size+11))/\w'=fU w1 (-5)):=by
  have:=qe w1 (-5);rw [z1] at this;exact this
 have h00:=aa h0;clear hw1 hw2 h0;go_enter func3,ntmps3
 go_wp2_with fail
 refine HN1.out.mono ?_;rintro e wn ⟨rfl,hwn⟩;rw [<-hwn] at zn1 HW1;clear hwn HN1;go_wp2_with fail
 rw [<-HW1.out];refine HN2.out.mono ?_;rintro e wm ⟨rfl,hwm⟩;rw [<-hwm] at zn2 HW2;rw [HW2.out] at c10 c20;clear hwm HN2;go_wp2_with fail
 rw [<-HW2.out];have hZ2:=aa z2;clear HW1 HW2 c10 c20 zn1 zn2 z1 z2 hl1 hl2;go_loopg [5,6,7] (len+1) (fun gg ix _ _ wr=>∃ i:Nat,i<=len/\len - i < gg/\ix=.int .i64 (i:Int)/\I wr)
 case atStart=>exact ⟨0,by omega,by omega,rfl,h00.out⟩
 case round=>
  obtain ⟨i,hi,hgk,rfl,hI⟩:=hrel;clear h00;by_cases hlt:i < len
  ·have hae:=ha (by omega);subst hae;have ho:=hOn i hlt;obtain ⟨fo1,fo2,fs⟩:=FI.out wr hI;have fs:=fs i hlt;have G1:=aa (H1.out wr i hI hlt);have G2:=aa (H2.out wr i hI hlt);have G3:=aa (H3.out wr i hI hlt);obtain ⟨st,hst⟩:∃ st,st=sc i:=⟨_,rfl⟩;rw [<-hst] at ho fs G1 G2 G3;clear H1 H2 H3 FI FA HA0 HA1 HA2 HA3 hA hI hOn ha hst;obtain ⟨k,On,W,H,K,A',X,C,D,E,Co,Ro,t,s⟩:=st;simp only [zy.cs] at fs G1 G2 G3;have FO1:=aa fo1;have FO2:=aa fo2;have FS:=aa fs;have c1:wr.cell? (zq b (off+i*14+1))=On:=FS.out.2 1 _ rfl;have HP:=aa (xE wr On ho);clear fo1 fo2 fs ho;go_wp2_with fail
   refine HP.out.mono ?_;rintro e wp ⟨⟨n,hn0,hn3,rfl⟩,rfl⟩;clear HP c1;by_cases n0:n=0
   ·subst n0;have FO:=FO1;clear FO1 FO2 G2 G3 hn0 hn3;go_wp2_with fail
    refine ap 5 _ (ag [.agg #[.pointer (some ⟨w.heap.size+4,0,none⟩),.pointer (some ⟨w.heap.size+5,0,none⟩)],.slice (zq b off) len cap,(i:Int),zq b (off+i*14),.agg #[k,On,W,H,K,A',X,C,D,E,Co,Ro,t,s]]) (by kernel_rfl) rfl (by kernel_rfl) aq ?_;simp only [TD];refine ⟨fun w1 hG hd=>?_,fun v0=>?_⟩
    ·clear hd;refine wpList_load_mid rfl 35 (.tmp 3) rfl (w.heap.size+6) 0 rfl [.pointer (some ⟨w.heap.size+4,0,none⟩),.pointer (some ⟨w.heap.size+5,0,none⟩)] _ (fun j u hj=>(hG.cell (p:=zq (w.heap.size+6) (0+j)) FO.out.1).trans (FO.out.2 j u hj)) underlying35 rfl (by kernel_rfl) ?_;refine Zq ?_;exact ⟨rfl,rfl,rfl,af.refl _⟩
    simp only [TN]
    iterate 3
     refine ⟨fun w1 hG hd=>?_,fun v=>?_⟩
     ·try (have d:=hd _ ⟨ZM _⟩ rfl;simp only [ag,GD] at d;subst d)
      try (have d:=hd _ ⟨.tail _ (.head _)⟩ rfl;simp only [ag,GD] at d;subst d)
      clear hd;go_wp2;exact RG
     simp only [TN]
    refine ⟨fun w1 hG hd=>?_,fun v4=>?_⟩
    ·have d3:=hd ⟨3,.data⟩ (by simp) rfl;simp only [ag,GD] at d3;clear hd;subst d3;refine wpList_load_mid rfl 38 (.tmp 52) rfl b (off+i*14) rfl [.int .i64 k,.int .i64 On,.int .i64 W,.int .i64 H,.int .i64 K,.int .i64 A',.int .i64 X,.int .i64 C,.int .i64 D,.int .i64 E,.int .i64 Co,.int .i64 Ro,.string t,.string s] _ (fun j u hj=>(hG.cell (p:=zq b (off+i*14+j)) FS.out.1).trans (FS.out.2 j u hj)) underlying38 rfl (by kernel_rfl) ?_;refine Zq ?_;exact ⟨rfl,rfl,rfl,af.refl _⟩
    simp only [TN];intro w7 hG hd;have d0:=hd 0 (by omega);have d4:=hd 4 (by omega);simp only [ag,GD] at d0 d4;subst d0 d4;have HX:=aa (G1.out w7 hG);clear hd hG FO FS;go_wp2_with fail
    refine HX.out.mono ?_;rintro e w8 ⟨rfl,hI8⟩;clear HX;go_wp2_with fail
    go_roundg (gk - 1)
    case measure=>omega
    case rel=>exact ⟨i+1,by omega,by omega,by first | rfl | (congr 1;done) | (congr 1;omega),hI8⟩
   ·by_cases n1:n=1
    ·subst n1;have FO:=FO2;clear FO1 FO2 G1 G3 hn0 hn3;go_wp2_with fail
     refine ap 5 _ (ag [.agg #[.pointer (some ⟨w.heap.size+11,0,none⟩),.pointer (some ⟨w.heap.size+12,0,none⟩)],.slice (zq b off) len cap,(i:Int),zq b (off+i*14),.agg #[k,On,W,H,K,A',X,C,D,E,Co,Ro,t,s]]) (by kernel_rfl) rfl (by kernel_rfl) aq ?_;simp only [TD];refine ⟨fun w1 hG hd=>?_,fun v0=>?_⟩
     ·clear hd;refine wpList_load_mid rfl 35 (.tmp 4) rfl (w.heap.size+13) 0 rfl [.pointer (some ⟨w.heap.size+11,0,none⟩),.pointer (some ⟨w.heap.size+12,0,none⟩)] _ (fun j u hj=>(hG.cell (p:=zq (w.heap.size+13) (0+j)) FO.out.1).trans (FO.out.2 j u hj)) underlying35 rfl (by kernel_rfl) ?_;refine Zq ?_;exact ⟨rfl,rfl,rfl,af.refl _⟩
     simp only [TN]
     iterate 3
      refine ⟨fun w1 hG hd=>?_,fun v=>?_⟩
      ·try (have d:=hd _ ⟨ZM _⟩ rfl;simp only [ag,GD] at d;subst d)
       try (have d:=hd _ ⟨.tail _ (.head _)⟩ rfl;simp only [ag,GD] at d;subst d)
       clear hd;go_wp2;exact RG
      simp only [TN]
     refine ⟨fun w1 hG hd=>?_,fun v4=>?_⟩
     ·have d3:=hd ⟨3,.data⟩ (by simp) rfl;simp only [ag,GD] at d3;clear hd;subst d3;refine wpList_load_mid rfl 38 (.tmp 60) rfl b (off+i*14) rfl [.int .i64 k,.int .i64 On,.int .i64 W,.int .i64 H,.int .i64 K,.int .i64 A',.int .i64 X,.int .i64 C,.int .i64 D,.int .i64 E,.int .i64 Co,.int .i64 Ro,.string t,.string s] _ (fun j u hj=>(hG.cell (p:=zq b (off+i*14+j)) FS.out.1).trans (FS.out.2 j u hj)) underlying38 rfl (by kernel_rfl) ?_;refine Zq ?_;exact ⟨rfl,rfl,rfl,af.refl _⟩
     simp only [TN];intro w7 hG hd;have d0:=hd 0 (by omega);have d4:=hd 4 (by omega);simp only [ag,GD] at d0 d4;subst d0 d4;have HX:=aa (G2.out w7 hG);clear hd hG FO FS;go_wp2_with fail
     refine HX.out.mono ?_;rintro e w8 ⟨rfl,hI8⟩;clear HX;go_wp2_with fail
     go_roundg (gk - 1)
     case measure=>omega
     case rel=>exact ⟨i+1,by omega,by omega,by first | rfl | (congr 1;done) | (congr 1;omega),hI8⟩
    ·have n2:n=2:=by omega
     subst n2;clear FO1 FO2 G1 G2 hn0 hn3 n0 n1;go_wp2_with (refine wpList_load_mid rfl 38 (.tmp 44) rfl b (off+i*14) rfl [.int .i64 k,.int .i64 On,.int .i64 W,.int .i64 H,.int .i64 K,.int .i64 A',.int .i64 X,.int .i64 C,.int .i64 D,.int .i64 E,.int .i64 Co,.int .i64 Ro,.string t,.string s] _ FS.out.2 underlying38 rfl (by kernel_rfl) ?_)
     refine G3.out.mono ?_;rintro e w8 ⟨rfl,hI8⟩;clear G3 FS;go_wp2_with fail
     go_roundg (gk - 1)
     case measure=>omega
     case rel=>exact ⟨i+1,by omega,by omega,by first | rfl | (congr 1;done) | (congr 1;omega),hI8⟩
  ·have d1:decide ((i:Int) < (len:Int))=false:=by simp;omega
   have hAA:=aa (hA.out wr hI);have HN:=aa (qe wr (-1));have hzn:(fU wr (-1)).heap.size=wr.heap.size+5:=by simp [fU]
   obtain ⟨w5,hw5⟩:∃ w5,w5=cS wr (-1):=⟨_,rfl⟩;have HW5:Hid (w5=((fU wr (-1)).alloc (.cells #[.string ⟨#[]⟩,.slice none 0 0,.slice none 0 0,false,oz,oz,oz,oz,oz,oz,oz,oz,.string ⟨#[]⟩,oz,oz,false] 33)).alloc (.cells #[zp (wr.heap.size+4),zp (wr.heap.size+5)] 35)):=hw5;rw [<-hw5] at hAA;clear H1 H2 H3 FI hA hI hOn ha hw5;go_wp2_with fail
   refine HN.out.mono ?_;rintro e wm ⟨rfl,hwm⟩;rw [<-hwm] at hzn HW5;clear hwm HN;have f:=FA.out wr 0 w5 hAA.out;rw [HW5.out] at f;obtain ⟨fa,fb⟩:=f;go_wp2_with fail
   rw [<-HW5.out];clear HW5 fa fb hzn;refine (HA0.out wr w5 hAA.out).mono ?_;rintro e w6 ⟨rfl,hA6⟩;clear hAA;obtain ⟨fa,fb⟩:=FA.out wr 1 w6 hA6;have hAA:=aa hA6;clear hA6;go_wp2_with fail
   refine (HA1.out wr w6 hAA.out).mono ?_;rintro e w7 ⟨rfl,hA7⟩;clear hAA fa fb;obtain ⟨fa,fb⟩:=FA.out wr 2 w7 hA7;have hAA:=aa hA7;clear hA7;go_wp2_with fail
   refine (HA2.out wr w7 hAA.out).mono ?_;rintro e w8 ⟨rfl,hA8⟩;clear hAA fa fb;obtain ⟨fa,fb⟩:=FA.out wr 3 w8 hA8;have hAA:=aa hA8;clear hA8;go_wp2_with fail
   refine (HA3.out wr w8 hAA.out).mono ?_;rintro e w9 ⟨rfl,hA9⟩;clear hAA fa fb;have hAA:Hid (∃ wx,A wx 4 w9):=⟨_,hA9⟩;clear hA9 FA HA0 HA1 HA2 HA3;go_wp2_with fail
   first
    | (go_ret;exact ⟨rfl,hAA.out⟩)
    | exact ⟨rfl,hAA.out⟩
end Go.Proofs.YtbklfkpjoinofaaGreatDoor
