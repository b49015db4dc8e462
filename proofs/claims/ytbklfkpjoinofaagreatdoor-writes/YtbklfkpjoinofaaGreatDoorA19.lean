import Derived.Test.YtbklfkpjoinofaaGreatDoorA14
import Derived.Test.YtbklfkpjoinofaaGreatDoorA06
set_option linter.all false
set_option maxRecDepth 100000
set_option maxHeartbeats 8000000
namespace Go.Proofs.YtbklfkpjoinofaaGreatDoor
open Go.RowKit Go.Proofs.Tryz
theorem tH (l m:List UInt8):bH (l++m)=bH l++bH m:=by
 induction l with
 | nil=>rfl
 | cons c r ih=>simp only [Zy,bH,ih,ZQ]
theorem AY {s:ByteArray} {a k:Nat} {l:List UInt8} (hk:k < l.length) (hg:au s a (bH l++[41])):au s (a+(bH (l.take k)).length) (eS l[k]++(bH (l.drop (k+1))++[41])):=by
 have e:l=l.take k++(l[k]::l.drop (k+1)):=by rw [<-YZ hk,YI]
 rw [e,tH,ZQ,bH,ZQ] at hg;have:=hg.right;simpa using this
theorem zK (n:Nat) (h:n < 256):bits BinOp.and .i64 (n:Int) 255=(n:Int):=by
 have:∀ m:Fin 256,bits BinOp.and .i64 (m.val:Int) 255=(m.val:Int):=by decide+kernel
 exact this ⟨n,h⟩
theorem yG (w:World) (y:UInt8):(convert 66 9 (.slice w 1 1)).run prog (w.alloc (.cells #[.int .u8 (y.toNat:Int)] 5))=.ok (.string ⟨#[y]⟩) (w.alloc (.cells #[.int .u8 (y.toNat:Int)] 5)):=by
 refine Yf _ 66 9 5 ⟨w,0,none⟩ 1 [y] underlying66 underlying5 underlying9 ?_;intro j hj
 match j,hj with
 | 0,_=>simp [Addr.add]
theorem cU {B:Nat} {w w':World} {n:Nat} (h:Below B w w'):Below B w (w'.drewN n):=⟨h.os,h.tape,h.output,h.size,h.block⟩
theorem pz (w:World) (B c a a1 a2:Nat) (s:ByteArray) (S:Bl) (l:List UInt8) (h:aZ B c s a w S) (hs:s.size<=2000000000) (hl:l.length<=10000)
  (HG:Hid (au s a1 (bH l++[41]))) (HA1:Hid (a1=a+1)) (HA2:Hid (a2=a1+(bH l).length+1)) (ha2:a2<=s.size) (haa:a<=a2)
  (H1:Hid (∀ wx,aZ B c s a wx S->CP 114 #[zp c,.string ⟨#[40]⟩] wx fun e w'=>e=.returned (.tuple #[])/\aZ B c s a1 w' S/\Mv S wx S w'))
  (H2:Hid (∀ wx p,p+1=a2->aZ B c s p wx S->CP 114 #[zp c,.string ⟨#[41]⟩] wx fun e w'=>e=.returned (.tuple #[])/\aZ B c s a2 w' S/\Mv S wx S w'))
  (H4:Hid (∀ wx,QE 162 #[.string ⟨l.toArray⟩] wx (.string (s.extract a a2)))):
  CP 122 #[zp c] w fun e w'=>e=.returned (.string ⟨l.toArray⟩)/\aZ B c s a2 w' S/\Mv S w S w':=by
 have c0:=h.at 0 _ rfl;have c1:=h.at 1 _ rfl;go_enter func122,ntmps122
 go_wp2_with fail
 refine (H1.out w h).mono ?_;rintro e w1 ⟨rfl,h1,m1⟩;clear c0 c1 h H1;go_wp2_with fail
 go_loopg [4,5,6] (l.length+1) (fun g x _ _ wr=>∃ k p:Nat,∃ acc:List UInt8,k<=l.length/\l.length - k < g/\Hid (p=a1+(bH (l.take k)).length)/\Hid (acc=l.take k)/\acc.length<=k/\x=.string ⟨acc.toArray⟩/\aZ B c s p wr S/\Mv S w S wr)
 case atStart=>exact ⟨0,a1,[],by omega,by omega,rfl,rfl,by simp,rfl,h1,m1⟩
 case round=>
  obtain ⟨k,p,acc,hk,hgk,HP,HAC,hal,rfl,hc,hm⟩:=hrel;clear h1 m1;have c0:=hc.at 0 _ rfl;have c1:=hc.at 1 _ rfl;have c2:=hc.at 2 _ rfl;have f1:=hc.fz 1;have hasz:(⟨acc.toArray⟩:ByteArray).size<=k:=by simp [ByteArray.size];exact hal
  by_cases hlt:k < l.length
  ·have hge:=AY hlt HG.out;rw [<-HP.out] at hge;obtain ⟨y,hy⟩:∃ y,l[k]=y:=⟨_,rfl⟩;rw [hy] at hge;have HAN:Hid (acc++[y]=l.take (k+1)):=by
    show _=_
    rw [ZH hlt,HAC.out,hy]
   have HPN:Hid (p+(eS y).length=a1+(bH (l.take (k+1))).length):=by
    show _=_
    rw [ZH hlt,iU,hy,ZZ,HP.out];omega
   clear hy;have hyn:=y.toNat_lt;by_cases h1:y.toNat < 32\/126 < y.toNat
   ·have he:eS y=[92,UInt8.ofNat (48+y.toNat / 64),UInt8.ofNat (48+y.toNat / 8 % 8),UInt8.ofNat (48+y.toNat % 8)]:=by unfold eS;rw [ZO h1]
    rw [he] at hge HPN;obtain ⟨z1,hz1,e1⟩:∃ z1,z1=UInt8.ofNat (48+y.toNat / 64)/\z1.toNat=48+y.toNat / 64:=⟨_,rfl,fG _ (by omega)⟩;obtain ⟨z2,hz2,e2⟩:∃ z2,z2=UInt8.ofNat (48+y.toNat / 8 % 8)/\z2.toNat=48+y.toNat / 8 % 8:=⟨_,rfl,fG _ (by omega)⟩;obtain ⟨z3,hz3,e3⟩:∃ z3,z3=UInt8.ofNat (48+y.toNat % 8)/\z3.toNat=48+y.toNat % 8:=⟨_,rfl,fG _ (by omega)⟩;rw [<-hz1, <-hz2, <-hz3] at hge;have hle4:p+4<=s.size:=by have:=hge.le;simp at this;omega
    obtain ⟨hpl,hbp⟩:=hge.byte;obtain ⟨hpl1,hbp1⟩:=hge.cons.byte;obtain ⟨hpl2,hbp2⟩:∃ hl:p+2 < s.size,s[p+2]=z2:=hge.cons.cons.byte;obtain ⟨hpl3,hbp3⟩:∃ hl:p+3 < s.size,s[p+3]=z3:=hge.cons.cons.cons.byte;have d1:decide ((p:Int) < (s.size:Int))=true:=by simp;omega
    have d2:decide ((p:Int)+1 < (s.size:Int))=true:=by simp;omega
    have d3:decide ((z1.toNat:Int) < 48)=false:=by simp;omega
    have d4:decide (55 < (z1.toNat:Int))=false:=by simp;omega
    have d3':decide (z1.toNat < 48)=false:=by simp;omega
    have d4':decide (55 < z1.toNat)=false:=by simp;omega
    have d3'':¬ z1.toNat < 48:=by omega
    have d4'':¬ 55 < z1.toNat:=by omega
    have d5:decide ((s.size:Int) < (p:Int)+4)=false:=by simp;omega
    have hyv:64*z1.toNat+8*z2.toNat+z3.toNat=3504+y.toNat:=by omega
    have g1:z1.toNat<=57:=by omega
    have g2:z2.toNat<=57:=by omega
    have g3:z3.toNat<=57:=by omega
    have HY:=aa hyv;clear hge he h1 hz1 hz2 hz3 e1 e2 e3 hyv;go_wp2_with fail
    go_quiet (fail)
    revert nq;intro n1;go_wp2_with fail
    go_quiet (fail)
    revert nq;intro n2;go_wp2_with fail
    go_quiet (fail)
    revert nq;intro n3;go_wp2_with fail
    go_quiet (fail)
    revert nq;intro n4;go_wp2_with fail
    have i2:decide ((p:Int)+2 < (s.size:Int))=true:=by simp;omega
    have i3:decide ((p:Int)+3 < (s.size:Int))=true:=by simp;omega
    have j2:(p:Int)+2 < (s.size:Int):=by omega
    have j3:(p:Int)+3 < (s.size:Int):=by omega
    have k2:(0:Int)<=(p:Int)+2:=by omega
    have k3:(0:Int)<=(p:Int)+3:=by omega
    go_quiet (fail)
    revert nq;intro n5;have ev:64*(z1.toNat:Int)+8*(z2.toNat:Int)+(z3.toNat:Int) - 3504=(y.toNat:Int):=by have:=HY.out;omega
    have hbits:=zK y.toNat hyn;have hmod:(y.toNat:Int) % 256=(y.toNat:Int):=by omega
    have hconv:∀ q,(convert 66 9 (.slice wr 1 1)).run prog ((wr.drewN q).alloc (.cells #[.int .u8 (y.toNat:Int)] 5))=.ok (.string ⟨#[y]⟩) ((wr.drewN q).alloc (.cells #[.int .u8 (y.toNat:Int)] 5)):=fun q=>yG (wr.drewN q) y
    have hq:aZ B c s p ((wr.drewN (n1+n2+n3+n4+n5)).alloc (.cells #[.int .u8 (y.toNat:Int)] 5)) S:=(aS.thing B c _).alloc (hc.drewN (n1+n2+n3+n4+n5)) _;have e1:=hq.at 1 _ rfl;have ef:=hq.fz 1;rw [ev];clear ev HY g1 g2 g3 hbp hbp1 hbp2 hbp3;go_wp2_with fail
    go_roundg (gk - 1)
    case measure=>omega
    case rel=>
     obtain ⟨g1,m1⟩:=aZ.put hq (z:=(p:Int)+4) (b:=p+4) (by omega);have m0:Mv S wr S ((wr.drewN (n1+n2+n3+n4+n5)).alloc (.cells #[.int .u8 (y.toNat:Int)] 5)):=Mv.grow ((cU (ZV _ wr)).alloc (ZX _) _) S;refine ⟨k+1,p+4,acc++[y],hlt,by omega,HPN,HAN,by simp;omega,?_,g1,hm.trans (m0.trans m1)⟩;refine aT ?_;simp
   ·by_cases h4:y.toNat=40\/y.toNat=41\/y.toNat=92
    ·have he:eS y=[92,y]:=by unfold eS;rw [ZU h1,ZO h4]
     rw [he] at hge HPN;obtain ⟨hpl,hbp⟩:=hge.byte;obtain ⟨hpl1,hbp1⟩:=hge.cons.byte;have HX:=aa (nG s (p+1) hpl1);rw [hbp1] at HX;have d1:decide ((p:Int) < (s.size:Int))=true:=by simp;omega
     have d2:decide ((p:Int)+1 < (s.size:Int))=true:=by simp;omega
     clear hge he h1;have h4':y.toNat < 48\/(¬ y.toNat < 48/\55 < y.toNat):=by omega
     clear h4;rcases h4' with h5 | ⟨h5,h6⟩
     ·have d3:decide ((y.toNat:Int) < 48)=true:=by simp;omega
      go_wp2_with fail
      go_quiet (fail)
      revert nq;intro n1;go_wp2_with fail
      go_quiet (fail)
      revert nq;intro n2;go_wp2_with fail
      go_quiet (fail)
      revert nq;intro n3;go_wp2_with fail
      go_quiet (fail)
      revert nq;intro n4;go_wp2_with fail
      go_roundg (gk - 1)
      case measure=>omega
      case rel=>
       obtain ⟨g1,m1⟩:=(hc.drewN (n1+n2+n3+n4)).put (z:=(p:Int)+2) (b:=p+2) (by omega);refine ⟨k+1,p+2,acc++[y],hlt,by omega,HPN,HAN,by simp;omega,?_,g1,hm.trans (Mv.undrew (q:=n1+n2+n3+n4) m1)⟩;rw [HX.out];refine aT ?_;simp
     ·have d3:decide ((y.toNat:Int) < 48)=false:=by simp;omega
      have d3':decide (y.toNat < 48)=false:=by simp;omega
      have d4:decide (55 < (y.toNat:Int))=true:=by simp;omega
      have d4':decide (55 < y.toNat)=true:=by simp;omega
      go_wp2_with fail
      go_quiet (fail)
      revert nq;intro n1;go_wp2_with fail
      go_quiet (fail)
      revert nq;intro n2;go_wp2_with fail
      go_quiet (fail)
      revert nq;intro n3;go_wp2_with fail
      go_quiet (fail)
      revert nq;intro n4;go_wp2_with fail
      go_roundg (gk - 1)
      case measure=>omega
      case rel=>
       obtain ⟨g1,m1⟩:=(hc.drewN (n1+n2+n3+n4)).put (z:=(p:Int)+2) (b:=p+2) (by omega);refine ⟨k+1,p+2,acc++[y],hlt,by omega,HPN,HAN,by simp;omega,?_,g1,hm.trans (Mv.undrew (q:=n1+n2+n3+n4) m1)⟩;rw [HX.out];refine aT ?_;simp
    ·have he:eS y=[y]:=by unfold eS;rw [ZU h1,ZU h4]
     rw [he] at hge HPN;obtain ⟨hpl,hbp⟩:=hge.byte;have HX:=aa (nG s p hpl);rw [hbp] at HX;have b1:((y.toNat:Int)==41)=false:=by simp;omega
     have b2:((y.toNat:Int)==92)=false:=by simp;omega
     have b3:¬ y.toNat=41:=by omega
     have b4:¬ y.toNat=92:=by omega
     have d1:decide ((p:Int) < (s.size:Int))=true:=by simp;omega
     clear hge he h1 h4;go_wp2_with fail
     go_quiet (fail)
     revert nq;intro n1;go_wp2_with fail
     go_quiet (fail)
     revert nq;intro n2;go_wp2_with fail
     go_quiet (fail)
     revert nq;intro n3;go_wp2_with fail
     go_roundg (gk - 1)
     case measure=>omega
     case rel=>
      obtain ⟨g1,m1⟩:=(hc.drewN (n1+n2+n3)).put (z:=(p:Int)+1) (b:=p+1) (by omega);refine ⟨k+1,p+1,acc++[y],hlt,by omega,HPN,HAN,by simp;omega,?_,g1,hm.trans (Mv.undrew (q:=n1+n2+n3) m1)⟩;rw [HX.out];refine aT ?_;simp
  ·have hkl:k=l.length:=by omega
   subst hkl;have hacc:acc=l:=by rw [HAC.out,XW]
   subst hacc;have hpp:p+1=a2:=by rw [HP.out,HA2.out,XW]
   obtain ⟨hpl,hbp⟩:∃ hl:p < s.size,s[p]=41:=by
    have:=HG.out.right;rw [HP.out,XW];exact this.byte
   have d1:decide ((p:Int) < (s.size:Int))=true:=by simp;omega
   have HC:=aa hc;have HMM:=aa hm;clear HP HAC hgk hk hlt HA2 HG;go_wp2_with fail
   go_quiet (fail)
   revert nq;intro n1;go_wp2_with fail
   refine (H2.out _ p hpp (HC.out.drewN _)).mono ?_;rintro e w3 ⟨rfl,h3,m3⟩;clear c0 c1 c2 f1 hc hm;have c0:=h3.at 0 _ rfl;have c1:=h3.at 1 _ rfl;have c2:=h3.at 2 _ rfl;have HQ:Hid (∀ q,CP 162 #[.string ⟨acc.toArray⟩] (w3.drewN q) fun e w'=>e=.returned (.string (s.extract a a2))/\∃ z,w'=(w3.drewN q).drewN z):=fun q=>(H4.out _).mono (by rintro e w' ⟨rfl,rfl⟩;exact ⟨rfl,0,rfl⟩)
   go_wp2_with fail
   go_quiet ((go_at_call 162;first | exact oS (HQ.out _) | exact Calls.quiet_of (HQ.out _)))
   go_wp2_with fail
   go_ret;exact ⟨rfl,h3.drewN _,(HMM.out.trans (m3.undrew)).drewN _⟩
end Go.Proofs.YtbklfkpjoinofaaGreatDoor
