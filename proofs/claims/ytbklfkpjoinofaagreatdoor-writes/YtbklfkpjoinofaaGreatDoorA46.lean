import Derived.Test.YtbklfkpjoinofaaGreatDoorA45
import Derived.Test.YtbklfkpjoinofaaGreatDoorA36
set_option linter.all false
set_option maxRecDepth 100000
set_option maxHeartbeats 8000000
namespace Go.Proofs.YtbklfkpjoinofaaGreatDoor
open Go.RowKit Go.Proofs.Tryz
def St.dead:St:={St.new with cl:=true}
theorem St.dead_ok:St.dead.ok:=⟨by decide,by decide,by decide,fun e=>by simp [St.dead,St.new] at e,by decide,fun _=>rfl,fun _=>rfl⟩
theorem RW.dead {B yb:Nat} {w:World} (hB:B<=yb) (hb:w.heap[yb]? =some (.cells #[.string ⟨#[]⟩,.slice none 0 0,.slice none 0 0,false,oz,oz,oz,oz,oz,oz,oz,oz,.string ⟨#[]⟩,oz,oz,true] 33 (0,0))):RW B yb St.dead w (cC yb):=by
 have hn:∀ k,ob (.slice none 0 0) k->False:=fun k e=>by simp [ob,Value.ownBlock] at e
 have hlt:yb < w.heap.size:=by
  obtain ⟨h,_⟩:=XA.1 hb;exact h
 refine ⟨[],.slice none 0 0,.slice none 0 0,rfl,cC yb,fun _=>False,⟨rfl,hB,hlt,?_,fun o=>cD hb⟩,?_,fun k _ e=>e,funext fun k=>propext ⟨.inl,fun e=>e.elim id False.elim⟩⟩
 ·intro i v hv;rw [ZL w yb i _ _ (0,0) hb];rw [<-hv, <-Array.getElem?_toList];rfl
 refine ⟨ob (.slice none 0 0),fun _=>False,aW.nil _ _ _ _,?_,fun k e=>(hn k e).elim,funext fun k=>propext ⟨False.elim,fun e=>e.elim (hn k) id⟩⟩;exact ⟨fun _=>False,ob (.slice none 0 0),rfl,aW.nil _ _ _ _,fun k e=>e.elim,funext fun k=>propext ⟨False.elim,fun e=>e.elim id (hn k)⟩⟩
theorem zw (B:Nat) (w:World) (k On W H K A X C D E Co Ro:Int) (t s:ByteArray) (hB:B<=w.heap.size) (ht:bU B w) (hts:t.size<=9223372036854775807) (hss:s.size<=9223372036854775807):
  CP 13 #[.agg #[k,On,W,H,K,A,X,C,D,E,Co,Ro,t,s]] w fun e w'=>e=.returned true/\af w w':=by
 refine vQ w k On W H K A X C D E Co Ro t s ?_;intro wx yb hg hyb hblk;have hnil:∀ wz,QD 47 #[.pointer none] wz (.tuple #[.pointer none,(2:Int)]):=fun wz=>(uR wz).mono fun e w' hh=>⟨hh.1,0,hh.2⟩
 have hnil2:∀ wz,QD 77 #[.pointer none] wz (.tuple #[.pointer none,(2:Int)]):=fun wz=>oD wz 2 (by decide) (hnil wz)
 have cok:=St.dead_ok;have hRW0:RW B yb St.dead wx (cC yb):=RW.dead (ZN hB hyb) hblk;have hRW:∀ w1,Below wx wx w1->RW B yb St.dead w1 (cC yb):=fun w1 hq=>hRW0.on hq
 have hBx:B<=wx.heap.size:=ZN hB hg.size;have hB1:∀ w1,Below wx wx w1->B<=w1.heap.size:=fun w1 hq=>ZN hBx hq.size
 have hT1:∀ w1,Below wx wx w1->bU B w1:=fun w1 hq=>(ht.on (hg.mono hB)).on (hq.mono hBx)
 by_cases hk:k < 1\/9 < k
 ·refine (yw wx _ _ rfl rfl k On W H K A X C D E Co Ro t s hk).mono ?_;rintro e w' ⟨rfl,hb⟩;exact ⟨0,0,rfl,.inr hk,_,Mv.grow hb (cC yb)⟩
 have hk9:k=1\/k=2\/k=3\/k=4\/k=5\/k=6\/k=7\/k=8\/k=9:=by omega
 rcases hk9 with rfl | rfl | rfl | rfl | rfl | rfl | rfl | rfl | rfl
 ·refine xI wx _ _ rfl rfl On W H K A X C D E Co Ro t s (fun n w1=>n=2/\Below wx wx w1) _ ?_ ?_ ?_
  ·intro wz hz;refine (x' wz W H 2 (by decide) (hnil wz)).mono ?_;rintro e w' ⟨rfl,q,rfl⟩;have hb2:=ay wz q;exact ⟨2,rfl,⟨rfl,hz.trans (hb2.mono hz.size)⟩,aM.of hb2⟩
  ·rintro n w1 w2 ⟨rfl,h1⟩ h2;exact ⟨rfl,h1.trans (YY h2 h1.size)⟩
  ·rintro n w1 ⟨rfl,hq⟩;refine (nB B yb _ w1 (cC yb) W H cok (hB1 w1 hq) (hRW w1 hq)).mono ?_;rintro e w' ⟨rfl,S',_,m⟩;exact ⟨_,rfl,2,_,rfl,.inl rfl,S',(Mv.grow hq (cC yb)).trans m⟩
 ·refine yP wx _ _ rfl rfl On W H K A X C D E Co Ro t s (fun n w1=>n=2/\Below wx wx w1) _ ?_ ?_ ?_
  ·intro wz hz;refine (rM wz K A X C D E Co Ro t 2 (by decide) (fun wv _=>hnil2 wv)).mono ?_;rintro e w' ⟨rfl,hb⟩;have hb2:=hb;exact ⟨2,rfl,⟨rfl,hz.trans (hb2.mono hz.size)⟩,aM.of hb2⟩
  ·rintro n w1 w2 ⟨rfl,h1⟩ h2;exact ⟨rfl,h1.trans (YY h2 h1.size)⟩
  ·rintro n w1 ⟨rfl,hq⟩;refine (pm B yb _ w1 (cC yb) (bj.mk K A X C D E Co Ro t) hts cok (hB1 w1 hq) (hT1 w1 hq) (hRW w1 hq)).mono ?_;rintro e w' ⟨rfl,S',_,m⟩;exact ⟨_,rfl,2,_,rfl,.inl rfl,S',(Mv.grow hq (cC yb)).trans m⟩
 ·refine xD wx _ _ rfl rfl On W H K A X C D E Co Ro t s (fun n w1=>n=2/\Below wx wx w1) _ ?_ ?_ ?_
  ·intro wz hz;refine (oQ wz K A X C D E Co Ro t 2 (by decide) (fun wv _=>hnil2 wv)).mono ?_;rintro e w' ⟨rfl,hb⟩;have hb2:=hb;exact ⟨2,rfl,⟨rfl,hz.trans (hb2.mono hz.size)⟩,aM.of hb2⟩
  ·rintro n w1 w2 ⟨rfl,h1⟩ h2;exact ⟨rfl,h1.trans (YY h2 h1.size)⟩
  ·rintro n w1 ⟨rfl,hq⟩;refine (mi B yb _ w1 (cC yb) (bj.mk K A X C D E Co Ro t) cok (hB1 w1 hq) (hT1 w1 hq) (hRW w1 hq)).mono ?_;rintro e w' ⟨rfl,S',_,m⟩;exact ⟨_,rfl,2,_,rfl,.inl rfl,S',(Mv.grow hq (cC yb)).trans m⟩
 ·refine xG wx _ _ rfl rfl On W H K A X C D E Co Ro t s (fun n w1=>n=2/\Below wx wx w1) _ ?_ ?_ ?_
  ·intro wz hz;refine (xK wz s 2 (by decide) (hnil wz)).mono ?_;rintro e w' ⟨rfl,q,rfl⟩;have hb2:=ay wz q;exact ⟨2,rfl,⟨rfl,hz.trans (hb2.mono hz.size)⟩,aM.of hb2⟩
  ·rintro n w1 w2 ⟨rfl,h1⟩ h2;exact ⟨rfl,h1.trans (YY h2 h1.size)⟩
  ·rintro n w1 ⟨rfl,hq⟩;refine (o_ B yb _ w1 (cC yb) s hss cok (hB1 w1 hq) (hRW w1 hq)).mono ?_;rintro e w' ⟨rfl,S',_,m⟩;exact ⟨_,rfl,2,_,rfl,.inl rfl,S',(Mv.grow hq (cC yb)).trans m⟩
 ·refine xA wx _ _ rfl rfl On W H K A X C D E Co Ro t s (fun n w1=>n=2/\Below wx wx w1) _ ?_ ?_ ?_
  ·intro wz hz;refine (zj wz s 2 (by decide) (hnil wz)).mono ?_;rintro e w' ⟨rfl,q,rfl⟩;have hb2:=ay wz q;exact ⟨2,rfl,⟨rfl,hz.trans (hb2.mono hz.size)⟩,aM.of hb2⟩
  ·rintro n w1 w2 ⟨rfl,h1⟩ h2;exact ⟨rfl,h1.trans (YY h2 h1.size)⟩
  ·rintro n w1 ⟨rfl,hq⟩;refine (oN B yb _ w1 (cC yb) s hss cok (hB1 w1 hq) (hRW w1 hq)).mono ?_;rintro e w' ⟨rfl,S',_,m⟩;exact ⟨_,rfl,2,_,rfl,.inl rfl,S',(Mv.grow hq (cC yb)).trans m⟩
 ·refine xC wx _ _ rfl rfl On W H K A X C D E Co Ro t s (fun n w1=>n=2/\Below wx wx w1) _ ?_ ?_ ?_
  ·intro wz hz;refine (vS wz s 2 (by decide) (hnil wz)).mono ?_;rintro e w' ⟨rfl,q,rfl⟩;have hb2:=ay wz q;exact ⟨2,rfl,⟨rfl,hz.trans (hb2.mono hz.size)⟩,aM.of hb2⟩
  ·rintro n w1 w2 ⟨rfl,h1⟩ h2;exact ⟨rfl,h1.trans (YY h2 h1.size)⟩
  ·rintro n w1 ⟨rfl,hq⟩;refine (l_ B yb _ w1 (cC yb) s hss (hRW w1 hq)).mono ?_;rintro e w' ⟨rfl,S',_,m⟩;exact ⟨_,rfl,2,_,rfl,.inl rfl,S',(Mv.grow hq (cC yb)).trans m⟩
 ·refine pF wx _ _ rfl rfl On W H K A X C D E Co Ro t s (fun n w1=>n=2/\Below wx wx w1) _ ?_ ?_ ?_
  ·intro wz hz;refine (vr wz 2 (by decide) (hnil wz)).mono ?_;rintro e w' ⟨rfl,q,rfl⟩;have hb2:=ay wz q;exact ⟨2,rfl,⟨rfl,hz.trans (hb2.mono hz.size)⟩,aM.of hb2⟩
  ·rintro n w1 w2 ⟨rfl,h1⟩ h2;exact ⟨rfl,h1.trans (YY h2 h1.size)⟩
  ·rintro n w1 ⟨rfl,hq⟩;refine (h_ B yb _ w1 (cC yb) (hRW w1 hq)).mono ?_;rintro e w' ⟨rfl,S',_,m⟩;exact ⟨_,rfl,2,_,rfl,.inl rfl,S',(Mv.grow hq (cC yb)).trans m⟩
 ·refine sJ wx _ _ rfl rfl On W H K A X C D E Co Ro t s (fun n w1=>n=2/\Below wx wx w1) _ ?_ ?_ ?_
  ·intro wz hz;refine (mB wz _ 2 (by decide) (hnil2 wz)).mono ?_;rintro e w' ⟨rfl,q,rfl⟩;have hb2:=ay wz q;exact ⟨2,rfl,⟨rfl,hz.trans (hb2.mono hz.size)⟩,aM.of hb2⟩
  ·rintro n w1 w2 ⟨rfl,h1⟩ h2;exact ⟨rfl,h1.trans (YY h2 h1.size)⟩
  ·rintro n w1 ⟨rfl,hq⟩;refine (nA B yb _ w1 (cC yb) (hRW w1 hq)).mono ?_;rintro e w' ⟨rfl,S',_,m⟩;exact ⟨_,rfl,2,_,rfl,.inl rfl,S',(Mv.grow hq (cC yb)).trans m⟩
 ·refine yI wx _ _ rfl rfl On W H K A X C D E Co Ro t s (fun n w1=>n=2/\Below wx wx w1) _ ?_ ?_ ?_
  ·intro wz hz;refine (wM wz 2 (by decide) (hnil wz)).mono ?_;rintro e w' ⟨rfl,q,rfl⟩;have hb2:=ay wz q;exact ⟨2,rfl,⟨rfl,hz.trans (hb2.mono hz.size)⟩,aM.of hb2⟩
  ·rintro n w1 w2 ⟨rfl,h1⟩ h2;exact ⟨rfl,h1.trans (YY h2 h1.size)⟩
  ·rintro n w1 ⟨rfl,hq⟩;refine (mX B yb _ w1 (cC yb) (hRW w1 hq)).mono ?_;rintro e w' ⟨rfl,S',_,m⟩;exact ⟨_,rfl,2,_,rfl,.inl rfl,S',(Mv.grow hq (cC yb)).trans m⟩
end Go.Proofs.YtbklfkpjoinofaaGreatDoor
