import Derived.Test.YtbklfkpjoinofaaGreatDoorA03
set_option linter.all false
set_option maxRecDepth 100000
set_option maxHeartbeats 8000000
namespace Go.Proofs.YtbklfkpjoinofaaGreatDoor
open Go.RowKit Go.Proofs.Tryz
theorem RB.new (w:World) (s:ByteArray):RB (w.alloc (.cells #[s,(16:Int),false] 156)) w.heap.size s 16 false:=
 ⟨by simp,by simp,by simp,by simp,by simp⟩
def wS (w0:World) (b:Nat) (s:ByteArray) (res:Option (Nat×List UInt8)) (g:Nat) (u lst:Value) (wr:World):Prop:=
 ∃ q bd o x,RB wr b s q bd/\q<=8*s.size/\gZ wr b u o/\Below b w0 wr/\o.length<=1200000/\lst=.int .i64 (x:Nat)/\x < 2/\
  ((bd=false/\o.length<=1048576/\x=0/\8*s.size+1 - q<=g/\∃ f,8*s.size < q+f/\Pm.bF s.data.toList f q o=res)\/
   (bd=false/\o.length<=1048576/\x=1/\res=some (q,o))\/
   ((bd=true\/1048576 < o.length)/\res=none))
theorem wS.step {w0 w':World} {b:Nat} {s:ByteArray} {res r:Option (Nat×List UInt8)} {g q x:Nat} {o:List UInt8} {v:Value} {wm:World} (he:tF wm b s r v w') (hb:Below b w0 wm) (hx:x < 2) (hg:8*s.size+1 - q<=g) (hqL:q<=8*s.size) (ho:o.length<=1048576)
  (hr:r=none->res=none) (h1:∀ q' o',r=some (q',o')->x=1->res=some (q',o')) (h0:∀ q' o',r=some (q',o')->x=0->q < q'/\∃ f,8*s.size < q'+f/\Pm.bF s.data.toList f q' o'=res):
  wS w0 b s res (g - 1) v (x:Nat) w':=by
 obtain ⟨p',bd',o',hrb,hp',hO',hb',hol',hc⟩:=he;refine ⟨p',bd',o',x,hrb,hp',hO',hb.trans hb',hol',rfl,hx,?_⟩;rcases hc with ⟨rfl,hl,rfl⟩ | ⟨hd,rfl⟩
 ·by_cases hx1:x=1
  ·exact Zo (Zg ⟨rfl,hl,hx1,h1 _ _ rfl hx1⟩)
  ·have hx0:x=0:=by omega
   obtain ⟨hlt,hf⟩:=h0 _ _ rfl hx0;exact Zg ⟨rfl,hl,hx0,by omega,hf⟩
 ·exact Zo (Zo ⟨hd,hr rfl⟩)
theorem pT (w:World) (s:ByteArray) (hs:s.size<=140737488355328) (hh:Pm.cm s.data.toList=true):
  QB 54 #[s] w (zz (Pm.bP s.data.toList)):=by
 have HH:=aa hh;have hlen:s.data.toList.length=s.size:=by simp
 have HL:Hid (8*s.size=8*s.data.toList.length):=by show _=_;rw [hlen]
 unfold Pm.cm at hh;rw [hlen] at hh;simp only [Zt] at hh;obtain ⟨h2,hh0,hh1,hh2⟩:=hh;have h0:0 < s.size:=by omega
 have h1:1 < s.size:=by omega
 rw [fH s 0 h0] at hh0;rw [fH s 1 h1] at hh1 hh2;have q0:(((s[0].toNat:Nat):Int) != 120)=false:=by rw [Yz];omega
 have q1:(((30720:Int)+((s[1].toNat:Nat):Int)) % 31 != 0)=false:=by rw [Yz];omega
 have q2:(((s[1].toNat:Nat):Int) / 32 % 2 != 0)=false:=by rw [Yz];omega
 have b1:s[1].toNat < 256:=s[1].toNat_lt;have w1:=bY s[1];clear hh0 hh1 hh2;have HB:=aa (⟨8*s.size+1,by omega,by rw [HL.out]⟩:∃ f,8*s.size < 16+f/\Pm.bF s.data.toList f 16 []=Pm.bF s.data.toList (8*s.data.toList.length+1) 16 []);have HN:=aa (fun hr=>Pm.rW (l:=s.data.toList) hr);have HS:=aa (fun q o hr=>Pm.iM (l:=s.data.toList) (q:=q) (o:=o) HH.out hr);generalize Pm.bF s.data.toList (8*s.data.toList.length+1) 16 []=res at*;generalize Pm.bP s.data.toList=ans at*;clear HH hlen;have HR0:=aa (RB.new w s);go_enter func54,ntmps54
 go_wp2;clear q0 q1 q2 w1 b1;go_loopg [6,7] (8*s.size+2) (fun g u lst wr=>wS w w.heap.size s res g u lst wr)
 case atStart=>
  refine ⟨16,false,[],0,HR0.out,by omega,gZ.nil _ _ HR0.out.lt,(ZV _ _).alloc (ZX _) _,by simp,rfl,by omega,Zg ⟨rfl,by simp,rfl,by omega,HB.out⟩⟩
 case round=>
  clear HB HR0;obtain ⟨q,bd,o,x,hr,hq,hO,hb,hol,rfl,hx,hcase⟩:=hrel;have c2:=hr.c2;obtain ⟨ad,cap,hform,hnone⟩:=hO.form;subst hform;clear hnone;rcases hcase with ⟨rfl,hlo,rfl,hg,hf⟩ | ⟨rfl,hlo,rfl,hres⟩ | ⟨hd,hres⟩
  ·
   have HF:=aa hf;clear hf;go_wp2_with fail
   refine (io _ _ s q false hr hs hq).mono ?_;rintro e w2 ⟨rfl,hr2,ho2⟩;go_wp2_with fail
   refine (kl w2 _ s _ _ 2 (by omega) hr2 hs (XE _ _)).mono ?_;rintro e w3 ⟨rfl,hr3,ho3⟩;have hO3:=(hO.only ho2).only ho3;have hb3:=(hb.trans (ho2.below hr.lt)).trans (ho3.below hr2.lt);have hX:Pm.am s.data.toList q 1 < 2:=Pm.cJ _ _ 1;have hK:Pm.am s.data.toList (min (q+1) (8*s.size)) 2 < 4:=Pm.cJ _ _ 2;have hP:min (min (q+1) (8*s.size)+2) (8*s.size)<=8*s.size:=XE _ _;clear hr hr2 ho2 ho3 hO hb c2;by_cases hend:8*s.size < q+3
   ·have HE:=aa (Pm.tQ HL.out hq HF.out hend);have e1:(false||decide (8*s.size < q+1)||decide (8*s.size < min (q+1) (8*s.size)+2))=true:=by simp;omega
    rw [e1] at hr3;clear e1 HF;generalize Pm.am s.data.toList (min (q+1) (8*s.size)) 2=K at*;generalize min (min (q+1) (8*s.size)+2) (8*s.size)=P at*;generalize Pm.am s.data.toList q 1=X at*;rcases (show K=0\/K=1\/K=2\/K=3 from by omega) with rfl | rfl | rfl | rfl
    ·go_wp2_with fail
     refine (jt w3 _ s P true _ o hr3 hO3 hlo hs hP).mono ?_;rintro e w4 ⟨v4,rfl,he4⟩;go_wp2;go_roundg (gk - 1)
     case measure=>omega
     case rel=>exact wS.step he4 hb3 hX hg hq hlo (fun _=>HE.out) (fun _ _ h=>by cases h) (fun _ _ h=>by cases h)
    ·go_wp2_with fail
     refine (pE w3 _ s P _ o hr3 hO3).mono ?_;rintro e w4 ⟨rfl,rfl⟩;go_wp2;go_roundg (gk - 1)
     case measure=>omega
     case rel=>exact ⟨P,true,o,X,hr3,hP,hO3,hb3,hol,rfl,hX,Zo (Zo ⟨Zg rfl,HE.out⟩)⟩
    ·have c2:=hr3.c2;have f2:=hr3.f2;go_wp2;go_roundg (gk - 1)
     case measure=>omega
     case rel=>exact ⟨P,true,o,X,hr3.spoil true,hP,hO3.only ((bT.refl _ _).setCell _ _),hb3.setCell (ZX _) _,hol,rfl,hX,Zo (Zo ⟨Zg rfl,HE.out⟩)⟩
    ·have c2:=hr3.c2;have f2:=hr3.f2;go_wp2;go_roundg (gk - 1)
     case measure=>omega
     case rel=>exact ⟨P,true,o,X,hr3.spoil true,hP,hO3.only ((bT.refl _ _).setCell _ _),hb3.setCell (ZX _) _,hol,rfl,hX,Zo (Zo ⟨Zg rfl,HE.out⟩)⟩
   ·have e1:(false||decide (8*s.size < q+1)||decide (8*s.size < min (q+1) (8*s.size)+2))=false:=by simp;omega
    have e2:min (min (q+1) (8*s.size)+2) (8*s.size)=q+3:=by omega
    have e3:min (q+1) (8*s.size)=q+1:=by omega
    rw [e1,e2] at hr3;rw [e3] at hK;rw [e3];clear e1 e2 e3 hP;have hend':q+3<=8*s.size:=by omega
    have HNo:=aa (fun hb=>Pm.rG hq HF.out hb);have HLa:=aa (fun q' o' hb hl=>Pm.rv (q':=q') (o':=o') HL.out hend' HF.out hb hl);have HGo:=aa (fun q' o' hb hl=>And.intro (Pm.ph (q:=q') (o:=o') hb hlo).1 (Pm.wR HL.out hend' HF.out hb hl hlo));unfold Pm.ie at HNo HLa HGo;clear HF;generalize Pm.am s.data.toList (q+1) 2=K at*;generalize Pm.am s.data.toList q 1=X at*;rcases (show K=0\/K=1\/K=2\/K=3 from by omega) with rfl | rfl | rfl | rfl
    ·go_wp2_with fail
     refine (jt w3 _ s (q+3) false _ o hr3 hO3 hlo hs hend').mono ?_;rintro e w4 ⟨v4,rfl,he4⟩;go_wp2;go_roundg (gk - 1)
     case measure=>omega
     case rel=>exact wS.step he4 hb3 hX hg hq hlo (fun h=>HNo.out h) (fun _ _ h hx=>HLa.out _ _ h hx) (fun _ _ h hx=>HGo.out _ _ h (by omega))
    ·go_wp2_with fail
     refine (qw w3 _ s (q+3) _ o hr3 hO3 hlo hs hend' (8*s.data.toList.length+1) (by rw [<-HL.out];omega)).mono ?_;rintro e w4 ⟨v4,rfl,he4⟩;go_wp2;go_roundg (gk - 1)
     case measure=>omega
     case rel=>exact wS.step he4 hb3 hX hg hq hlo (fun h=>HNo.out h) (fun _ _ h hx=>HLa.out _ _ h hx) (fun _ _ h hx=>HGo.out _ _ h (by omega))
    ·have c2:=hr3.c2;have f2:=hr3.f2;go_wp2;go_roundg (gk - 1)
     case measure=>omega
     case rel=>exact ⟨q+3,true,o,X,hr3.spoil true,by omega,hO3.only ((bT.refl _ _).setCell _ _),hb3.setCell (ZX _) _,hol,rfl,hX,Zo (Zo ⟨Zg rfl,HNo.out rfl⟩)⟩
    ·have c2:=hr3.c2;have f2:=hr3.f2;go_wp2;go_roundg (gk - 1)
     case measure=>omega
     case rel=>exact ⟨q+3,true,o,X,hr3.spoil true,by omega,hO3.only ((bT.refl _ _).setCell _ _),hb3.setCell (ZX _) _,hol,rfl,hX,Zo (Zo ⟨Zg rfl,HNo.out rfl⟩)⟩
  ·
   have HT:=aa (HS.out q o hres);clear HS HN hres HL;have hup:bq q<=8*s.size/\bq q % 8=0:=by unfold bq;omega
   go_wp2_with fail
   refine (jo _ _ s q false hr hs hq).mono ?_;rintro e w2 ⟨rfl,hr2,ho2⟩;rw [Bool.false_or] at hr2;have hb2:=hb.trans (ho2.below hr.lt);have hO2:=hO.only ho2;have c1':=hr2.c1;have c2':=hr2.c2;have hlen:s.data.toList.length=s.size:=by simp
   have HTN:=aa (fun h=>HT.out.trans (Pm.vJ (l:=s.data.toList) (q:=q) (o:=o) h));have HTS:=aa (fun h1 h2 h3=>HT.out.trans (Pm.oU (l:=s.data.toList) (q:=q) (o:=o) h1 h2 h3));have hup8:Pm.bq q=bq q:=rfl;rw [hup8,hlen] at HTN HTS;clear hup8 hlen HT hr hr2 ho2 hb hO c2;generalize bq q=U at*;have e1:IntKind.i64.wrap ((U:Int) / 8)=((U / 8:Nat):Int):=by rw [Xl _ (by omega)];omega
   generalize hA:U / 8=A at*;have e2:(U:Int) / 8=(A:Int):=by omega
   have hA2:A<=s.size:=by omega
   clear hA hup;by_cases z1:Pm.am s.data.toList q (U - q)=0
   ·have z1':decide (Pm.am s.data.toList q (U - q)≠0)=false:=by simp [z1]
    rw [z1'] at c2';clear z1';by_cases z2:s.size < A+4
    ·have HE:=aa (HTN.out (Zo (Zg z2)));clear HTN HTS;go_wp2;go_ret3;exact ⟨by rw [HE.out];rfl,hb2⟩
    ·have z3:A+4<=s.size:=by omega
     have HTN':=aa (fun h=>HTN.out (Zo (Zo h)));have HTS':=aa (fun h=>HTS.out z1 z3 h);clear HTN HTS z1;have a0:A < s.size:=by omega
     have a1:A+1 < s.size:=by omega
     have a2:A+2 < s.size:=by omega
     have a3:A+3 < s.size:=by omega
     have hbe:Pm.uK s.data.toList A=256*(256*(256*s[A].toNat+s[A+1].toNat)+s[A+2].toNat)+s[A+3].toNat:=by
      unfold Pm.uK;rw [fH s A a0,fH s (A+1) a1,fH s (A+2) a2,fH s (A+3) a3]
     have HBE:=aa hbe;clear hbe;have hcv:=hO2.str;have y0:=bY s[A];have y1:=bY s[A+1];have y2:=bY s[A+2];have y3:=bY s[A+3];have x0:s[A].toNat < 256:=s[A].toNat_lt;have x1:s[A+1].toNat < 256:=s[A+1].toNat_lt;have x2:s[A+2].toNat < 256:=s[A+2].toNat_lt;have x3:s[A+3].toNat < 256:=s[A+3].toNat_lt;have HSum:Hid (QE 106 #[.string ⟨o.toArray⟩] w2 (65536*(Pm.cB o (1,0)).2+(Pm.cB o (1,0)).1:Nat)):=by
      have hsz:(⟨o.toArray⟩:ByteArray).size=o.length:=by show o.toArray.size=_;simp
      have:=tw w2 ⟨o.toArray⟩ (by omega);unfold Hid;simpa using this
     have hsb:=Pm.qd o (1,0) (by decide);have hsb2:65536*(Pm.cB o (1,0)).2+(Pm.cB o (1,0)).1 < 4294967296:=by omega
     clear hsb;generalize 65536*(Pm.cB o (1,0)).2+(Pm.cB o (1,0)).1=S at*;go_wp2;refine wp_loop_rounds 5 ?_;rw [rounds_succ];go_wp2;rw [rounds_succ];go_wp2;rw [rounds_succ];go_wp2;rw [rounds_succ];go_wp2;rw [rounds_succ];go_wp2_with fail;refine HSum.out.mono ?_;rintro e w3 ⟨rfl,rfl⟩;by_cases hS:Pm.uK s.data.toList A=S
     ·have HE:=aa (HTS'.out hS);have hS2:=HBE.out.symm.trans hS;have hS3:((256*(256*(256*(s[A].toNat:Int)+(s[A+1].toNat:Int))+(s[A+2].toNat:Int))+(s[A+3].toNat:Int)) != (S:Int))=false:=by rw [Yz];omega
      clear HTN' HTS' hS hS2 HBE;go_wp2;go_ret3;refine ⟨?_,hb2⟩;rw [HE.out];simp [zz]
     ·have HE:=aa (HTN'.out hS);have hS2:¬ (256*(256*(256*s[A].toNat+s[A+1].toNat)+s[A+2].toNat)+s[A+3].toNat=S):=fun hh=>hS (HBE.out.trans hh)
      have hS3:((256*(256*(256*(s[A].toNat:Int)+(s[A+1].toNat:Int))+(s[A+2].toNat:Int))+(s[A+3].toNat:Int)) != (S:Int))=true:=by rw [bne_iff_ne];omega
      clear HTN' HTS' hS hS2 HBE;go_wp2;go_ret3;exact ⟨by rw [HE.out];rfl,hb2⟩
   ·have z1':decide (Pm.am s.data.toList q (U - q)≠0)=true:=by simp [z1]
    rw [z1'] at c2';have HE:=aa (HTN.out (Zg z1));clear z1' HTN HTS z1;go_wp2;go_ret3;exact ⟨by rw [HE.out];rfl,hb2⟩
  ·
   have HE:=aa (HN.out hres);clear HS HN hres HL;have hup:bq q<=8*s.size:=by unfold bq;omega
   rcases (show x=0\/x=1 from by omega) with rfl | rfl
   all_goals
    cases bd with
    | true=>
     clear hd;go_wp2_with fail
     refine (jo _ _ s q true hr hs hq).mono ?_;rintro e w2 ⟨rfl,hr2,ho2⟩;rw [Bool.true_or] at hr2;have hb2:=hb.trans (ho2.below hr.lt);have c1':=hr2.c1;have c2':=hr2.c2;clear hr hr2 ho2 hb hO c2;generalize bq q=U at*;go_wp2;go_ret3;exact ⟨by rw [HE.out];rfl,hb2⟩
    | false=>
     have hd2:1048576 < o.length:=by rcases hd with hd | hd;cases hd;exact hd
     clear hd;go_wp2_with fail
     refine (jo _ _ s q false hr hs hq).mono ?_;rintro e w2 ⟨rfl,hr2,ho2⟩;rw [Bool.false_or] at hr2;have hb2:=hb.trans (ho2.below hr.lt);have c1':=hr2.c1;have c2':=hr2.c2;clear hr hr2 ho2 hb hO c2;generalize bq q=U at*;generalize decide (Pm.am s.data.toList q (U - q)≠0)=bz at*
     cases bz with
     | true=>
      go_wp2;go_ret3;exact ⟨by rw [HE.out];rfl,hb2⟩
     | false=>
      go_wp2;go_ret3;exact ⟨by rw [HE.out];rfl,hb2⟩
theorem nW (w:World) (s:ByteArray) (hs:s.size<=140737488355328):
  QB 54 #[s] w (zz (Pm.bP s.data.toList)):=by
 cases hh:Pm.cm s.data.toList with
 | false=>exact nO w s hs hh
 | true=>exact pT w s hs hh
end Go.Proofs.YtbklfkpjoinofaaGreatDoor
