import Derived.Test.YtbklfkpjoinofaaGreatDoorA34
import Derived.Test.YtbklfkpjoinofaaGreatDoorA05
set_option linter.all false
set_option maxRecDepth 100000
set_option maxHeartbeats 8000000
namespace Go.Proofs.YtbklfkpjoinofaaGreatDoor
open Go.RowKit Go.Proofs.Tryz
theorem EK:∀ x:Nat,x < 256->(bits BinOp.and IntKind.u8 (x:Int) 32==0)=decide (x / 32 % 2=0):=by decide+kernel
theorem vn (s:ByteArray) (i:Nat) (h:i < s.size):s.data.toList.getD i 0=s[i]:=by
 rw [ZJ,ZN (by simpa using h)];rfl
theorem oP (w:World) (s:ByteArray) (hs:s.size<=140737488355328):
  QE 157 #[s] w (.bool (Pm.bi s.data.toList)):=by
 have hlen:s.data.toList.length=s.size:=by simp
 unfold Pm.bi;rw [hlen];by_cases h2:s.size < 2
 ·have e1:decide (2<=s.size/\(s.data.toList.getD 0 0).toNat=120/\(30720+(s.data.toList.getD 1 0).toNat) % 31=0/\(s.data.toList.getD 1 0).toNat / 32 % 2=0)=false:=Zj (by omega);rw [e1];clear e1 hlen;go_enter func157,ntmps157
  go_wp2;go_ret;exact ⟨rfl,rfl⟩
 ·have h0:0 < s.size:=by omega
  have h1:1 < s.size:=by omega
  rw [vn s 0 h0,vn s 1 h1];have b0:s[0].toNat < 256:=s[0].toNat_lt;have b1:s[1].toNat < 256:=s[1].toNat_lt;have w1:=bY s[1];have h32:=EK s[1].toNat b1;clear hlen;by_cases k0:s[0].toNat=120
  ·have q0:(((s[0].toNat:Nat):Int) != 120)=false:=by rw [XL];omega
   by_cases k1:(30720+s[1].toNat) % 31=0
   ·have q1:(((30720:Int)+((s[1].toNat:Nat):Int)) % 31==0)=true:=by rw [beq_iff_eq];omega
    have e1:decide (2<=s.size/\s[0].toNat=120/\(30720+s[1].toNat) % 31=0/\s[1].toNat / 32 % 2=0)=decide (s[1].toNat / 32 % 2=0):=by
     rw [Bool.eq_iff_iff];simp only [Zf];constructor
     ·exact fun h=>h.2.2.2
     ·exact fun h=>⟨by omega,k0,k1,h⟩
    rw [e1];clear e1 k0 k1;generalize decide (s[1].toNat / 32 % 2=0)=z at*;go_enter func157,ntmps157
    go_wp2;go_ret;exact ⟨rfl,rfl⟩
   ·have q1:(((30720:Int)+((s[1].toNat:Nat):Int)) % 31==0)=false:=by rw [Yv];omega
    have e1:decide (2<=s.size/\s[0].toNat=120/\(30720+s[1].toNat) % 31=0/\s[1].toNat / 32 % 2=0)=false:=Zj (fun h=>k1 h.2.2.1);rw [e1];clear e1 k0 k1 h32;go_enter func157,ntmps157
    go_wp2;go_ret;exact ⟨rfl,rfl⟩
  ·have q0:(((s[0].toNat:Nat):Int) != 120)=true:=by rw [bne_iff_ne];omega
   have e1:decide (2<=s.size/\s[0].toNat=120/\(30720+s[1].toNat) % 31=0/\s[1].toNat / 32 % 2=0)=false:=Zj (fun h=>k0 h.2.1);rw [e1];clear e1 k0 h32;go_enter func157,ntmps157
   go_wp2;go_ret;exact ⟨rfl,rfl⟩
theorem yQ (w:World) (b:Nat) (s t:ByteArray) (p:Nat) (h:PR w b s p 0) (hs:s.size<=140737488355328) (hp:s.size < p / 8+4):
  CP 160 #[zp b,t] w fun e w'=>e=.returned false/\Below b w w':=by
 go_enter func160,ntmps160
 go_wp2_with fail
 refine (nG w b s p 4 h hs (by omega) hp).mono ?_;rintro e w1 ⟨rfl,_,ho1⟩;go_wp2;go_ret;exact ⟨rfl,ho1.below h.lt⟩
theorem CF (V:Nat) (hV:V < 4294967296) (w:World):
  (convert 66 9 (.slice w 4 4)).run prog (w.alloc (.cells #[.int .u8 ((V:Int) / 16777216),.int .u8 ((V:Int) / 65536 % 256),.int .u8 ((V:Int) / 256 % 256),.int .u8 ((V:Int) % 256)] 5))=
   .ok (.string ⟨#[UInt8.ofNat (V / 16777216),UInt8.ofNat (V / 65536),UInt8.ofNat (V / 256),UInt8.ofNat V]⟩) (w.alloc (.cells #[.int .u8 ((V:Int) / 16777216),.int .u8 ((V:Int) / 65536 % 256),.int .u8 ((V:Int) / 256 % 256),.int .u8 ((V:Int) % 256)] 5)):=by
 refine Yz _ 66 9 5 ⟨w,0,none⟩ 4 [UInt8.ofNat (V / 16777216),UInt8.ofNat (V / 65536),UInt8.ofNat (V / 256),UInt8.ofNat V] underlying66 underlying5 underlying9 ?_;intro j hj;have hadd:(⟨w,0,none⟩:Addr).add j=⟨w,j,none⟩:=by unfold Addr.add;split <;> simp_all
 rw [hadd]
 match j,hj with
 | 0,_=>simp;omega
 | 1,_=>simp
 | 2,_=>simp
 | 3,_=>simp
 | (j+4),hj=>simp at hj;omega
theorem ER (l:List UInt8) (a:Nat) (h:a+4<=l.length):(l.drop a).take 4=[l.getD a 0,l.getD (a+1) 0,l.getD (a+2) 0,l.getD (a+3) 0]:=by
 rw [Zo (by omega),Zo (by omega),Zo (by omega),Zo (by omega)];rw [List.take_succ_cons,List.take_succ_cons,List.take_succ_cons,List.take_succ_cons,List.take_zero];rw [ZJ,ZN (show a < l.length by omega),ZJ,ZN (show a+1 < l.length by omega),
  ZJ,ZN (show a+2 < l.length by omega),ZJ,ZN (show a+3 < l.length by omega)]
 rfl
theorem DT (l:List UInt8) (a V:Nat) (h:a+4<=l.length) (hV:V < 4294967296):
  ((l.drop a).take 4==[UInt8.ofNat (V / 16777216),UInt8.ofNat (V / 65536),UInt8.ofNat (V / 256),UInt8.ofNat V])=decide (Pm.uK l a=V):=by
 rw [ER l a h];unfold Pm.uK;generalize l.getD a 0=x0;generalize l.getD (a+1) 0=x1;generalize l.getD (a+2) 0=x2;generalize l.getD (a+3) 0=x3;have h0:=x0.toNat_lt;have h1:=x1.toNat_lt;have h2:=x2.toNat_lt;have h3:=x3.toNat_lt;rw [Bool.eq_iff_iff];simp only [beq_iff_eq,List.cons.injEq,and_true,Zf, <-UInt8.toNat_inj,YZ];omega
theorem yU (w:World) (b:Nat) (s t:ByteArray) (p:Nat) (h:PR w b s p 0) (hs:s.size<=140737488355328) (ht:t.size<=140737488355328) (hp:p / 8+4<=s.size):
  CP 160 #[zp b,t] w fun e w'=>e=.returned (.bool (decide (Pm.uK s.data.toList (p / 8)=65536*(Pm.cB t.data.toList (1,0)).2+(Pm.cB t.data.toList (1,0)).1)))/\PR w' b s (p+32) 0/\Below b w w':=by
 have hsb:=Pm.qd t.data.toList (1,0) (by decide);generalize hX:s.extract (p / 8) (p / 8+4)=X;have HX:=ai hX;have HT:=nL w b s p 4 h hs hp;rw [hX] at HT;have HT':=ai HT;clear hX HT;go_enter func160,ntmps160
 go_wp2_with fail
 refine HT'.out.mono ?_;rintro e w1 ⟨rfl,hr1,ho1⟩;have hb1:=ho1.below h.lt;go_wp2_with fail
 refine (ta w1).mono ?_;rintro e w2 ⟨rfl,hb2⟩;go_wp2_with fail
 refine (DE (w2.alloc (.cells #[.int .u32 1,.int .u32 0] 245)) w2.heap.size 1 0 t ht (by decide) (by decide) (by simp) (by simp) (by simp) (by simp)).mono ?_;rintro e w3 ⟨rfl,d0,d1,_,_,ho3⟩;generalize hA:(Pm.cB t.data.toList (1,0)).1=A at*;generalize hB:(Pm.cB t.data.toList (1,0)).2=B at*;have HA:=ai hA;have HB:=ai hB;clear hA hB;go_wp2_with fail
 refine (uW w3 A B hsb.1 hsb.2).mono ?_;rintro e w4 ⟨rfl,hb4⟩;have hV:65536*B+A < 4294967296:=by omega
 generalize hV2:65536*B+A=V at*;have HV:=ai hV2;clear hV2;have hcv:=CF V hV w4;go_wp2;go_ret;have hlen:s.data.toList.length=s.size:=by simp
 have z1:b+1<=w1.heap.size:=hr1.lt;have z2:w1.heap.size<=w2.heap.size:=hb2.size;have z3:w2.heap.size+1<=w3.heap.size:=by have:=ho3.size;simpa using this
 have z4:w3.heap.size<=w4.heap.size:=hb4.size;have k1:Below (b+1) w1 (w2.alloc (.cells #[.int .u32 1,.int .u32 0] 245)):=(hb2.mono z1).alloc (by omega) _;have k2:Below (b+1) w1 w3:=k1.trans ((bT.below ho3 (by simp)).mono (by omega));have k3:Below (b+1) w1 w4:=k2.trans (hb4.mono (by omega));have k4:=k3.alloc (by omega) (.cells #[.int .u8 ((V:Int) / 16777216),.int .u8 ((V:Int) / 65536 % 256),.int .u8 ((V:Int) / 256 % 256),.int .u8 ((V:Int) % 256)] 5);refine ⟨congrArg (fun z=>Ending.returned (.bool z)) ?_,?_,?_⟩
 ·rw [HA.out,HB.out,HV.out,Zn, <-HX.out,Pm.eX];exact DT s.data.toList (p / 8) V (by omega) hV
 ·exact hr1.kept k4
 ·exact hb1.trans (k4.mono (Nat.le_succ b))
theorem PU.new (w:World) (s:ByteArray) (h2:2<=s.size):PU (w.alloc (.cells #[s,(2:Int),.int .u32 0,oz,.slice none 0 0,(1048576:Int)] 206)) w.heap.size s 16 0 (.slice none 0 0) []:=
 ⟨⟨by omega,by omega,by simp,by simp,by simp [Pm.o6],by simp,by simp,by simp,by simp⟩,by simp,by simp,by simp,gZ.nil _ _ (by simp)⟩
def E4:Option (List UInt8×Nat)->Value
 | some (o,n)=>.tuple #[.string ⟨o.toArray⟩,n,true]
 | none=>.tuple #[.string ⟨#[]⟩,oz,false]
theorem vU (w:World) (s:ByteArray) (hs:s.size<=140737488355328):
  QB 107 #[s,(1048576:Int)] w (E4 (Pm.bP s.data.toList)):=by
 have hlen:s.data.toList.length=s.size:=by simp
 cases hhd:Pm.bi s.data.toList with
 | false=>
  rw [Pm.qT hhd];have HH:=oP w s hs;rw [hhd] at HH;have HH':=ai HH;clear HH hhd;go_enter func107,ntmps107
  go_wp2_with fail
  refine HH'.out.mono ?_;rintro e w1 ⟨rfl,rfl⟩;go_wp2;go_ret3;exact ⟨rfl,ZQ _ _⟩
 | true=>
  have h2:2<=s.size:=by
   unfold Pm.bi at hhd;simp only [Zf] at hhd;omega
  have HH:=oP w s hs;rw [hhd] at HH;have HH':=ai HH;clear HH;have HN:=ai (fun hr=>Pm.rW (l:=s.data.toList) hr);have HS:=ai (fun q o hr=>Pm.iM (l:=s.data.toList) (q:=q) (o:=o) hhd hr);have HB:=ai (fun wx (hx:PU wx w.heap.size s 16 0 (.slice none 0 0) [])=>xm wx w.heap.size s 16 0 _ [] hx (by omega) (by simp) hs (8*s.data.toList.length+1) (by rw [hlen];omega));generalize Pm.bF s.data.toList (8*s.data.toList.length+1) 16 []=res at*;generalize Pm.bP s.data.toList=ans at*;clear hhd;have HU:=ai (PU.new w s h2);go_enter func107,ntmps107
  go_wp2_with fail
  refine HH'.out.mono ?_;rintro e w1 ⟨rfl,rfl⟩;go_wp2_with fail
  refine (HB.out _ HU.out).mono ?_;rintro e w2 ⟨hb2,he⟩;have hb2':=((ZQ w1.heap.size w1).alloc (ZV _) (.cells #[s,(2:Int),.int .u32 0,oz,.slice none 0 0,(1048576:Int)] 206)).trans hb2;rcases he with ⟨rfl,hr⟩ | ⟨q,n,v,o,rfl,hr,hn,ho,hU⟩
  ·have HA:=ai (HN.out hr);clear HN HS hr;go_wp2;go_ret3;exact ⟨by rw [HA.out];rfl,hb2'⟩
  ·have HT:=ai (HS.out q o hr);clear HN HS hr HB HU HH';obtain ⟨hP,hn2⟩:=hU.r.up hn;have HAl:=sF w2 w1.heap.size s q n hU.r;rw [hP] at HAl;have HTN:=ai (fun h=>HT.out.trans (Pm.vJ (l:=s.data.toList) (q:=q) (o:=o) h));have HTS:=ai (fun h1 h2 h3=>HT.out.trans (Pm.oU (l:=s.data.toList) (q:=q) (o:=o) h1 h2 h3));rw [hlen,hn2] at HTN HTS;clear HT hn2 hP;have hU8:Pm.bq q % 8=0:=by unfold Pm.bq;omega
   generalize Pm.bq q=U at*;by_cases z0:Pm.ao s.data.toList q n=0
   ·have z0':decide (Pm.ao s.data.toList q n=0)=true:=Zq z0;rw [z0'] at HAl;have HA:=ai HAl;clear HAl z0';go_wp2_with fail
    refine HA.out.mono ?_;rintro e w3 ⟨rfl,hr3,ho3⟩;have hU3:=hU.few ho3 hr3;have hb3:=hb2'.trans (ho3.below hU.lt);clear hU ho3 hr3 HA hb2 hb2';have hcv:=hU3.o.str;have c4:=hU3.c4;obtain ⟨ad,cap,hform,_⟩:=hU3.o.form;rw [hform] at c4 hcv;have hsz:(⟨o.toArray⟩:ByteArray).size=o.length:=by show o.toArray.size=_;simp
    have hdl:(⟨o.toArray⟩:ByteArray).data.toList=o:=by simp
    by_cases z1:s.size < U / 8+4
    ·have HE:=ai (HTN.out (YA (YN z1)));have HSum:=ai (yQ w3 w1.heap.size s ⟨o.toArray⟩ U hU3.r hs z1);clear HTN HTS z0 hsz hdl;go_wp2_with fail
     refine HSum.out.mono ?_;rintro e w4 ⟨rfl,hb4⟩;go_wp2;go_ret3;exact ⟨by rw [HE.out];rfl,hb3.trans hb4⟩
    ·have z2:U / 8+4<=s.size:=by omega
     have HSum:=yU w3 w1.heap.size s ⟨o.toArray⟩ U hU3.r hs (by rw [hsz];omega) z2;rw [hdl] at HSum;by_cases z3:Pm.uK s.data.toList (U / 8)=65536*(Pm.cB o (1,0)).2+(Pm.cB o (1,0)).1
     ·have HE:=ai (HTS.out z0 z2 z3);have z3':decide (Pm.uK s.data.toList (U / 8)=65536*(Pm.cB o (1,0)).2+(Pm.cB o (1,0)).1)=true:=Zq z3;rw [z3'] at HSum;have HSum':=ai HSum;clear HSum z3 z3' HTN HTS z0 hsz hdl;go_wp2_with fail
      refine HSum'.out.mono ?_;rintro e w4 ⟨rfl,hr4,hb4⟩;have c1:=hr4.c1;have e8:(U+32+0) / 8=U / 8+4:=by omega
      rw [e8] at c1;clear e8 c4 hcv;generalize U / 8+4=T at*;go_wp2;go_quiet (fail)
      go_wp2;go_ret3;exact ⟨by rw [HE.out];rfl,below_drewN (hb3.trans hb4) _⟩
     ·have HE:=ai (HTN.out (YA (YA z3)));have z3':decide (Pm.uK s.data.toList (U / 8)=65536*(Pm.cB o (1,0)).2+(Pm.cB o (1,0)).1)=false:=Zj z3;rw [z3'] at HSum;have HSum':=ai HSum;clear HSum z3 z3' HTN HTS z0 hsz hdl;go_wp2_with fail
      refine HSum'.out.mono ?_;rintro e w4 ⟨rfl,_,hb4⟩;go_wp2;go_ret3;exact ⟨by rw [HE.out];rfl,hb3.trans hb4⟩
   ·have HE:=ai (HTN.out (YN z0));have z0':decide (Pm.ao s.data.toList q n=0)=false:=Zj z0;rw [z0'] at HAl;have HA:=ai HAl;clear HAl z0' HTN HTS z0;go_wp2_with fail
    refine HA.out.mono ?_;rintro e w3 ⟨rfl,_,ho3⟩;go_wp2;go_ret3;exact ⟨by rw [HE.out];rfl,hb2'.trans (ho3.below hU.lt)⟩
end Go.Proofs.YtbklfkpjoinofaaGreatDoor
