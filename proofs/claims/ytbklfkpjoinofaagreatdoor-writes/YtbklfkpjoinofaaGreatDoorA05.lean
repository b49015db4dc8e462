import Derived.Test.YtbklfkpjoinofaaGreatDoorA02
import Derived.Test.YtbklfkpjoinofaaGreatDoorA01
import Derived.Lib.AppendIntMem
import Derived.Lib.ItoaLen
set_option linter.all false
set_option maxRecDepth 100000
set_option maxHeartbeats 8000000
namespace Go.Proofs.YtbklfkpjoinofaaGreatDoor
open Go.RowKit Go.Proofs.Tryz
abbrev bU (B:Nat) (w:World):Prop:=Lib.TabBelow prog B w "internal/strconv.uint64pow10" .u64 Lib.pow10Tab
theorem tq (w:World) (k:Nat) (os:Array Obj):Below w w (Sort.grow (w.drewN k) os):=
 ⟨rfl,rfl,rfl,by show w.heap.size<=(w.heap++os).size;simp,fun i hi=>by show (w.heap++os)[i]? =w.heap[i]?;exact Array.getElem?_append_left hi⟩
theorem bp (B:Nat) (w:World) (n:Int) (h0:-9223372036854775808<=n) (h1:n<=9223372036854775807) (ht:bU B w):
  QB 120 #[n] w (.string ⟨(Lib.itoa n).toArray⟩):=by
 refine (Tryz.strconv_Itoa n h0 h1 w ht.here).mono ?_;rintro e w' ⟨rfl,k,os,rfl⟩;exact ⟨rfl,tq w k os⟩
def aD (n:Int):List UInt8:=Lib.itoa n++[32,48,32,82]
theorem an (a b:List UInt8):(⟨a.toArray⟩:ByteArray)++⟨b.toArray⟩=⟨(a++b).toArray⟩:=by
 apply Zj;rw [ByteArray.data_append];simp
theorem av (n:Int) (h0:-9223372036854775808<=n) (h1:n<=9223372036854775807):(Lib.itoa n).length<=21:=Lib.itoa_length_le n h0 h1
theorem i' (B:Nat) (w:World) (n:Int) (h0:-9223372036854775808<=n) (h1:n<=9223372036854775807) (ht:bU B w):
  QB 180 #[n] w (.string ⟨(aD n).toArray⟩):=by
 have HI:=aa (bp B w n h0 h1 ht);have hl:=av n h0 h1;have HA:=aa (an (Lib.itoa n) [32,48,32,82]);have hs:(⟨(Lib.itoa n).toArray⟩:ByteArray).size<=21:=by simp [ByteArray.size];exact hl
 unfold aD;go_enter func180,ntmps180
 go_wp2_with fail
 refine HI.out.mono ?_;rintro e w1 ⟨rfl,hB⟩;go_wp2;go_ret;refine ⟨?_,hB⟩;rw [<-HA.out];rfl
def cq (m:Nat):List UInt8:=
 if m=0 then [] else if m % 100=0 then [46,UInt8.ofNat (48+m / 100)] else if m % 10=0 then [46,UInt8.ofNat (48+m / 100),UInt8.ofNat (48+m / 10 % 10)] else [46,UInt8.ofNat (48+m / 100),UInt8.ofNat (48+m / 10 % 10),UInt8.ofNat (48+m % 10)]
def bJ (n:Int):List UInt8:=(if n < 0 then [45] else [])++Lib.itoa (n.natAbs / 1000:Nat)++cq (n.natAbs % 1000)
theorem vL:∀ m:Nat,m < 1000->0 < m->[46]++Lib.trimRightB ((Lib.itoa ((1000+m:Nat):Int)).drop 1) 48=cq m/\(Lib.itoa ((1000+m:Nat):Int)).length=4:=by decide+kernel
theorem o7 (l:List UInt8) (h:l.length=4):(⟨l.toArray⟩:ByteArray).extract 1 4=⟨(l.drop 1).toArray⟩:=by
 apply Zj;rw [YA];apply YF;simp [List.extract];rw [ZF (by simp;omega)]
theorem b8 {s t:ByteArray} (h:s.data.toList=t.data.toList):Ending.returned s=.returned t:=by
 have e:s=t:=Zj (YF h);rw [e]
theorem AX (B:Nat) (w:World) (n:Int) (a q m:Nat) (hq1:q<=100000) (ha:a<=100000000) (hn:n < 0) (hna:-n=(a:Int)) (hnl:-100000000<=n) (eq1:(a:Int) / 1000=(q:Int)) (em1:(a:Int) % 1000=0) (ht:bU B w) (hB:B<=w.heap.size)
  (Iq dg tr:List UInt8) (hIl:Iq.length<=21) (HI:Hid (QB 120 #[q] w (.string ⟨Iq.toArray⟩)))
  :QB 211 #[n] w (.string ⟨([45]++Iq).toArray⟩):=by
 have his:(⟨Iq.toArray⟩:ByteArray).size<=21:=by simp [ByteArray.size];exact hIl
 go_enter func211,ntmps211
 go_wp2_with fail
 refine HI.out.mono ?_;rintro e w1 ⟨rfl,hB1⟩;go_wp2;go_ret;refine ⟨?_,hB1⟩;refine b8 ?_;simp
theorem By (B:Nat) (w:World) (n:Int) (a q m:Nat) (hq1:q<=100000) (hm1:m < 1000) (hz:0 < m) (ha:a<=100000000) (hn:n < 0) (hna:-n=(a:Int)) (hnl:-100000000<=n) (eq1:(a:Int) / 1000=(q:Int)) (em1:(a:Int) % 1000=(m:Int)) (ht:bU B w) (hB:B<=w.heap.size)
  (Iq dg tr:List UInt8) (hIl:Iq.length<=21) (HI:Hid (QB 120 #[q] w (.string ⟨Iq.toArray⟩)))
  (hdl:dg.length=4) (htl:tr.length<=3) (HI2:Hid (∀ wx,bU B wx->QB 120 #[(1000+(m:Int):Int)] wx (.string ⟨dg.toArray⟩)))
  (HT:Hid (∀ wx,QE 244 #[.string ⟨(dg.drop 1).toArray⟩,.string ⟨#[48]⟩] wx (.string ⟨tr.toArray⟩)))
  :QB 211 #[n] w (.string ⟨([45]++Iq++([46]++tr)).toArray⟩):=by
 have his:(⟨Iq.toArray⟩:ByteArray).size<=21:=by simp [ByteArray.size];exact hIl
 have hds:(⟨dg.toArray⟩:ByteArray).size=4:=by simp [ByteArray.size];exact hdl
 have hts:(⟨tr.toArray⟩:ByteArray).size<=3:=by simp [ByteArray.size];exact htl
 have HD:=aa (o7 dg hdl);have hm0:¬ m=0:=by omega
 have hmb:((m:Int)==0)=false:=by simp;omega
 go_enter func211,ntmps211
 go_wp2_with fail
 refine HI.out.mono ?_;rintro e w1 ⟨rfl,hB1⟩;have hT1:bU B w1:=ht.on ⟨hB1.os,hB1.tape,hB1.output,hB1.size,fun k hk=>hB1.block k (ZR hk hB)⟩;have HI3:=aa (HI2.out w1 hT1);clear HI2;go_wp2_with fail
 refine HI3.out.mono ?_;rintro e w2 ⟨rfl,hB2⟩;go_wp2_with fail
 rw [HD.out];refine (HT.out w2).mono ?_;rintro e w3 ⟨rfl,rfl⟩;go_wp2;go_ret;refine ⟨?_,hB1.trans (hB2.mono hB1.size)⟩;refine b8 ?_;simp
theorem AA (B:Nat) (w:World) (n:Int) (a q m:Nat) (hq1:q<=100000) (ha:a<=100000000) (hn:n=(a:Int)) (eq1:(a:Int) / 1000=(q:Int)) (em1:(a:Int) % 1000=0) (ht:bU B w) (hB:B<=w.heap.size)
  (Iq dg tr:List UInt8) (hIl:Iq.length<=21) (HI:Hid (QB 120 #[q] w (.string ⟨Iq.toArray⟩)))
  :QB 211 #[n] w (.string ⟨([]++Iq).toArray⟩):=by
 have his:(⟨Iq.toArray⟩:ByteArray).size<=21:=by simp [ByteArray.size];exact hIl
 subst hn;go_enter func211,ntmps211
 go_wp2_with fail
 refine HI.out.mono ?_;rintro e w1 ⟨rfl,hB1⟩;go_wp2;go_ret;refine ⟨?_,hB1⟩;refine b8 ?_;simp
theorem Bt (B:Nat) (w:World) (n:Int) (a q m:Nat) (hq1:q<=100000) (hm1:m < 1000) (hz:0 < m) (ha:a<=100000000) (hn:n=(a:Int)) (eq1:(a:Int) / 1000=(q:Int)) (em1:(a:Int) % 1000=(m:Int)) (ht:bU B w) (hB:B<=w.heap.size)
  (Iq dg tr:List UInt8) (hIl:Iq.length<=21) (HI:Hid (QB 120 #[q] w (.string ⟨Iq.toArray⟩)))
  (hdl:dg.length=4) (htl:tr.length<=3) (HI2:Hid (∀ wx,bU B wx->QB 120 #[(1000+(m:Int):Int)] wx (.string ⟨dg.toArray⟩)))
  (HT:Hid (∀ wx,QE 244 #[.string ⟨(dg.drop 1).toArray⟩,.string ⟨#[48]⟩] wx (.string ⟨tr.toArray⟩)))
  :QB 211 #[n] w (.string ⟨([]++Iq++([46]++tr)).toArray⟩):=by
 have his:(⟨Iq.toArray⟩:ByteArray).size<=21:=by simp [ByteArray.size];exact hIl
 subst hn;have hds:(⟨dg.toArray⟩:ByteArray).size=4:=by simp [ByteArray.size];exact hdl
 have hts:(⟨tr.toArray⟩:ByteArray).size<=3:=by simp [ByteArray.size];exact htl
 have HD:=aa (o7 dg hdl);have hm0:¬ m=0:=by omega
 have hmb:((m:Int)==0)=false:=by simp;omega
 go_enter func211,ntmps211
 go_wp2_with fail
 refine HI.out.mono ?_;rintro e w1 ⟨rfl,hB1⟩;have hT1:bU B w1:=ht.on ⟨hB1.os,hB1.tape,hB1.output,hB1.size,fun k hk=>hB1.block k (ZR hk hB)⟩;have HI3:=aa (HI2.out w1 hT1);clear HI2;go_wp2_with fail
 refine HI3.out.mono ?_;rintro e w2 ⟨rfl,hB2⟩;go_wp2_with fail
 rw [HD.out];refine (HT.out w2).mono ?_;rintro e w3 ⟨rfl,rfl⟩;go_wp2;go_ret;refine ⟨?_,hB1.trans (hB2.mono hB1.size)⟩;refine b8 ?_;simp
theorem jz (B:Nat) (w:World) (n:Int) (h0:-100000000<=n) (h1:n<=100000000) (hB:B<=w.heap.size) (ht:bU B w):
  QB 211 #[n] w (.string ⟨(bJ n).toArray⟩):=by
 have hI:=bp B w ((n.natAbs / 1000:Nat):Int) (by omega) (by omega) ht;have hIl:=av ((n.natAbs / 1000:Nat):Int) (by omega) (by omega);by_cases hz:n.natAbs % 1000=0
 ·have hL:bJ n=(if n < 0 then [45] else [])++Lib.itoa ((n.natAbs / 1000:Nat):Int):=by
   unfold bJ;rw [hz,show cq 0=[] by decide,Zm]
  rw [hL];by_cases hn:n < 0
  ·rw [ZO hn];exact AX B w n n.natAbs (n.natAbs / 1000) 0 (by omega) (by omega) hn (by omega) (by omega) (by omega) (by omega) ht hB _ [] [] hIl hI
  ·rw [ZU hn];exact AA B w n n.natAbs (n.natAbs / 1000) 0 (by omega) (by omega) (by omega) (by omega) (by omega) ht hB _ [] [] hIl hI
 ·obtain ⟨hf1,hf2⟩:=vL (n.natAbs % 1000) (by omega) (by omega);have ec:((1000+n.natAbs % 1000:Nat):Int)=1000+((n.natAbs % 1000:Nat):Int):=by omega
  rw [ec] at hf1 hf2;have hts:(Lib.trimRightB ((Lib.itoa (1000+((n.natAbs % 1000:Nat):Int))).drop 1) 48).length<=3:=by
   have h3:=congrArg List.length hf1;have h4:(cq (n.natAbs % 1000)).length<=4:=by
    unfold cq
    repeat' split
    all_goals simp
   simp only [ZZ,Yn] at h3;omega
  have hI2:∀ wx,bU B wx->QB 120 #[(1000+((n.natAbs % 1000:Nat):Int):Int)] wx (.string ⟨(Lib.itoa (1000+((n.natAbs % 1000:Nat):Int))).toArray⟩):=
   fun wx hx=>bp B wx _ (by omega) (by omega) hx
  have hT:∀ wx,QE 244 #[.string ⟨((Lib.itoa (1000+((n.natAbs % 1000:Nat):Int))).drop 1).toArray⟩,.string ⟨#[48]⟩] wx (.string ⟨(Lib.trimRightB ((Lib.itoa (1000+((n.natAbs % 1000:Nat):Int))).drop 1) 48).toArray⟩):=by
   intro wx;have h:=Tryz.strings_TrimRight_one ⟨((Lib.itoa (1000+((n.natAbs % 1000:Nat):Int))).drop 1).toArray⟩ 48 (by decide) wx (by show ((Lib.itoa (1000+((n.natAbs % 1000:Nat):Int))).drop 1).toArray.size<=_;rw [List.size_toArray,YV,hf2];decide);exact h
  unfold bJ;rw [<-hf1];by_cases hn:n < 0
  ·rw [ZO hn];exact By B w n n.natAbs (n.natAbs / 1000) (n.natAbs % 1000) (by omega) (by omega) (by omega) (by omega) hn (by omega) (by omega) (by omega) (by omega) ht hB _ _ _ hIl hI hf2 hts hI2 hT
  ·rw [ZU hn];exact Bt B w n n.natAbs (n.natAbs / 1000) (n.natAbs % 1000) (by omega) (by omega) (by omega) (by omega) (by omega) (by omega) (by omega) ht hB _ _ _ hIl hI hf2 hts hI2 hT
theorem aU (w:World) (d:Nat) (hd:d < 10):QE 120 #[d] w (.string ⟨#[UInt8.ofNat (48+d)]⟩):=by
 have h:=Tryz.strconv_Itoa_small d (by omega) w;have e:Lib.decDigits d=[UInt8.ofNat (48+d)]:=by rw [Lib.decDigits,dif_pos hd]
 rw [e] at h;exact h
theorem Bh (B:Nat) (w:World) (n:Int) (a q m d1 d2 d3:Nat) (hq1:q<=100000) (ha:a<=100000000) (hn:n < 0) (hna:-n=(a:Int)) (hnl:-100000000<=n) (eq1:(a:Int) / 1000=(q:Int)) (em1:(a:Int) % 1000=0)
  (g1:d1 < 10) (g2:d2 < 10) (g3:d3 < 10)
  (Iq:List UInt8) (hIl:Iq.length<=21) (HI:Hid (QB 120 #[q] w (.string ⟨Iq.toArray⟩))):
  QB 161 #[n] w (.string ⟨([45]++Iq).toArray⟩):=by
 have his:(⟨Iq.toArray⟩:ByteArray).size<=21:=by simp [ByteArray.size];exact hIl
 have HG1:=aa (fun wx=>aU wx d1 g1);have HG2:=aa (fun wx=>aU wx d2 g2);have HG3:=aa (fun wx=>aU wx d3 g3);go_enter func161,ntmps161
 go_wp2_with fail
 refine HI.out.mono ?_;rintro e w1 ⟨rfl,hB1⟩;go_wp2;go_ret;refine ⟨?_,hB1⟩;refine b8 ?_;simp
theorem BC (B:Nat) (w:World) (n:Int) (a q m d1 d2 d3:Nat) (hq1:q<=100000) (ha:a<=100000000) (hn:n < 0) (hna:-n=(a:Int)) (hnl:-100000000<=n) (eq1:(a:Int) / 1000=(q:Int)) (em1:(a:Int) % 1000=(m:Int)) (hm1:m < 1000) (hm0:0 < m)
  (g1:d1 < 10) (g2:d2 < 10) (g3:d3 < 10) (e1:(m:Int) / 100=(d1:Int)) (e2:(m:Int) / 10 % 10=(d2:Int)) (e3:(m:Int) % 10=(d3:Int)) (z:(m:Int) % 100=0) (z3:d3=0)
  (Iq:List UInt8) (hIl:Iq.length<=21) (HI:Hid (QB 120 #[q] w (.string ⟨Iq.toArray⟩))):
  QB 161 #[n] w (.string ⟨([45]++Iq++[46,UInt8.ofNat (48+d1)]).toArray⟩):=by
 have his:(⟨Iq.toArray⟩:ByteArray).size<=21:=by simp [ByteArray.size];exact hIl
 have HG1:=aa (fun wx=>aU wx d1 g1);have HG2:=aa (fun wx=>aU wx d2 g2);have HG3:=aa (fun wx=>aU wx d3 g3);subst z3;go_enter func161,ntmps161
 go_wp2_with fail
 refine HI.out.mono ?_;rintro e w1 ⟨rfl,hB1⟩;go_wp2_with fail
 refine (HG1.out _).mono ?_;rintro e w5 ⟨rfl,rfl⟩;go_wp2;go_ret;refine ⟨?_,hB1⟩;refine b8 ?_;simp
theorem Bz (B:Nat) (w:World) (n:Int) (a q m d1 d2 d3:Nat) (hq1:q<=100000) (ha:a<=100000000) (hn:n < 0) (hna:-n=(a:Int)) (hnl:-100000000<=n) (eq1:(a:Int) / 1000=(q:Int)) (em1:(a:Int) % 1000=(m:Int)) (hm1:m < 1000) (hm0:0 < m)
  (g1:d1 < 10) (g2:d2 < 10) (g3:d3 < 10) (e1:(m:Int) / 100=(d1:Int)) (e2:(m:Int) / 10 % 10=(d2:Int)) (e3:(m:Int) % 10=(d3:Int)) (z:0 < (m:Int) % 100) (z3:d3=0)
  (Iq:List UInt8) (hIl:Iq.length<=21) (HI:Hid (QB 120 #[q] w (.string ⟨Iq.toArray⟩))):
  QB 161 #[n] w (.string ⟨([45]++Iq++[46,UInt8.ofNat (48+d1),UInt8.ofNat (48+d2)]).toArray⟩):=by
 have his:(⟨Iq.toArray⟩:ByteArray).size<=21:=by simp [ByteArray.size];exact hIl
 have HG1:=aa (fun wx=>aU wx d1 g1);have HG2:=aa (fun wx=>aU wx d2 g2);have HG3:=aa (fun wx=>aU wx d3 g3);subst z3;go_enter func161,ntmps161
 go_wp2_with fail
 refine HI.out.mono ?_;rintro e w1 ⟨rfl,hB1⟩;go_wp2_with fail
 refine (HG1.out _).mono ?_;rintro e w5 ⟨rfl,rfl⟩;go_wp2_with fail
 refine (HG2.out _).mono ?_;rintro e w6 ⟨rfl,rfl⟩;go_wp2;go_ret;refine ⟨?_,hB1⟩;refine b8 ?_;simp
theorem Bx (B:Nat) (w:World) (n:Int) (a q m d1 d2 d3:Nat) (hq1:q<=100000) (ha:a<=100000000) (hn:n < 0) (hna:-n=(a:Int)) (hnl:-100000000<=n) (eq1:(a:Int) / 1000=(q:Int)) (em1:(a:Int) % 1000=(m:Int)) (hm1:m < 1000) (hm0:0 < m)
  (g1:d1 < 10) (g2:d2 < 10) (g3:d3 < 10) (e1:(m:Int) / 100=(d1:Int)) (e2:(m:Int) / 10 % 10=(d2:Int)) (e3:(m:Int) % 10=(d3:Int)) (z:0 < (m:Int) % 100) (z3:0 < d3)
  (Iq:List UInt8) (hIl:Iq.length<=21) (HI:Hid (QB 120 #[q] w (.string ⟨Iq.toArray⟩))):
  QB 161 #[n] w (.string ⟨([45]++Iq++[46,UInt8.ofNat (48+d1),UInt8.ofNat (48+d2),UInt8.ofNat (48+d3)]).toArray⟩):=by
 have his:(⟨Iq.toArray⟩:ByteArray).size<=21:=by simp [ByteArray.size];exact hIl
 have HG1:=aa (fun wx=>aU wx d1 g1);have HG2:=aa (fun wx=>aU wx d2 g2);have HG3:=aa (fun wx=>aU wx d3 g3);go_enter func161,ntmps161
 go_wp2_with fail
 refine HI.out.mono ?_;rintro e w1 ⟨rfl,hB1⟩;go_wp2_with fail
 refine (HG1.out _).mono ?_;rintro e w5 ⟨rfl,rfl⟩;go_wp2_with fail
 refine (HG2.out _).mono ?_;rintro e w6 ⟨rfl,rfl⟩;go_wp2_with fail
 refine (HG3.out _).mono ?_;rintro e w7 ⟨rfl,rfl⟩;go_wp2;go_ret;refine ⟨?_,hB1⟩;refine b8 ?_;simp
theorem Bj (B:Nat) (w:World) (n:Int) (a q m d1 d2 d3:Nat) (hq1:q<=100000) (ha:a<=100000000) (hn:n=(a:Int)) (eq1:(a:Int) / 1000=(q:Int)) (em1:(a:Int) % 1000=0)
  (g1:d1 < 10) (g2:d2 < 10) (g3:d3 < 10)
  (Iq:List UInt8) (hIl:Iq.length<=21) (HI:Hid (QB 120 #[q] w (.string ⟨Iq.toArray⟩))):
  QB 161 #[n] w (.string ⟨([]++Iq).toArray⟩):=by
 have his:(⟨Iq.toArray⟩:ByteArray).size<=21:=by simp [ByteArray.size];exact hIl
 have HG1:=aa (fun wx=>aU wx d1 g1);have HG2:=aa (fun wx=>aU wx d2 g2);have HG3:=aa (fun wx=>aU wx d3 g3);subst hn;go_enter func161,ntmps161
 go_wp2_with fail
 refine HI.out.mono ?_;rintro e w1 ⟨rfl,hB1⟩;go_wp2;go_ret;refine ⟨?_,hB1⟩;refine b8 ?_;simp
theorem BH (B:Nat) (w:World) (n:Int) (a q m d1 d2 d3:Nat) (hq1:q<=100000) (ha:a<=100000000) (hn:n=(a:Int)) (eq1:(a:Int) / 1000=(q:Int)) (em1:(a:Int) % 1000=(m:Int)) (hm1:m < 1000) (hm0:0 < m)
  (g1:d1 < 10) (g2:d2 < 10) (g3:d3 < 10) (e1:(m:Int) / 100=(d1:Int)) (e2:(m:Int) / 10 % 10=(d2:Int)) (e3:(m:Int) % 10=(d3:Int)) (z:(m:Int) % 100=0) (z3:d3=0)
  (Iq:List UInt8) (hIl:Iq.length<=21) (HI:Hid (QB 120 #[q] w (.string ⟨Iq.toArray⟩))):
  QB 161 #[n] w (.string ⟨([]++Iq++[46,UInt8.ofNat (48+d1)]).toArray⟩):=by
 have his:(⟨Iq.toArray⟩:ByteArray).size<=21:=by simp [ByteArray.size];exact hIl
 have HG1:=aa (fun wx=>aU wx d1 g1);have HG2:=aa (fun wx=>aU wx d2 g2);have HG3:=aa (fun wx=>aU wx d3 g3);subst z3 hn;go_enter func161,ntmps161
 go_wp2_with fail
 refine HI.out.mono ?_;rintro e w1 ⟨rfl,hB1⟩;go_wp2_with fail
 refine (HG1.out _).mono ?_;rintro e w5 ⟨rfl,rfl⟩;go_wp2;go_ret;refine ⟨?_,hB1⟩;refine b8 ?_;simp
theorem Bs (B:Nat) (w:World) (n:Int) (a q m d1 d2 d3:Nat) (hq1:q<=100000) (ha:a<=100000000) (hn:n=(a:Int)) (eq1:(a:Int) / 1000=(q:Int)) (em1:(a:Int) % 1000=(m:Int)) (hm1:m < 1000) (hm0:0 < m)
  (g1:d1 < 10) (g2:d2 < 10) (g3:d3 < 10) (e1:(m:Int) / 100=(d1:Int)) (e2:(m:Int) / 10 % 10=(d2:Int)) (e3:(m:Int) % 10=(d3:Int)) (z:0 < (m:Int) % 100) (z3:d3=0)
  (Iq:List UInt8) (hIl:Iq.length<=21) (HI:Hid (QB 120 #[q] w (.string ⟨Iq.toArray⟩))):
  QB 161 #[n] w (.string ⟨([]++Iq++[46,UInt8.ofNat (48+d1),UInt8.ofNat (48+d2)]).toArray⟩):=by
 have his:(⟨Iq.toArray⟩:ByteArray).size<=21:=by simp [ByteArray.size];exact hIl
 have HG1:=aa (fun wx=>aU wx d1 g1);have HG2:=aa (fun wx=>aU wx d2 g2);have HG3:=aa (fun wx=>aU wx d3 g3);subst z3 hn;go_enter func161,ntmps161
 go_wp2_with fail
 refine HI.out.mono ?_;rintro e w1 ⟨rfl,hB1⟩;go_wp2_with fail
 refine (HG1.out _).mono ?_;rintro e w5 ⟨rfl,rfl⟩;go_wp2_with fail
 refine (HG2.out _).mono ?_;rintro e w6 ⟨rfl,rfl⟩;go_wp2;go_ret;refine ⟨?_,hB1⟩;refine b8 ?_;simp
theorem Bm (B:Nat) (w:World) (n:Int) (a q m d1 d2 d3:Nat) (hq1:q<=100000) (ha:a<=100000000) (hn:n=(a:Int)) (eq1:(a:Int) / 1000=(q:Int)) (em1:(a:Int) % 1000=(m:Int)) (hm1:m < 1000) (hm0:0 < m)
  (g1:d1 < 10) (g2:d2 < 10) (g3:d3 < 10) (e1:(m:Int) / 100=(d1:Int)) (e2:(m:Int) / 10 % 10=(d2:Int)) (e3:(m:Int) % 10=(d3:Int)) (z:0 < (m:Int) % 100) (z3:0 < d3)
  (Iq:List UInt8) (hIl:Iq.length<=21) (HI:Hid (QB 120 #[q] w (.string ⟨Iq.toArray⟩))):
  QB 161 #[n] w (.string ⟨([]++Iq++[46,UInt8.ofNat (48+d1),UInt8.ofNat (48+d2),UInt8.ofNat (48+d3)]).toArray⟩):=by
 have his:(⟨Iq.toArray⟩:ByteArray).size<=21:=by simp [ByteArray.size];exact hIl
 have HG1:=aa (fun wx=>aU wx d1 g1);have HG2:=aa (fun wx=>aU wx d2 g2);have HG3:=aa (fun wx=>aU wx d3 g3);subst hn;go_enter func161,ntmps161
 go_wp2_with fail
 refine HI.out.mono ?_;rintro e w1 ⟨rfl,hB1⟩;go_wp2_with fail
 refine (HG1.out _).mono ?_;rintro e w5 ⟨rfl,rfl⟩;go_wp2_with fail
 refine (HG2.out _).mono ?_;rintro e w6 ⟨rfl,rfl⟩;go_wp2_with fail
 refine (HG3.out _).mono ?_;rintro e w7 ⟨rfl,rfl⟩;go_wp2;go_ret;refine ⟨?_,hB1⟩;refine b8 ?_;simp
theorem jw (B:Nat) (w:World) (n:Int) (h0:-100000000<=n) (h1:n<=100000000) (ht:bU B w):
  QB 161 #[n] w (.string ⟨(bJ n).toArray⟩):=by
 have hI:=bp B w ((n.natAbs / 1000:Nat):Int) (by omega) (by omega) ht;have hIl:=av ((n.natAbs / 1000:Nat):Int) (by omega) (by omega);obtain ⟨m,hm⟩:∃ m,m=n.natAbs % 1000:=⟨_,rfl⟩;unfold bJ cq;rw [<-hm];by_cases hz:m=0
 ·rw [ZO hz,Zm];by_cases hn:n < 0
  ·rw [ZO hn];exact Bh B w n n.natAbs (n.natAbs / 1000) 0 0 0 0 (by omega) (by omega) hn (by omega) (by omega) (by omega) (by omega) (by omega) (by omega) (by omega) _ hIl hI
  ·rw [ZU hn];exact Bj B w n n.natAbs (n.natAbs / 1000) 0 0 0 0 (by omega) (by omega) (by omega) (by omega) (by omega) (by omega) (by omega) (by omega) _ hIl hI
 ·rw [ZU hz];by_cases h100:m % 100=0
  ·rw [ZO h100];by_cases hn:n < 0
   ·rw [ZO hn];exact BC B w n n.natAbs (n.natAbs / 1000) m (m / 100) (m / 10 % 10) (m % 10) (by omega) (by omega) hn (by omega) (by omega) (by omega) (by omega) (by omega) (by omega) (by omega) (by omega) (by omega) (by omega) (by omega) (by omega) (by omega) (by omega) _ hIl hI
   ·rw [ZU hn];exact BH B w n n.natAbs (n.natAbs / 1000) m (m / 100) (m / 10 % 10) (m % 10) (by omega) (by omega) (by omega) (by omega) (by omega) (by omega) (by omega) (by omega) (by omega) (by omega) (by omega) (by omega) (by omega) (by omega) (by omega) _ hIl hI
  ·rw [ZU h100];by_cases h10:m % 10=0
   ·rw [ZO h10];by_cases hn:n < 0
    ·rw [ZO hn];exact Bz B w n n.natAbs (n.natAbs / 1000) m (m / 100) (m / 10 % 10) (m % 10) (by omega) (by omega) hn (by omega) (by omega) (by omega) (by omega) (by omega) (by omega) (by omega) (by omega) (by omega) (by omega) (by omega) (by omega) (by omega) (by omega) _ hIl hI
    ·rw [ZU hn];exact Bs B w n n.natAbs (n.natAbs / 1000) m (m / 100) (m / 10 % 10) (m % 10) (by omega) (by omega) (by omega) (by omega) (by omega) (by omega) (by omega) (by omega) (by omega) (by omega) (by omega) (by omega) (by omega) (by omega) (by omega) _ hIl hI
   ·rw [ZU h10];by_cases hn:n < 0
    ·rw [ZO hn];exact Bx B w n n.natAbs (n.natAbs / 1000) m (m / 100) (m / 10 % 10) (m % 10) (by omega) (by omega) hn (by omega) (by omega) (by omega) (by omega) (by omega) (by omega) (by omega) (by omega) (by omega) (by omega) (by omega) (by omega) (by omega) (by omega) _ hIl hI
    ·rw [ZU hn];exact Bm B w n n.natAbs (n.natAbs / 1000) m (m / 100) (m / 10 % 10) (m % 10) (by omega) (by omega) (by omega) (by omega) (by omega) (by omega) (by omega) (by omega) (by omega) (by omega) (by omega) (by omega) (by omega) (by omega) (by omega) _ hIl hI
def eS (c:UInt8):List UInt8:=
 if c.toNat < 32\/126 < c.toNat then [92,UInt8.ofNat (48+c.toNat / 64),UInt8.ofNat (48+c.toNat / 8 % 8),UInt8.ofNat (48+c.toNat % 8)]
 else if c.toNat=40\/c.toNat=41\/c.toNat=92 then [92,c] else [c]
def bH:List UInt8->List UInt8
 | []=>[]
 | c::r=>eS c++bH r
def bc (l:List UInt8):List UInt8:=[40]++bH l++[41]
theorem iU (l:List UInt8) (c:UInt8):bH (l++[c])=bH l++eS c:=by
 induction l with
 | nil=>simp [bH]
 | cons d r ih=>simp only [Zy,bH,ih,ZQ]
theorem ii (l:List UInt8):(bH l).length<=4*l.length:=by
 induction l with
 | nil=>simp [bH]
 | cons d r ih=>
  have:(eS d).length<=4:=by
   unfold eS;repeat' split
   all_goals simp
  simp only [bH,ZZ,ZY];omega
theorem nG (s:ByteArray) (k:Nat) (h:k < s.size):s.extract k (k+1)=⟨#[s[k]]⟩:=by
 apply Zj;rw [YA];apply YF;rw [XZ];simp only [List.extract];rw [show k+1 - k=1 by omega,YZ (by simpa using h)];simp;rfl
theorem zP (a:List UInt8) (b:ByteArray):(⟨a.toArray⟩:ByteArray)++b=⟨(a++b.data.toList).toArray⟩:=by
 apply Zj;rw [ByteArray.data_append];apply YF;simp
theorem aT {s t:ByteArray} (h:s.data.toList=t.data.toList):Value.string s=.string t:=by
 have e:s=t:=Zj (YF h);rw [e]
theorem rK (s:ByteArray) (k:Nat) (h:k < s.size):s.data.toList.take (k+1)=s.data.toList.take k++[s[k]]:=by
 rw [ZH (by simpa using h)];rfl
theorem jr (w:World) (s:ByteArray) (hs:s.size<=10000000):
  QE 162 #[s] w (.string ⟨(bc s.data.toList).toArray⟩):=by
 go_enter func162,ntmps162
 go_wp2;go_loopg [3,4,5] (s.size+1) (fun g x i _ wr=>∃ k:Nat,∃ acc:List UInt8,k<=s.size/\s.size - k < g/\i=.int .i64 k/\x=.string ⟨acc.toArray⟩/\acc.length<=1+4*k/\Hid (acc=[40]++bH (s.data.toList.take k))/\wr=w)
 case atStart=>exact ⟨0,[40],by omega,by omega,rfl,rfl,by simp,by show _=_;simp [bH],rfl⟩
 case round=>
  obtain ⟨k,acc,hk,hg,rfl,rfl,hal,HA,rfl⟩:=hrel;have hasz:(⟨acc.toArray⟩:ByteArray).size<=1+4*k:=by simp [ByteArray.size];exact hal
  by_cases hlt:k < s.size
  ·have hc:s[k].toNat < 256:=s[k].toNat_lt;have HN:Hid (acc++eS s[k]=[40]++bH (s.data.toList.take (k+1))):=by
    show _=_
    rw [rK s k hlt,iU,HA.out,ZQ]
   have HO:=aa (nG s k hlt);have HG:Hid (∀ (wx:World) (d:Nat),d < 10->QE 120 #[.int .i64 d] wx (.string ⟨#[UInt8.ofNat (48+d)]⟩)):=fun wx d hd=>aU wx d hd
   unfold eS at HN;clear HA;obtain ⟨c,hck⟩:∃ c,s[k]=c:=⟨_,rfl⟩;rw [hck] at hc HN HO;by_cases h1:c.toNat < 32\/126 < c.toNat
   ·rw [ZO h1] at HN;obtain ⟨d1,e1⟩:∃ d1,d1=c.toNat / 64:=⟨_,rfl⟩;obtain ⟨d2,e2⟩:∃ d2,d2=c.toNat / 8 % 8:=⟨_,rfl⟩;obtain ⟨d3,e3⟩:∃ d3,d3=c.toNat % 8:=⟨_,rfl⟩;rw [<-e1, <-e2, <-e3] at HN;have i1:(c.toNat:Int) / 64=(d1:Int):=by omega
    have i2:(c.toNat:Int) / 8 % 8=(d2:Int):=by omega
    have i3:(c.toNat:Int) % 8=(d3:Int):=by omega
    have g1:d1 < 10:=by omega
    have g2:d2 < 10:=by omega
    have g3:d3 < 10:=by omega
    clear e1 e2 e3;rcases h1 with h1 | h1
    all_goals
     go_wp2_with fail
     refine (HG.out _ d1 g1).mono ?_;rintro e w1 ⟨rfl,rfl⟩;go_wp2_with fail
     refine (HG.out _ d2 g2).mono ?_;rintro e w2 ⟨rfl,rfl⟩;go_wp2_with fail
     refine (HG.out _ d3 g3).mono ?_;rintro e w3 ⟨rfl,rfl⟩;go_wp2;go_roundg (gk - 1)
     case measure=>omega
     case rel=>
      refine ⟨k+1,acc++[92,UInt8.ofNat (48+d1),UInt8.ofNat (48+d2),UInt8.ofNat (48+d3)],by omega,by omega,by go_num,?_,by simp;omega,HN.out,rfl⟩;refine aT ?_;simp
   ·rw [ZU h1] at HN;have h2:¬ c.toNat < 32:=by omega
    have h3:¬ 126 < c.toNat:=by omega
    by_cases h4:c.toNat=40\/c.toNat=41\/c.toNat=92
    ·rw [ZO h4] at HN;have b2:¬ (c.toNat:Int) < 32:=by omega
     rcases h4 with h4 | h4 | h4
     all_goals
      go_wp2;go_roundg (gk - 1)
      case measure=>omega
      case rel=>
       refine ⟨k+1,acc++[92,c],by omega,by omega,by go_num,?_,by simp;omega,HN.out,rfl⟩;rw [HO.out];refine aT ?_;simp
    ·rw [ZU h4] at HN;have h5:¬ c.toNat=40:=by omega
     have h6:¬ c.toNat=41:=by omega
     have h7:¬ c.toNat=92:=by omega
     have b5:((c.toNat:Int)==40)=false:=by simp;omega
     have b6:((c.toNat:Int)==41)=false:=by simp;omega
     have b7:((c.toNat:Int)==92)=false:=by simp;omega
     go_wp2;go_roundg (gk - 1)
     case measure=>omega
     case rel=>
      refine ⟨k+1,acc++[c],by omega,by omega,by go_num,?_,by simp;omega,HN.out,rfl⟩;rw [HO.out];refine aT ?_;simp
  ·have hkl:s.data.toList.take k=s.data.toList:=ZF (by simp;omega);have HQ:Hid (acc++[41]=bc s.data.toList):=by
    show _=_
    unfold bc;rw [HA.out,hkl]
   clear hkl HA;go_wp2;go_ret;refine ⟨?_,rfl⟩;rw [<-HQ.out];refine b8 ?_;simp
def aG:List Int->List UInt8
 | []=>[]
 | n::r=>bJ n++[32]++aG r
theorem mJ (l:List Int) (n:Int):aG (l++[n])=aG l++(bJ n++[32]):=by
 induction l with
 | nil=>simp [aG]
 | cons d r ih=>simp only [Zy,aG,ih,ZQ]
theorem wN (m:Nat):(cq m).length<=4:=by
 unfold cq
 repeat' split
 all_goals simp
theorem eu (n:Int) (h0:-100000000<=n) (h1:n<=100000000):(bJ n).length<=26:=by
 unfold bJ;have a:=av ((n.natAbs / 1000:Nat):Int) (by omega) (by omega);have b:=wN (n.natAbs % 1000);rw [ZZ,ZZ];have c:(if n < 0 then ([45]:List UInt8) else []).length<=1:=by split <;> simp
 omega
theorem rJ (B:Nat) (w:World) (b len cap:Nat) (ns:List Int) (hl:ns.length=len) (hb:b < w.heap.size) (hlen:len<=100) (hc:∀ (j:Nat) z,ns[j]? =some z->w.cell? (zq b (0+j))=z) (hn:∀ z∈ns,-100000000<=z/\z<=100000000) (hB:B<=w.heap.size) (ht:bU B w):
  QB 170 #[.slice b len cap] w (.string ⟨(aG ns).toArray⟩):=by
 go_enter func170,ntmps170
 go_wp2;go_loopg [3,5,8] (len+1) (fun g x _ i wr=>∃ k:Nat,∃ acc:List UInt8,k<=len/\len - k < g/\i=.int .i64 k/\x=.string ⟨acc.toArray⟩/\acc.length<=27*k/\Hid (acc=aG (ns.take k))/\Below w w wr)
 case atStart=>exact ⟨0,[],by omega,by omega,rfl,rfl,by simp,by show _=_;simp [aG],ZV _ _⟩
 case round=>
  obtain ⟨k,acc,hk,hg,rfl,rfl,hal,HA,hBw⟩:=hrel;have hasz:(⟨acc.toArray⟩:ByteArray).size<=27*k:=by simp [ByteArray.size];exact hal
  by_cases hlt:k < len
  ·have hkn:k < ns.length:=by omega
   have hz:ns[k]? =some ns[k]:=ZK hkn;have hcell:=(hBw.cell (p:=zq b (0+k)) hb).trans (hc k _ hz);have hzb:=hn ns[k] (YK hkn);have HN:Hid (acc++(bJ ns[k]++[32])=aG (ns.take (k+1))):=by
    show _=_
    rw [ZH hkn,mJ,HA.out]
   have hT:bU B wr:=ht.on ⟨hBw.os,hBw.tape,hBw.output,hBw.size,fun i hi=>hBw.block i (ZR hi hB)⟩;have hwr:w.heap.size<=wr.heap.size:=hBw.size;rw [Zc] at hcell;clear hz hc hn HA;generalize ns[k]=z at*;have HL:=aa (jz B wr z hzb.1 hzb.2 (by omega) hT);have hll:=eu z hzb.1 hzb.2;generalize bJ z=lz at*;have hlz:(⟨lz.toArray⟩:ByteArray).size<=26:=by simp [ByteArray.size];exact hll
   go_wp2_with fail
   refine HL.out.mono ?_;rintro e w1 ⟨rfl,hB1⟩;go_wp2;go_roundg (gk - 1)
   case measure=>omega
   case rel=>
    refine ⟨k+1,acc++(lz++[32]),by omega,by omega,by go_num,?_,by simp;omega,HN.out,hBw.trans (hB1.mono hwr)⟩;refine aT ?_;simp
  ·have hkl:ns.take k=ns:=ZF (by omega);have HQ:Hid (acc=aG ns):=by show _=_;rw [HA.out,hkl]
   clear hkl HA hc hn;go_wp2;go_ret;refine ⟨?_,hBw⟩;rw [<-HQ.out];rfl
section
open Go.RowKit Go.Shelf
def xB:Go.Shelf.Ren:=⟨fun | 240=>216 | 276=>246 | 167=>214 | 166=>183 | n=>n,fun | 0=>0 | 3=>3 | 4=>4 | 5=>5 | 9=>9 | 20=>20 | 37=>66 | 70=>230 | 72=>232 | 75=>127 | 80=>58 | 164=>286 | n=>n,fun | n=>n⟩
theorem Bu:Lays.n167 prog xB:={
 mixed:=by kernel_rfl
 f167:=Tryz.func214.trans (congrArg some (by kernel_rfl))
 f240:=Tryz.func216.trans (congrArg some (by kernel_rfl))
 f276:=Tryz.func246.trans (congrArg some (by kernel_rfl))
 t0:=underlying0
 a0:=Tryz.isAgg0
 z0:=Tryz.sizeOf0
 v0:=Tryz.zeroValue0
 t4:=underlying4
 a4:=Tryz.isAgg4
 z4:=Tryz.sizeOf4
 v4:=Tryz.zeroValue4
 t5:=underlying5
 a5:=Tryz.isAgg5
 z5:=Tryz.sizeOf5
 v5:=Tryz.zeroValue5
 t9:=underlying9
 a9:=Tryz.isAgg9
 z9:=Tryz.sizeOf9
 v9:=Tryz.zeroValue9
 t20:=underlying20
 a20:=Tryz.isAgg20
 z20:=Tryz.sizeOf20
 v20:=Tryz.zeroValue20
 t37:=underlying66
 a37:=Tryz.isAgg66
 z37:=Tryz.sizeOf66
 v37:=Tryz.zeroValue66
 t70:=underlying230
 a70:=Tryz.isAgg230
 z70:=Tryz.sizeOf230
 v70:=Tryz.zeroValue230
 t72:=underlying232
 a72:=Tryz.isAgg232
 z72:=Tryz.sizeOf232
 v72:=Tryz.zeroValue232
 t75:=underlying127
 a75:=Tryz.isAgg127
 z75:=Tryz.sizeOf127
 v75:=Tryz.zeroValue127
 t164:=underlying286
 a164:=Tryz.isAgg286
 z164:=Tryz.sizeOf286
 v164:=Tryz.zeroValue286}
theorem Br:Lays.n166 prog xB:={
 mixed:=by kernel_rfl
 f166:=Tryz.func183.trans (congrArg some (by kernel_rfl))
 f240:=Tryz.func216.trans (congrArg some (by kernel_rfl))
 f276:=Tryz.func246.trans (congrArg some (by kernel_rfl))
 t0:=underlying0
 a0:=Tryz.isAgg0
 z0:=Tryz.sizeOf0
 v0:=Tryz.zeroValue0
 t3:=underlying3
 a3:=Tryz.isAgg3
 z3:=Tryz.sizeOf3
 v3:=Tryz.zeroValue3
 t4:=underlying4
 a4:=Tryz.isAgg4
 z4:=Tryz.sizeOf4
 v4:=Tryz.zeroValue4
 t9:=underlying9
 a9:=Tryz.isAgg9
 z9:=Tryz.sizeOf9
 v9:=Tryz.zeroValue9
 t20:=underlying20
 a20:=Tryz.isAgg20
 z20:=Tryz.sizeOf20
 v20:=Tryz.zeroValue20
 t37:=underlying66
 a37:=Tryz.isAgg66
 z37:=Tryz.sizeOf66
 v37:=Tryz.zeroValue66
 t70:=underlying230
 a70:=Tryz.isAgg230
 z70:=Tryz.sizeOf230
 v70:=Tryz.zeroValue230
 t72:=underlying232
 a72:=Tryz.isAgg232
 z72:=Tryz.sizeOf232
 v72:=Tryz.zeroValue232
 t75:=underlying127
 a75:=Tryz.isAgg127
 z75:=Tryz.sizeOf127
 v75:=Tryz.zeroValue127
 t164:=underlying286
 a164:=Tryz.isAgg286
 z164:=Tryz.sizeOf286
 v164:=Tryz.zeroValue286}
theorem BR:Builder.Extra prog xB:={
 sizeBuilder:=by kernel_rfl
 liesBuilder:=by kernel_rfl
 t5:=underlying5
 a5:=Tryz.isAgg5
 z5:=Tryz.sizeOf5
 v5:=Tryz.zeroValue5
 infoByte:=by kernel_rfl
 cellsByte:=by kernel_rfl
 sizeByte:=by kernel_rfl
 neB5:=by decide}
def nT (B b:Nat) (l:List UInt8) (w:World):Prop:=Lib.IsBuilder 232 5 B b (Lib.byteCells l) w
theorem nn (l:List UInt8) (c:UInt8):Lib.byteCells (l++[c])=Lib.byteCells l++[.int .u8 c.toNat]:=by
 simp [Lib.byteCells]
theorem nF (B b:Nat) (l:List UInt8) (c:UInt8) (z:Int) (hz:z=c.toNat) (w:World) (h:nT B b l w) (hl:l.length < 1000000000000) (hB:B<=w.heap.size):
  CP 214 #[zp b,.int .u8 z] w fun e w'=>e=.returned .nilIface/\nT B b (l++[c]) w'/\Below B w w':=by
 subst hz;refine (Any.Builder_WriteByte Bu BR B b (Lib.byteCells l) c.toNat w h (by rw [Lib.byteCells_length];omega) hB).mono ?_;rintro e w' ⟨rfl,h1,h2⟩;refine ⟨rfl,?_,h2⟩;unfold nT;rw [nn];exact .inr h1
theorem jX (B b:Nat) (l:List UInt8) (s:ByteArray) (w:World) (h:nT B b l w) (hl:l.length+s.size < 1000000000000) (hB:B<=w.heap.size):
  CP 183 #[zp b,s] w fun e w'=>e=.returned (.tuple #[s.size,.nilIface])/\nT B b (l++s.data.toList) w'/\Below B w w':=by
 refine (Any.Builder_WriteString Br BR B b (Lib.byteCells l) s w h (by rw [Lib.byteCells_length];omega) hB).mono ?_;rintro e w' ⟨rfl,h1,h2⟩;refine ⟨rfl,?_,h2⟩;unfold nT;have:Lib.byteCells (l++s.data.toList)=Lib.byteCells l++Lib.strCells s:=by
  simp [Lib.byteCells,Lib.strCells]
 rw [this];exact .inr h1
theorem uH (B b:Nat) (l:List UInt8) (w:World) (h:nT B b l w) (hB:B<=w.heap.size):
  CP 185 #[zp b] w fun e w'=>e=.returned (.string ⟨l.toArray⟩)/\Below B w w':=
 Tryz.Builder_String_any B b l w h hB
end
theorem ru (B b:Nat) (l:List UInt8) (c:UInt8) (w:World) (h:nT B b l w) (hl:l.length < 100000000) (hB:B<=w.heap.size):
  CP 215 #[zp b,.int .u8 c.toNat] w fun e w'=>e=.returned (.tuple #[])/\nT B b (l++eS c) w'/\Below B w w':=by
 have hc:c.toNat < 256:=c.toNat_lt;have H:=aa h;clear h;have HG:Hid (∀ (l':List UInt8) (wx:World),nT B b l' wx->l'.length < 1000000000000->B<=wx.heap.size->∀ (d:UInt8) (z:Int),z=d.toNat->CP 214 #[zp b,.int .u8 z] wx fun e w'=>e=.returned .nilIface/\nT B b (l'++[d]) w'/\Below B wx w'):=fun l' wx h1 h2 h3 d z hz=>nF B b l' d z hz wx h1 h2 h3
 go_enter func215,ntmps215
 by_cases h4:c.toNat=40\/c.toNat=41\/c.toNat=92
 ·have HE:Hid (eS c=[92,c]):=by
   show _=_
   unfold eS;rw [ZU (by omega),ZO h4]
  rcases h4 with h4 | h4 | h4
  all_goals
   go_wp2_with fail
   refine (HG.out l _ H.out (by omega) hB 92 _ rfl).mono ?_;rintro e w1 ⟨rfl,h1,hB1⟩;have H1:=aa h1;have hs1:B<=w1.heap.size:=ZN hB hB1.size;clear h1;go_wp2_with fail
   refine (HG.out _ _ H1.out (by simp;omega) hs1 c _ (by omega)).mono ?_;rintro e w2 ⟨rfl,h2,hB2⟩;have H2:=aa h2;clear h2;go_wp2;go_end0;refine ⟨rfl,?_,hB1.trans hB2⟩;rw [HE.out];have:=H2.out;rwa [ZQ] at this
 ·have h5:¬ c.toNat=40:=by omega
  have h6:¬ c.toNat=41:=by omega
  have h7:¬ c.toNat=92:=by omega
  have b5:((c.toNat:Int)==40)=false:=by simp;omega
  have b6:((c.toNat:Int)==41)=false:=by simp;omega
  have b7:((c.toNat:Int)==92)=false:=by simp;omega
  by_cases h1:c.toNat < 32\/126 < c.toNat
  ·have HE:Hid (eS c=[92,UInt8.ofNat (48+c.toNat / 64),UInt8.ofNat (48+c.toNat / 8 % 8),UInt8.ofNat (48+c.toNat % 8)]):=by
    show _=_
    unfold eS;rw [ZO h1]
   rcases h1 with h1 | h1
   all_goals
    go_wp2_with fail
    refine (HG.out l _ H.out (by omega) hB 92 _ rfl).mono ?_;rintro e w1 ⟨rfl,h1,hB1⟩;have H1:=aa h1;have hs1:B<=w1.heap.size:=ZN hB hB1.size;clear h1;go_wp2_with fail
    refine (HG.out _ _ H1.out (by simp;omega) hs1 (UInt8.ofNat (48+c.toNat / 64)) _ ?_).mono ?_
    ·rw [Xr];omega
    rintro e w2 ⟨rfl,h2,hB2⟩;have H2:=aa h2;have hs2:B<=w2.heap.size:=ZN hs1 hB2.size;clear h2;go_wp2_with fail
    refine (HG.out _ _ H2.out (by simp;omega) hs2 (UInt8.ofNat (48+c.toNat / 8 % 8)) _ ?_).mono ?_
    ·rw [Xr];omega
    rintro e w3 ⟨rfl,h3,hB3⟩;have H3:=aa h3;have hs3:B<=w3.heap.size:=ZN hs2 hB3.size;clear h3;go_wp2_with fail
    refine (HG.out _ _ H3.out (by simp;omega) hs3 (UInt8.ofNat (48+c.toNat % 8)) _ ?_).mono ?_
    ·rw [Xr];omega
    rintro e w4 ⟨rfl,h4,hB4⟩;have H4:=aa h4;clear h4;go_wp2;go_end0;refine ⟨rfl,?_,((hB1.trans hB2).trans hB3).trans hB4⟩;rw [HE.out];have:=H4.out;simpa using this
  ·have HE:Hid (eS c=[c]):=by
    show _=_
    unfold eS;rw [ZU h1,ZU h4]
   have h2:¬ c.toNat < 32:=by omega
   have h3:¬ 126 < c.toNat:=by omega
   have b2:¬ (c.toNat:Int) < 32:=by omega
   go_wp2_with fail
   refine (HG.out l _ H.out (by omega) hB c _ rfl).mono ?_;rintro e w1 ⟨rfl,h1,hB1⟩;have H1:=aa h1;clear h1;go_wp2;go_end0;refine ⟨rfl,?_,hB1⟩;rw [HE.out];exact H1.out
theorem jK (w:World) (s:ByteArray) (hs:s.size<=10000000):
  QB 179 #[s] w (.string ⟨(bc s.data.toList).toArray⟩):=by
 have HF:Hid (nT w.heap.size w.heap.size [] (w.alloc (Obj.cells #[Value.pointer none,Value.slice none 0 0] 232))):=Lib.fresh_isBuilder 232 5 w;have HG:Hid (∀ (l':List UInt8) (wx:World),nT w.heap.size w.heap.size l' wx->l'.length < 1000000000000->w.heap.size<=wx.heap.size->∀ (d:UInt8) (z:Int),z=d.toNat->CP 214 #[zp w.heap.size,.int .u8 z] wx fun e w'=>e=.returned .nilIface/\nT w.heap.size w.heap.size (l'++[d]) w'/\Below w wx w'):=fun l' wx h1 h2 h3 d z hz=>nF _ _ l' d z hz wx h1 h2 h3
 have HE:Hid (∀ (l':List UInt8) (wx:World),nT w.heap.size w.heap.size l' wx->l'.length < 100000000->w.heap.size<=wx.heap.size->∀ (d:UInt8),CP 215 #[zp w.heap.size,.int .u8 d.toNat] wx fun e w'=>e=.returned (.tuple #[])/\nT w.heap.size w.heap.size (l'++eS d) w'/\Below w wx w'):=fun l' wx h1 h2 h3 d=>ru _ _ l' d wx h1 h2 h3
 go_enter func179,ntmps179
 go_wp2_with fail
 refine (HG.out [] _ HF.out (by decide) (by simp) 40 _ rfl).mono ?_;rintro e w1 ⟨rfl,h1,hB1⟩;have H1:=aa h1;have HB1:Hid (Below w w w1):=((ZV w.heap.size w).alloc (ZX _) _).trans hB1;clear h1 hB1 HF;go_wp2;go_loopg [4] (s.size+1) (fun g i wr=>∃ k:Nat,∃ acc:List UInt8,k<=s.size/\s.size - k < g/\i=.int .i64 k/\acc.length<=1+4*k/\Hid (acc=[40]++bH (s.data.toList.take k))/\Hid (nT w.heap.size w.heap.size acc wr)/\Hid (Below w w wr))
 case atStart=>exact ⟨0,[40],by omega,by omega,rfl,by simp,by show _=_;simp [bH],H1,HB1⟩
 case round=>
  obtain ⟨k,acc,hk,hg,rfl,hal,HA,HI,HW⟩:=hrel;have hws:w.heap.size<=wr.heap.size:=HW.out.size;by_cases hlt:k < s.size
  ·have HN:Hid (acc++eS s[k]=[40]++bH (s.data.toList.take (k+1))):=by
    show _=_
    rw [rK s k hlt,iU,HA.out,ZQ]
   clear HA;obtain ⟨c,hck⟩:∃ c,s[k]=c:=⟨_,rfl⟩;rw [hck] at HN;have hel:(eS c).length<=4:=by
    unfold eS
    repeat' split
    all_goals simp
   go_wp2_with fail
   refine (HE.out acc _ HI.out (by omega) hws c).mono ?_;rintro e w2 ⟨rfl,h2,hB2⟩;have H2:=aa h2;have HB2:Hid (Below w w w2):=HW.out.trans hB2;clear h2 hB2;go_wp2;go_roundg (gk - 1)
   case measure=>omega
   case rel=>exact ⟨k+1,_,by omega,by omega,by go_num,by rw [ZZ];omega,HN,H2,HB2⟩
  ·have hkl:s.data.toList.take k=s.data.toList:=ZF (by simp;omega);have HQ:Hid (acc++[41]=bc s.data.toList):=by
    show _=_
    unfold bc;rw [HA.out,hkl]
   clear hkl HA;go_wp2_with fail
   refine (HG.out acc _ HI.out (by omega) hws 41 _ rfl).mono ?_;rintro e w2 ⟨rfl,h2,hB2⟩;have H2:=aa h2;have HB2:Hid (Below w w w2):=HW.out.trans hB2;have hs2:w.heap.size<=w2.heap.size:=ZN hws hB2.size;clear h2 hB2;go_wp2_with fail
   refine (uH w.heap.size w.heap.size _ _ H2.out hs2).mono ?_;rintro e w3 ⟨rfl,hB3⟩;go_wp2;go_ret;rw [HQ.out];exact ⟨rfl,HB2.out.trans hB3⟩
def au (s:ByteArray) (a:Nat) (t:List UInt8):Prop:=∃ P R,s.data.toList=P++(t++R)/\P.length=a
theorem au.le {s:ByteArray} {a:Nat} {t:List UInt8} (h:au s a t):a+t.length<=s.size:=by
 obtain ⟨P,R,e,rfl⟩:=h;have h2:=congrArg List.length e;simp at h2;omega
theorem au.left {s:ByteArray} {a:Nat} {t u:List UInt8} (h:au s a (t++u)):au s a t:=by
 obtain ⟨P,R,e,rfl⟩:=h;exact ⟨P,u++R,by rw [e];simp,rfl⟩
theorem au.right {s:ByteArray} {a:Nat} {t u:List UInt8} (h:au s a (t++u)):au s (a+t.length) u:=by
 obtain ⟨P,R,e,rfl⟩:=h;exact ⟨P++t,R,by rw [e];simp,by simp⟩
theorem au.get {s:ByteArray} {a:Nat} {t:List UInt8} (h:au s a t) (i:Nat) (hi:i < t.length):∃ hl:a+i < s.size,s[a+i]=t[i]:=by
 have hle:=h.le;refine ⟨by omega,?_⟩;obtain ⟨P,R,e,rfl⟩:=h;have h1:s.data.toList[P.length+i]? =some t[i]:=by
  rw [e,YQ (by omega),Za (by omega),XS];exact ZK hi
 have h2:s.data.toList[P.length+i]? =some s[P.length+i]:=by
  rw [ZK (by simp;omega)];rfl
 rw [h2] at h1;exact Zd h1
theorem au.byte {s:ByteArray} {a:Nat} {c:UInt8} {t:List UInt8} (h:au s a (c::t)):∃ hl:a < s.size,s[a]=c:=h.get 0 (by simp)
theorem au.ext {s:ByteArray} {a:Nat} {t:List UInt8} (h:au s a t):s.extract a (a+t.length)=⟨t.toArray⟩:=by
 obtain ⟨P,R,e,rfl⟩:=h;apply Zj;rw [YA];apply YF;rw [XZ];simp only [List.extract,e];rw [List.drop_left,XS,List.take_left]
theorem au.of_ext {s:ByteArray} {a:Nat} {t:List UInt8} (h:s.extract a (a+t.length)=⟨t.toArray⟩) (hl:a+t.length<=s.size):au s a t:=by
 have h2:=congrArg (fun x:ByteArray=>x.data.toList) h;simp only [YA,XZ,List.extract,XS] at h2;refine ⟨s.data.toList.take a,s.data.toList.drop (a+t.length),?_,?_⟩
 ·have h3:t++s.data.toList.drop (a+t.length)=s.data.toList.drop a:=by
   have h4:=YI t.length (s.data.toList.drop a);rw [h2,List.drop_drop] at h4;exact h4
  rw [h3,YI]
 ·simp;omega
theorem au.of_eq {s:ByteArray} {P t R:List UInt8} (h:s.data.toList=P++(t++R)):au s P.length t:=⟨P,R,h,rfl⟩
theorem au.head {s:ByteArray} {a:Nat} {t u:List UInt8} (h:au s a t) (g:au s a u) (hl:u.length<=t.length):t.take u.length=u:=by
 obtain ⟨P,R,e,rfl⟩:=h;obtain ⟨P',R',e',h'⟩:=g;have h3:P++(t++R)=P'++(u++R'):=by rw [<-e,e']
 obtain ⟨h4,h5⟩:=List.append_inj h3 h'.symm;have h6:=congrArg (List.take u.length) h5;rw [List.take_left,XK hl] at h6;exact h6
def fS (l:List UInt8):Nat:=l.foldl (fun n c=>10*n+(c.toNat - 48)) 0
theorem i_ (l:List UInt8) (c:UInt8):fS (l++[c])=10*fS l+(c.toNat - 48):=by simp [fS]
theorem fG (d:Nat) (h:d < 10):(UInt8.ofNat (48+d)).toNat=48+d:=by
 rw [Xr];omega
theorem mF (u:Nat):fS (Lib.decDigits u)=u:=by
 induction u using Nat.strongRecOn with
 | _ u ih=>
  rw [Lib.decDigits];split
  ·simp [fS];rw [show (48+u) % 256=48+u by omega];omega
  ·rw [i_,ih (u / 10) (by omega),fG _ (by omega)];omega
theorem mV (u:Nat):∀ c∈Lib.decDigits u,48<=c.toNat/\c.toNat<=57:=by
 induction u using Nat.strongRecOn with
 | _ u ih=>
  rw [Lib.decDigits];split
  ·intro c hc;rw [List.mem_singleton.mp hc,fG _ (by omega)];omega
  ·intro c hc;rcases List.mem_append.mp hc with h | h
   ·exact ih (u / 10) (by omega) c h
   ·rw [List.mem_singleton.mp h,fG _ (by omega)];omega
theorem xN (u:Nat) (h:0 < u):∃ c r,Lib.decDigits u=c::r/\c.toNat≠48:=by
 induction u using Nat.strongRecOn with
 | _ u ih=>
  rw [Lib.decDigits];split
  ·exact ⟨_,[],rfl,by rw [fG _ (by omega)];omega⟩
  ·obtain ⟨c,r,e,hc⟩:=ih (u / 10) (by omega) (by omega);exact ⟨c,r++[_],by rw [e];rfl,hc⟩
theorem uB (u k:Nat) (h:u < 10 ^ (k+1)):(Lib.decDigits u).length<=k+1:=by
 induction k generalizing u with
 | zero=>rw [Lib.decDigits,dif_pos (by omega)];simp
 | succ k ih=>
  rw [Lib.decDigits];split
  ·simp
  ·have:=ih (u / 10) (by rw [Nat.pow_succ] at h;omega);simp;omega
theorem rj (u:Nat) (k:Nat):fS ((Lib.decDigits u).take k)<=u:=by
 induction u using Nat.strongRecOn generalizing k with
 | _ u ih=>
  rw [Lib.decDigits];split
  ·cases k with
   | zero=>simp [fS]
   | succ k=>simp [fS];rw [show (48+u) % 256=48+u by omega];omega
  ·rw [List.take_append];by_cases hk:k<=(Lib.decDigits (u / 10)).length
   ·have:=ih (u / 10) (by omega) k;rw [show k - (Lib.decDigits (u / 10)).length=0 by omega];simp;omega
   ·rw [ZF (by omega),ZF (by simp;omega),i_,mF,fG _ (by omega)];omega
theorem au.no {s:ByteArray} {a:Nat} (p x y:List UInt8) (h:au s a (p++x)) (hl:y.length<=x.length) (hne:x.take y.length≠y):¬ au s a (p++y):=by
 intro g;have h2:=h.head g (by simp;omega);rw [ZZ,List.take_append] at h2;rw [ZF (by omega),XS] at h2;exact hne (List.append_cancel_left h2)
theorem au.none {s:ByteArray} {a:Nat} {t:List UInt8} (h:s.size < a+t.length):¬ au s a t:=fun g=>by have:=g.le;omega
theorem au.cons {s:ByteArray} {a:Nat} {c:UInt8} {t:List UInt8} (h:au s a (c::t)):au s (a+1) t:=au.right (t:=[c]) h
def cV:Nat->List UInt8->Nat
 | _,[]=>0
 | f,d::r=>f*(d.toNat - 48)+cV (f / 10) r
theorem jQ (f:Nat) (l:List UInt8) (c:UInt8):cV f (l++[c])=cV f l+f / 10 ^ l.length*(c.toNat - 48):=by
 induction l generalizing f with
 | nil=>simp [cV]
 | cons d r ih=>
  simp only [Zy,cV,ih,ZY];rw [Ye,show 10 ^ (r.length+1)=10*10 ^ r.length by rw [Nat.pow_succ,XX],Zn]
theorem Ai:∀ m:Nat,m < 1000->cV 100 ((cq m).drop 1)=m/\(∀ c∈(cq m).drop 1,48<=c.toNat/\c.toNat<=57)/\((cq m).drop 1).length<=3/\(m≠0->cq m=46::(cq m).drop 1):=by decide+kernel
theorem vi:∀ m:Nat,m < 1000->∀ k:Nat,k < 4->cV 100 (((cq m).drop 1).take k)<=999:=by decide+kernel
structure bj where
 k:Int
 a:Int
 b:Int
 c:Int
 d:Int
 e:Int
 co:Int
 ro:Int
 s:ByteArray
def bj.text (o:bj):List UInt8:=
 if o.k=1 then [66,84,32,47,70,49,32]++(aG [o.c]++([84,102,32]++(aG [o.a,o.b]++([84,100,32]++(bc o.s.data.toList++[32,84,106,32,69,84,10])))))
 else if o.k=2 then aG [o.e]++([119,32]++(aG [o.a,o.b]++([109,32]++(aG [o.c,o.d]++[108,32,83,10]))))
 else if o.k=3 then aG [o.e]++([103,32]++(aG [o.a,o.b,o.c,o.d]++[114,101,32,102,10]))
 else [113,32]++(aG [o.c]++([48,32,48,32]++(aG [o.d,o.a,o.b]++([99,109,32,66,73,32,47,87,32]++(Lib.itoa o.co++([32,47,72,32]++(Lib.itoa o.ro++([32,47,67,83,32,47,71,32,47,66,80,67,32,56,32,73,68,32]++(o.s.data.toList++[10,69,73,32,81,10])))))))))
def bG (n lo hi:Int):Prop:=lo<=n/\n<=hi
instance (n lo hi:Int):Decidable (bG n lo hi):=inferInstanceAs (Decidable (_/\_))
def bj.is (o:bj):Prop:=
 bG o.a (-14400000) 14400000/\bG o.b (-14400000) 14400000/\
 ((o.k=1/\bG o.c 1 14400000/\o.d=0/\o.e=0/\o.co=0/\o.ro=0/\o.s.size<=100)\/
  (o.k=2/\bG o.c (-14400000) 14400000/\bG o.d (-14400000) 14400000/\bG o.e 0 14400000/\o.co=0/\o.ro=0/\o.s.size=0)\/
  (o.k=3/\bG o.c 0 14400000/\bG o.d 0 14400000/\bG o.e 0 1000/\o.co=0/\o.ro=0/\o.s.size=0)\/
  (o.k=4/\bG o.c 1 14400000/\bG o.d 1 14400000/\bG o.co 1 64/\bG o.ro 1 64/\o.e=0/\(o.s.size:Int)=o.co*o.ro))
instance (o:bj):Decidable o.is:=inferInstanceAs (Decidable (_/\_))
def bE:List bj->List UInt8
 | []=>[]
 | o::r=>o.text++bE r
theorem f9 (l:List bj) (o:bj):bE (l++[o])=bE l++o.text:=by
 induction l with
 | nil=>simp [bE]
 | cons a r ih=>simp only [Zy,bE,ih,ZQ]
theorem bj.text_ne (o:bj):o.text≠[]:=by
 unfold bj.text
 repeat' split
 all_goals simp [aG]
end Go.Proofs.YtbklfkpjoinofaaGreatDoor
