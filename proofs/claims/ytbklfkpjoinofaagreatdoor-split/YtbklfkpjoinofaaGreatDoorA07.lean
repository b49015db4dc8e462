import Derived.Test.YtbklfkpjoinofaaGreatDoorA03
import Derived.Test.YtbklfkpjoinofaaGreatDoorA01
import Derived.Lib.AppendIntMem
import Derived.Lib.ItoaLen
set_option linter.all false
set_option maxRecDepth 100000
set_option maxHeartbeats 8000000
namespace Go.Proofs.YtbklfkpjoinofaaGreatDoor
open Go.RowKit Go.Proofs.Tryz
abbrev bU (B:Nat) (w:World):Prop:=Lib.TabBelow prog B w "internal/strconv.uint64pow10" .u64 Lib.pow10Tab
theorem tq (w:World) (k:Nat) (os:Array Obj):Below w w (Sort.grow (w.drewN k) os):=
 ⟨rfl,rfl,rfl,by show w.heap.size<=(w.heap++os).size;simp,fun i hi=>by show (w.heap++os)[i]? =w.heap[i]?;exact Array.getElem?_append_left hi⟩
theorem bp (B:Nat) (w:World) (n:Int) (h0:-9223372036854775808<=n) (h1:n<=9223372036854775807) (ht:bU B w):
  QB 120 #[n] w (.string ⟨(Lib.itoa n).toArray⟩):=by
 refine (Tryz.strconv_Itoa n h0 h1 w ht.here).mono ?_;rintro e w' ⟨rfl,k,os,rfl⟩;exact ⟨rfl,tq w k os⟩
def aD (n:Int):List UInt8:=Lib.itoa n++[32,48,32,82]
theorem an (a b:List UInt8):(⟨a.toArray⟩:ByteArray)++⟨b.toArray⟩=⟨(a++b).toArray⟩:=by
 apply Zd;rw [ByteArray.data_append];simp
theorem ar (n:Int) (h0:-9223372036854775808<=n) (h1:n<=9223372036854775807):(Lib.itoa n).length<=21:=Lib.itoa_length_le n h0 h1
theorem lB (B:Nat) (w:World) (n:Int) (h0:-9223372036854775808<=n) (h1:n<=9223372036854775807) (ht:bU B w):
  QB 180 #[n] w (.string ⟨(aD n).toArray⟩):=by
 have HI:=ai (bp B w n h0 h1 ht);have hl:=ar n h0 h1;have HA:=ai (an (Lib.itoa n) [32,48,32,82]);have hs:(⟨(Lib.itoa n).toArray⟩:ByteArray).size<=21:=by simp [ByteArray.size];exact hl
 unfold aD;go_enter func180,ntmps180
 go_wp2_with fail
 refine HI.out.mono ?_;rintro e w1 ⟨rfl,hB⟩;go_wp2;go_ret;refine ⟨?_,hB⟩;rw [<-HA.out];rfl
def cq (m:Nat):List UInt8:=
 if m=0 then [] else if m % 100=0 then [46,UInt8.ofNat (48+m / 100)] else if m % 10=0 then [46,UInt8.ofNat (48+m / 100),UInt8.ofNat (48+m / 10 % 10)] else [46,UInt8.ofNat (48+m / 100),UInt8.ofNat (48+m / 10 % 10),UInt8.ofNat (48+m % 10)]
def bJ (n:Int):List UInt8:=(if n < 0 then [45] else [])++Lib.itoa (n.natAbs / 1000:Nat)++cq (n.natAbs % 1000)
theorem vL:∀ m:Nat,m < 1000->0 < m->[46]++Lib.trimRightB ((Lib.itoa ((1000+m:Nat):Int)).drop 1) 48=cq m/\(Lib.itoa ((1000+m:Nat):Int)).length=4:=by decide+kernel
theorem o7 (l:List UInt8) (h:l.length=4):(⟨l.toArray⟩:ByteArray).extract 1 4=⟨(l.drop 1).toArray⟩:=by
 apply Zd;rw [Zg];apply Yl;simp [List.extract];rw [Zy (by simp;omega)]
theorem sv {s t:ByteArray} (h:s.data.toList=t.data.toList):Ending.returned s=.returned t:=by
 have e:s=t:=Zd (Yl h);rw [e]
theorem AX (B:Nat) (w:World) (n:Int) (a q m:Nat) (hq1:q<=100000) (ha:a<=100000000) (hn:n < 0) (hna:-n=(a:Int)) (hnl:-100000000<=n) (eq1:(a:Int) / 1000=(q:Int)) (em1:(a:Int) % 1000=0) (ht:bU B w) (hB:B<=w.heap.size)
  (Iq dg tr:List UInt8) (hIl:Iq.length<=21) (HI:Hid (QB 120 #[q] w (.string ⟨Iq.toArray⟩)))
  :QB 211 #[n] w (.string ⟨([45]++Iq).toArray⟩):=by
 have his:(⟨Iq.toArray⟩:ByteArray).size<=21:=by simp [ByteArray.size];exact hIl
 go_enter func211,ntmps211
 go_wp2_with fail
 refine HI.out.mono ?_;rintro e w1 ⟨rfl,hB1⟩;go_wp2;go_ret;refine ⟨?_,hB1⟩;refine sv ?_;simp
theorem By (B:Nat) (w:World) (n:Int) (a q m:Nat) (hq1:q<=100000) (hm1:m < 1000) (hz:0 < m) (ha:a<=100000000) (hn:n < 0) (hna:-n=(a:Int)) (hnl:-100000000<=n) (eq1:(a:Int) / 1000=(q:Int)) (em1:(a:Int) % 1000=(m:Int)) (ht:bU B w) (hB:B<=w.heap.size)
  (Iq dg tr:List UInt8) (hIl:Iq.length<=21) (HI:Hid (QB 120 #[q] w (.string ⟨Iq.toArray⟩)))
  (hdl:dg.length=4) (htl:tr.length<=3) (HI2:Hid (∀ wx,bU B wx->QB 120 #[(1000+(m:Int):Int)] wx (.string ⟨dg.toArray⟩)))
  (HT:Hid (∀ wx,QE 244 #[.string ⟨(dg.drop 1).toArray⟩,.string ⟨#[48]⟩] wx (.string ⟨tr.toArray⟩)))
  :QB 211 #[n] w (.string ⟨([45]++Iq++([46]++tr)).toArray⟩):=by
 have his:(⟨Iq.toArray⟩:ByteArray).size<=21:=by simp [ByteArray.size];exact hIl
 have hds:(⟨dg.toArray⟩:ByteArray).size=4:=by simp [ByteArray.size];exact hdl
 have hts:(⟨tr.toArray⟩:ByteArray).size<=3:=by simp [ByteArray.size];exact htl
 have HD:=ai (o7 dg hdl);have hm0:¬ m=0:=by omega
 have hmb:((m:Int)==0)=false:=by simp;omega
 go_enter func211,ntmps211
 go_wp2_with fail
 refine HI.out.mono ?_;rintro e w1 ⟨rfl,hB1⟩;have hT1:bU B w1:=ht.on ⟨hB1.os,hB1.tape,hB1.output,hB1.size,fun k hk=>hB1.block k (ZK hk hB)⟩;have HI3:=ai (HI2.out w1 hT1);clear HI2;go_wp2_with fail
 refine HI3.out.mono ?_;rintro e w2 ⟨rfl,hB2⟩;go_wp2_with fail
 rw [HD.out];refine (HT.out w2).mono ?_;rintro e w3 ⟨rfl,rfl⟩;go_wp2;go_ret;refine ⟨?_,hB1.trans (hB2.mono hB1.size)⟩;refine sv ?_;simp
theorem AA (B:Nat) (w:World) (n:Int) (a q m:Nat) (hq1:q<=100000) (ha:a<=100000000) (hn:n=(a:Int)) (eq1:(a:Int) / 1000=(q:Int)) (em1:(a:Int) % 1000=0) (ht:bU B w) (hB:B<=w.heap.size)
  (Iq dg tr:List UInt8) (hIl:Iq.length<=21) (HI:Hid (QB 120 #[q] w (.string ⟨Iq.toArray⟩)))
  :QB 211 #[n] w (.string ⟨([]++Iq).toArray⟩):=by
 have his:(⟨Iq.toArray⟩:ByteArray).size<=21:=by simp [ByteArray.size];exact hIl
 subst hn;go_enter func211,ntmps211
 go_wp2_with fail
 refine HI.out.mono ?_;rintro e w1 ⟨rfl,hB1⟩;go_wp2;go_ret;refine ⟨?_,hB1⟩;refine sv ?_;simp
theorem Bt (B:Nat) (w:World) (n:Int) (a q m:Nat) (hq1:q<=100000) (hm1:m < 1000) (hz:0 < m) (ha:a<=100000000) (hn:n=(a:Int)) (eq1:(a:Int) / 1000=(q:Int)) (em1:(a:Int) % 1000=(m:Int)) (ht:bU B w) (hB:B<=w.heap.size)
  (Iq dg tr:List UInt8) (hIl:Iq.length<=21) (HI:Hid (QB 120 #[q] w (.string ⟨Iq.toArray⟩)))
  (hdl:dg.length=4) (htl:tr.length<=3) (HI2:Hid (∀ wx,bU B wx->QB 120 #[(1000+(m:Int):Int)] wx (.string ⟨dg.toArray⟩)))
  (HT:Hid (∀ wx,QE 244 #[.string ⟨(dg.drop 1).toArray⟩,.string ⟨#[48]⟩] wx (.string ⟨tr.toArray⟩)))
  :QB 211 #[n] w (.string ⟨([]++Iq++([46]++tr)).toArray⟩):=by
 have his:(⟨Iq.toArray⟩:ByteArray).size<=21:=by simp [ByteArray.size];exact hIl
 subst hn;have hds:(⟨dg.toArray⟩:ByteArray).size=4:=by simp [ByteArray.size];exact hdl
 have hts:(⟨tr.toArray⟩:ByteArray).size<=3:=by simp [ByteArray.size];exact htl
 have HD:=ai (o7 dg hdl);have hm0:¬ m=0:=by omega
 have hmb:((m:Int)==0)=false:=by simp;omega
 go_enter func211,ntmps211
 go_wp2_with fail
 refine HI.out.mono ?_;rintro e w1 ⟨rfl,hB1⟩;have hT1:bU B w1:=ht.on ⟨hB1.os,hB1.tape,hB1.output,hB1.size,fun k hk=>hB1.block k (ZK hk hB)⟩;have HI3:=ai (HI2.out w1 hT1);clear HI2;go_wp2_with fail
 refine HI3.out.mono ?_;rintro e w2 ⟨rfl,hB2⟩;go_wp2_with fail
 rw [HD.out];refine (HT.out w2).mono ?_;rintro e w3 ⟨rfl,rfl⟩;go_wp2;go_ret;refine ⟨?_,hB1.trans (hB2.mono hB1.size)⟩;refine sv ?_;simp
theorem mO (B:Nat) (w:World) (n:Int) (h0:-100000000<=n) (h1:n<=100000000) (hB:B<=w.heap.size) (ht:bU B w):
  QB 211 #[n] w (.string ⟨(bJ n).toArray⟩):=by
 have hI:=bp B w ((n.natAbs / 1000:Nat):Int) (by omega) (by omega) ht;have hIl:=ar ((n.natAbs / 1000:Nat):Int) (by omega) (by omega);by_cases hz:n.natAbs % 1000=0
 ·have hL:bJ n=(if n < 0 then [45] else [])++Lib.itoa ((n.natAbs / 1000:Nat):Int):=by
   unfold bJ;rw [hz,show cq 0=[] by decide,YZ]
  rw [hL];by_cases hn:n < 0
  ·rw [ZN hn];exact AX B w n n.natAbs (n.natAbs / 1000) 0 (by omega) (by omega) hn (by omega) (by omega) (by omega) (by omega) ht hB _ [] [] hIl hI
  ·rw [ZO hn];exact AA B w n n.natAbs (n.natAbs / 1000) 0 (by omega) (by omega) (by omega) (by omega) (by omega) ht hB _ [] [] hIl hI
 ·obtain ⟨hf1,hf2⟩:=vL (n.natAbs % 1000) (by omega) (by omega);have ec:((1000+n.natAbs % 1000:Nat):Int)=1000+((n.natAbs % 1000:Nat):Int):=by omega
  rw [ec] at hf1 hf2;have hts:(Lib.trimRightB ((Lib.itoa (1000+((n.natAbs % 1000:Nat):Int))).drop 1) 48).length<=3:=by
   have h3:=congrArg List.length hf1;have h4:(cq (n.natAbs % 1000)).length<=4:=by
    unfold cq
    repeat' split
    all_goals simp
   simp only [ZY,XN] at h3;omega
  have hI2:∀ wx,bU B wx->QB 120 #[(1000+((n.natAbs % 1000:Nat):Int):Int)] wx (.string ⟨(Lib.itoa (1000+((n.natAbs % 1000:Nat):Int))).toArray⟩):=
   fun wx hx=>bp B wx _ (by omega) (by omega) hx
  have hT:∀ wx,QE 244 #[.string ⟨((Lib.itoa (1000+((n.natAbs % 1000:Nat):Int))).drop 1).toArray⟩,.string ⟨#[48]⟩] wx (.string ⟨(Lib.trimRightB ((Lib.itoa (1000+((n.natAbs % 1000:Nat):Int))).drop 1) 48).toArray⟩):=by
   intro wx;have h:=Tryz.strings_TrimRight_one ⟨((Lib.itoa (1000+((n.natAbs % 1000:Nat):Int))).drop 1).toArray⟩ 48 (by decide) wx (by show ((Lib.itoa (1000+((n.natAbs % 1000:Nat):Int))).drop 1).toArray.size<=_;rw [List.size_toArray,Za,hf2];decide);exact h
  unfold bJ;rw [<-hf1];by_cases hn:n < 0
  ·rw [ZN hn];exact By B w n n.natAbs (n.natAbs / 1000) (n.natAbs % 1000) (by omega) (by omega) (by omega) (by omega) hn (by omega) (by omega) (by omega) (by omega) ht hB _ _ _ hIl hI hf2 hts hI2 hT
  ·rw [ZO hn];exact Bt B w n n.natAbs (n.natAbs / 1000) (n.natAbs % 1000) (by omega) (by omega) (by omega) (by omega) (by omega) (by omega) (by omega) ht hB _ _ _ hIl hI hf2 hts hI2 hT
def eS (c:UInt8):List UInt8:=
 if c.toNat < 32\/126 < c.toNat then [92,UInt8.ofNat (48+c.toNat / 64),UInt8.ofNat (48+c.toNat / 8 % 8),UInt8.ofNat (48+c.toNat % 8)]
 else if c.toNat=40\/c.toNat=41\/c.toNat=92 then [92,c] else [c]
def bH:List UInt8->List UInt8
 | []=>[]
 | c::r=>eS c++bH r
def bc (l:List UInt8):List UInt8:=[40]++bH l++[41]
theorem iU (l:List UInt8) (c:UInt8):bH (l++[c])=bH l++eS c:=by
 induction l with
 | nil=>simp [bH]
 | cons d r ih=>simp only [ZE,bH,ih,ZS]
theorem ii (l:List UInt8):(bH l).length<=4*l.length:=by
 induction l with
 | nil=>simp [bH]
 | cons d r ih=>
  have:(eS d).length<=4:=by
   unfold eS;repeat' split
   all_goals simp
  simp only [bH,ZY,ZX];omega
theorem zP (a:List UInt8) (b:ByteArray):(⟨a.toArray⟩:ByteArray)++b=⟨(a++b.data.toList).toArray⟩:=by
 apply Zd;rw [ByteArray.data_append];apply Yl;simp
theorem aT {s t:ByteArray} (h:s.data.toList=t.data.toList):Value.string s=.string t:=by
 have e:s=t:=Zd (Yl h);rw [e]
theorem rK (s:ByteArray) (k:Nat) (h:k < s.size):s.data.toList.take (k+1)=s.data.toList.take k++[s[k]]:=by
 rw [Zv (by simpa using h)];rfl
def aG:List Int->List UInt8
 | []=>[]
 | n::r=>bJ n++[32]++aG r
theorem mJ (l:List Int) (n:Int):aG (l++[n])=aG l++(bJ n++[32]):=by
 induction l with
 | nil=>simp [aG]
 | cons d r ih=>simp only [ZE,aG,ih,ZS]
theorem wN (m:Nat):(cq m).length<=4:=by
 unfold cq
 repeat' split
 all_goals simp
theorem eu (n:Int) (h0:-100000000<=n) (h1:n<=100000000):(bJ n).length<=26:=by
 unfold bJ;have a:=ar ((n.natAbs / 1000:Nat):Int) (by omega) (by omega);have b:=wN (n.natAbs % 1000);rw [ZY,ZY];have c:(if n < 0 then ([45]:List UInt8) else []).length<=1:=by split <;> simp
 omega
theorem rJ (B:Nat) (w:World) (b len cap:Nat) (ns:List Int) (hl:ns.length=len) (hb:b < w.heap.size) (hlen:len<=100) (hc:∀ (j:Nat) z,ns[j]? =some z->w.cell? (zq b (0+j))=z) (hn:∀ z∈ns,-100000000<=z/\z<=100000000) (hB:B<=w.heap.size) (ht:bU B w):
  QB 170 #[.slice b len cap] w (.string ⟨(aG ns).toArray⟩):=by
 go_enter func170,ntmps170
 go_wp2;go_loopg [3,5,8] (len+1) (fun g x _ i wr=>∃ k:Nat,∃ acc:List UInt8,k<=len/\len - k < g/\i=.int .i64 k/\x=.string ⟨acc.toArray⟩/\acc.length<=27*k/\Hid (acc=aG (ns.take k))/\Below w w wr)
 case atStart=>exact ⟨0,[],by omega,by omega,rfl,rfl,by simp,by show _=_;simp [aG],ZT _ _⟩
 case round=>
  obtain ⟨k,acc,hk,hg,rfl,rfl,hal,HA,hBw⟩:=hrel;have hasz:(⟨acc.toArray⟩:ByteArray).size<=27*k:=by simp [ByteArray.size];exact hal
  by_cases hlt:k < len
  ·have hkn:k < ns.length:=by omega
   have hz:ns[k]? =some ns[k]:=ZM hkn;have hcell:=(hBw.cell (p:=zq b (0+k)) hb).trans (hc k _ hz);have hzb:=hn ns[k] (Yp hkn);have HN:Hid (acc++(bJ ns[k]++[32])=aG (ns.take (k+1))):=by
    show _=_
    rw [Zv hkn,mJ,HA.out]
   have hT:bU B wr:=ht.on ⟨hBw.os,hBw.tape,hBw.output,hBw.size,fun i hi=>hBw.block i (ZK hi hB)⟩;have hwr:w.heap.size<=wr.heap.size:=hBw.size;rw [YF] at hcell;clear hz hc hn HA;generalize ns[k]=z at*;have HL:=ai (mO B wr z hzb.1 hzb.2 (by omega) hT);have hll:=eu z hzb.1 hzb.2;generalize bJ z=lz at*;have hlz:(⟨lz.toArray⟩:ByteArray).size<=26:=by simp [ByteArray.size];exact hll
   go_wp2_with fail
   refine HL.out.mono ?_;rintro e w1 ⟨rfl,hB1⟩;go_wp2;go_roundg (gk - 1)
   case measure=>omega
   case rel=>
    refine ⟨k+1,acc++(lz++[32]),by omega,by omega,by go_num,?_,by simp;omega,HN.out,hBw.trans (hB1.mono hwr)⟩;refine aT ?_;simp
  ·have hkl:ns.take k=ns:=Zy (by omega);have HQ:Hid (acc=aG ns):=by show _=_;rw [HA.out,hkl]
   clear hkl HA hc hn;go_wp2;go_ret;refine ⟨?_,hBw⟩;rw [<-HQ.out];rfl
section
open Go.RowKit Go.Shelf
def xB:Go.Shelf.Ren:=⟨fun | 240=>216 | 276=>246 | 167=>214 | 166=>183 | n=>n,fun | 0=>0 | 3=>3 | 4=>4 | 5=>5 | 9=>9 | 20=>20 | 37=>66 | 70=>230 | 72=>232 | 75=>127 | 80=>58 | 164=>286 | n=>n,fun | n=>n⟩
theorem Bu:Lays.n167 prog xB:={
 mixed:=by kernel_rfl
 f167:=Tryz.func214.trans (congrArg some (by kernel_rfl))
 f240:=Tryz.func216.trans (congrArg some (by kernel_rfl))
 f276:=Tryz.func246.trans (congrArg some (by kernel_rfl))
 t0:=underlying0
 a0:=Tryz.isAgg0
 z0:=Tryz.sizeOf0
 v0:=Tryz.zeroValue0
 t4:=underlying4
 a4:=Tryz.isAgg4
 z4:=Tryz.sizeOf4
 v4:=Tryz.zeroValue4
 t5:=underlying5
 a5:=Tryz.isAgg5
 z5:=Tryz.sizeOf5
 v5:=Tryz.zeroValue5
 t9:=underlying9
 a9:=Tryz.isAgg9
 z9:=Tryz.sizeOf9
 v9:=Tryz.zeroValue9
 t20:=underlying20
 a20:=Tryz.isAgg20
 z20:=Tryz.sizeOf20
 v20:=Tryz.zeroValue20
 t37:=underlying66
 a37:=Tryz.isAgg66
 z37:=Tryz.sizeOf66
 v37:=Tryz.zeroValue66
 t70:=underlying230
 a70:=Tryz.isAgg230
 z70:=Tryz.sizeOf230
 v70:=Tryz.zeroValue230
 t72:=underlying232
 a72:=Tryz.isAgg232
 z72:=Tryz.sizeOf232
 v72:=Tryz.zeroValue232
 t75:=underlying127
 a75:=Tryz.isAgg127
 z75:=Tryz.sizeOf127
 v75:=Tryz.zeroValue127
 t164:=underlying286
 a164:=Tryz.isAgg286
 z164:=Tryz.sizeOf286
 v164:=Tryz.zeroValue286}
theorem Br:Lays.n166 prog xB:={
 mixed:=by kernel_rfl
 f166:=Tryz.func183.trans (congrArg some (by kernel_rfl))
 f240:=Tryz.func216.trans (congrArg some (by kernel_rfl))
 f276:=Tryz.func246.trans (congrArg some (by kernel_rfl))
 t0:=underlying0
 a0:=Tryz.isAgg0
 z0:=Tryz.sizeOf0
 v0:=Tryz.zeroValue0
 t3:=underlying3
 a3:=Tryz.isAgg3
 z3:=Tryz.sizeOf3
 v3:=Tryz.zeroValue3
 t4:=underlying4
 a4:=Tryz.isAgg4
 z4:=Tryz.sizeOf4
 v4:=Tryz.zeroValue4
 t9:=underlying9
 a9:=Tryz.isAgg9
 z9:=Tryz.sizeOf9
 v9:=Tryz.zeroValue9
 t20:=underlying20
 a20:=Tryz.isAgg20
 z20:=Tryz.sizeOf20
 v20:=Tryz.zeroValue20
 t37:=underlying66
 a37:=Tryz.isAgg66
 z37:=Tryz.sizeOf66
 v37:=Tryz.zeroValue66
 t70:=underlying230
 a70:=Tryz.isAgg230
 z70:=Tryz.sizeOf230
 v70:=Tryz.zeroValue230
 t72:=underlying232
 a72:=Tryz.isAgg232
 z72:=Tryz.sizeOf232
 v72:=Tryz.zeroValue232
 t75:=underlying127
 a75:=Tryz.isAgg127
 z75:=Tryz.sizeOf127
 v75:=Tryz.zeroValue127
 t164:=underlying286
 a164:=Tryz.isAgg286
 z164:=Tryz.sizeOf286
 v164:=Tryz.zeroValue286}
theorem BR:Builder.Extra prog xB:={
 sizeBuilder:=by kernel_rfl
 liesBuilder:=by kernel_rfl
 t5:=underlying5
 a5:=Tryz.isAgg5
 z5:=Tryz.sizeOf5
 v5:=Tryz.zeroValue5
 infoByte:=by kernel_rfl
 cellsByte:=by kernel_rfl
 sizeByte:=by kernel_rfl
 neB5:=by decide}
def nT (B b:Nat) (l:List UInt8) (w:World):Prop:=Lib.IsBuilder 232 5 B b (Lib.byteCells l) w
theorem nn (l:List UInt8) (c:UInt8):Lib.byteCells (l++[c])=Lib.byteCells l++[.int .u8 c.toNat]:=by
 simp [Lib.byteCells]
theorem nF (B b:Nat) (l:List UInt8) (c:UInt8) (z:Int) (hz:z=c.toNat) (w:World) (h:nT B b l w) (hl:l.length < 1000000000000) (hB:B<=w.heap.size):
  CP 214 #[zp b,.int .u8 z] w fun e w'=>e=.returned .nilIface/\nT B b (l++[c]) w'/\Below B w w':=by
 subst hz;refine (Any.Builder_WriteByte Bu BR B b (Lib.byteCells l) c.toNat w h (by rw [Lib.byteCells_length];omega) hB).mono ?_;rintro e w' ⟨rfl,h1,h2⟩;refine ⟨rfl,?_,h2⟩;unfold nT;rw [nn];exact .inr h1
theorem jX (B b:Nat) (l:List UInt8) (s:ByteArray) (w:World) (h:nT B b l w) (hl:l.length+s.size < 1000000000000) (hB:B<=w.heap.size):
  CP 183 #[zp b,s] w fun e w'=>e=.returned (.tuple #[s.size,.nilIface])/\nT B b (l++s.data.toList) w'/\Below B w w':=by
 refine (Any.Builder_WriteString Br BR B b (Lib.byteCells l) s w h (by rw [Lib.byteCells_length];omega) hB).mono ?_;rintro e w' ⟨rfl,h1,h2⟩;refine ⟨rfl,?_,h2⟩;unfold nT;have:Lib.byteCells (l++s.data.toList)=Lib.byteCells l++Lib.strCells s:=by
  simp [Lib.byteCells,Lib.strCells]
 rw [this];exact .inr h1
theorem uH (B b:Nat) (l:List UInt8) (w:World) (h:nT B b l w) (hB:B<=w.heap.size):
  CP 185 #[zp b] w fun e w'=>e=.returned (.string ⟨l.toArray⟩)/\Below B w w':=
 Tryz.Builder_String_any B b l w h hB
end
theorem ru (B b:Nat) (l:List UInt8) (c:UInt8) (w:World) (h:nT B b l w) (hl:l.length < 100000000) (hB:B<=w.heap.size):
  CP 215 #[zp b,.int .u8 c.toNat] w fun e w'=>e=.returned (.tuple #[])/\nT B b (l++eS c) w'/\Below B w w':=by
 have hc:c.toNat < 256:=c.toNat_lt;have H:=ai h;clear h;have HG:Hid (∀ (l':List UInt8) (wx:World),nT B b l' wx->l'.length < 1000000000000->B<=wx.heap.size->∀ (d:UInt8) (z:Int),z=d.toNat->CP 214 #[zp b,.int .u8 z] wx fun e w'=>e=.returned .nilIface/\nT B b (l'++[d]) w'/\Below B wx w'):=fun l' wx h1 h2 h3 d z hz=>nF B b l' d z hz wx h1 h2 h3
 go_enter func215,ntmps215
 by_cases h4:c.toNat=40\/c.toNat=41\/c.toNat=92
 ·have HE:Hid (eS c=[92,c]):=by
   show _=_
   unfold eS;rw [ZO (by omega),ZN h4]
  rcases h4 with h4 | h4 | h4
  all_goals
   go_wp2_with fail
   refine (HG.out l _ H.out (by omega) hB 92 _ rfl).mono ?_;rintro e w1 ⟨rfl,h1,hB1⟩;have H1:=ai h1;have hs1:B<=w1.heap.size:=ZU hB hB1.size;clear h1;go_wp2_with fail
   refine (HG.out _ _ H1.out (by simp;omega) hs1 c _ (by omega)).mono ?_;rintro e w2 ⟨rfl,h2,hB2⟩;have H2:=ai h2;clear h2;go_wp2;go_end0;refine ⟨rfl,?_,hB1.trans hB2⟩;rw [HE.out];have:=H2.out;rwa [ZS] at this
 ·have h5:¬ c.toNat=40:=by omega
  have h6:¬ c.toNat=41:=by omega
  have h7:¬ c.toNat=92:=by omega
  have b5:((c.toNat:Int)==40)=false:=by simp;omega
  have b6:((c.toNat:Int)==41)=false:=by simp;omega
  have b7:((c.toNat:Int)==92)=false:=by simp;omega
  by_cases h1:c.toNat < 32\/126 < c.toNat
  ·have HE:Hid (eS c=[92,UInt8.ofNat (48+c.toNat / 64),UInt8.ofNat (48+c.toNat / 8 % 8),UInt8.ofNat (48+c.toNat % 8)]):=by
    show _=_
    unfold eS;rw [ZN h1]
   rcases h1 with h1 | h1
   all_goals
    go_wp2_with fail
    refine (HG.out l _ H.out (by omega) hB 92 _ rfl).mono ?_;rintro e w1 ⟨rfl,h1,hB1⟩;have H1:=ai h1;have hs1:B<=w1.heap.size:=ZU hB hB1.size;clear h1;go_wp2_with fail
    refine (HG.out _ _ H1.out (by simp;omega) hs1 (UInt8.ofNat (48+c.toNat / 64)) _ ?_).mono ?_
    ·rw [YW];omega
    rintro e w2 ⟨rfl,h2,hB2⟩;have H2:=ai h2;have hs2:B<=w2.heap.size:=ZU hs1 hB2.size;clear h2;go_wp2_with fail
    refine (HG.out _ _ H2.out (by simp;omega) hs2 (UInt8.ofNat (48+c.toNat / 8 % 8)) _ ?_).mono ?_
    ·rw [YW];omega
    rintro e w3 ⟨rfl,h3,hB3⟩;have H3:=ai h3;have hs3:B<=w3.heap.size:=ZU hs2 hB3.size;clear h3;go_wp2_with fail
    refine (HG.out _ _ H3.out (by simp;omega) hs3 (UInt8.ofNat (48+c.toNat % 8)) _ ?_).mono ?_
    ·rw [YW];omega
    rintro e w4 ⟨rfl,h4,hB4⟩;have H4:=ai h4;clear h4;go_wp2;go_end0;refine ⟨rfl,?_,((hB1.trans hB2).trans hB3).trans hB4⟩;rw [HE.out];have:=H4.out;simpa using this
  ·have HE:Hid (eS c=[c]):=by
    show _=_
    unfold eS;rw [ZO h1,ZO h4]
   have h2:¬ c.toNat < 32:=by omega
   have h3:¬ 126 < c.toNat:=by omega
   have b2:¬ (c.toNat:Int) < 32:=by omega
   go_wp2_with fail
   refine (HG.out l _ H.out (by omega) hB c _ rfl).mono ?_;rintro e w1 ⟨rfl,h1,hB1⟩;have H1:=ai h1;clear h1;go_wp2;go_end0;refine ⟨rfl,?_,hB1⟩;rw [HE.out];exact H1.out
theorem jK (w:World) (s:ByteArray) (hs:s.size<=10000000):
  QB 179 #[s] w (.string ⟨(bc s.data.toList).toArray⟩):=by
 have HF:Hid (nT w.heap.size w.heap.size [] (w.alloc (Obj.cells #[Value.pointer none,Value.slice none 0 0] 232))):=Lib.fresh_isBuilder 232 5 w;have HG:Hid (∀ (l':List UInt8) (wx:World),nT w.heap.size w.heap.size l' wx->l'.length < 1000000000000->w.heap.size<=wx.heap.size->∀ (d:UInt8) (z:Int),z=d.toNat->CP 214 #[zp w.heap.size,.int .u8 z] wx fun e w'=>e=.returned .nilIface/\nT w.heap.size w.heap.size (l'++[d]) w'/\Below w wx w'):=fun l' wx h1 h2 h3 d z hz=>nF _ _ l' d z hz wx h1 h2 h3
 have HE:Hid (∀ (l':List UInt8) (wx:World),nT w.heap.size w.heap.size l' wx->l'.length < 100000000->w.heap.size<=wx.heap.size->∀ (d:UInt8),CP 215 #[zp w.heap.size,.int .u8 d.toNat] wx fun e w'=>e=.returned (.tuple #[])/\nT w.heap.size w.heap.size (l'++eS d) w'/\Below w wx w'):=fun l' wx h1 h2 h3 d=>ru _ _ l' d wx h1 h2 h3
 go_enter func179,ntmps179
 go_wp2_with fail
 refine (HG.out [] _ HF.out (by decide) (by simp) 40 _ rfl).mono ?_;rintro e w1 ⟨rfl,h1,hB1⟩;have H1:=ai h1;have HB1:Hid (Below w w w1):=((ZT w.heap.size w).alloc (ZW _) _).trans hB1;clear h1 hB1 HF;go_wp2;go_loopg [4] (s.size+1) (fun g i wr=>∃ k:Nat,∃ acc:List UInt8,k<=s.size/\s.size - k < g/\i=.int .i64 k/\acc.length<=1+4*k/\Hid (acc=[40]++bH (s.data.toList.take k))/\Hid (nT w.heap.size w.heap.size acc wr)/\Hid (Below w w wr))
 case atStart=>exact ⟨0,[40],by omega,by omega,rfl,by simp,by show _=_;simp [bH],H1,HB1⟩
 case round=>
  obtain ⟨k,acc,hk,hg,rfl,hal,HA,HI,HW⟩:=hrel;have hws:w.heap.size<=wr.heap.size:=HW.out.size;by_cases hlt:k < s.size
  ·have HN:Hid (acc++eS s[k]=[40]++bH (s.data.toList.take (k+1))):=by
    show _=_
    rw [rK s k hlt,iU,HA.out,ZS]
   clear HA;obtain ⟨c,hck⟩:∃ c,s[k]=c:=⟨_,rfl⟩;rw [hck] at HN;have hel:(eS c).length<=4:=by
    unfold eS
    repeat' split
    all_goals simp
   go_wp2_with fail
   refine (HE.out acc _ HI.out (by omega) hws c).mono ?_;rintro e w2 ⟨rfl,h2,hB2⟩;have H2:=ai h2;have HB2:Hid (Below w w w2):=HW.out.trans hB2;clear h2 hB2;go_wp2;go_roundg (gk - 1)
   case measure=>omega
   case rel=>exact ⟨k+1,_,by omega,by omega,by go_num,by rw [ZY];omega,HN,H2,HB2⟩
  ·have hkl:s.data.toList.take k=s.data.toList:=Zy (by simp;omega);have HQ:Hid (acc++[41]=bc s.data.toList):=by
    show _=_
    unfold bc;rw [HA.out,hkl]
   clear hkl HA;go_wp2_with fail
   refine (HG.out acc _ HI.out (by omega) hws 41 _ rfl).mono ?_;rintro e w2 ⟨rfl,h2,hB2⟩;have H2:=ai h2;have HB2:Hid (Below w w w2):=HW.out.trans hB2;have hs2:w.heap.size<=w2.heap.size:=ZU hws hB2.size;clear h2 hB2;go_wp2_with fail
   refine (uH w.heap.size w.heap.size _ _ H2.out hs2).mono ?_;rintro e w3 ⟨rfl,hB3⟩;go_wp2;go_ret;rw [HQ.out];exact ⟨rfl,HB2.out.trans hB3⟩
def fS (l:List UInt8):Nat:=l.foldl (fun n c=>10*n+(c.toNat - 48)) 0
theorem i_ (l:List UInt8) (c:UInt8):fS (l++[c])=10*fS l+(c.toNat - 48):=by simp [fS]
theorem fG (d:Nat) (h:d < 10):(UInt8.ofNat (48+d)).toNat=48+d:=by
 rw [YW];omega
theorem mF (u:Nat):fS (Lib.decDigits u)=u:=by
 induction u using Nat.strongRecOn with
 | _ u ih=>
  rw [Lib.decDigits];split
  ·simp [fS];rw [show (48+u) % 256=48+u by omega];omega
  ·rw [i_,ih (u / 10) (by omega),fG _ (by omega)];omega
theorem mV (u:Nat):∀ c∈Lib.decDigits u,48<=c.toNat/\c.toNat<=57:=by
 induction u using Nat.strongRecOn with
 | _ u ih=>
  rw [Lib.decDigits];split
  ·intro c hc;rw [List.mem_singleton.mp hc,fG _ (by omega)];omega
  ·intro c hc;rcases List.mem_append.mp hc with h | h
   ·exact ih (u / 10) (by omega) c h
   ·rw [List.mem_singleton.mp h,fG _ (by omega)];omega
theorem uB (u k:Nat) (h:u < 10 ^ (k+1)):(Lib.decDigits u).length<=k+1:=by
 induction k generalizing u with
 | zero=>rw [Lib.decDigits,dif_pos (by omega)];simp
 | succ k ih=>
  rw [Lib.decDigits];split
  ·simp
  ·have:=ih (u / 10) (by rw [Nat.pow_succ] at h;omega);simp;omega
structure bj where
 k:Int
 a:Int
 b:Int
 c:Int
 d:Int
 e:Int
 co:Int
 ro:Int
 s:ByteArray
def bj.text (o:bj):List UInt8:=
 if o.k=1 then [66,84,32,47,70,49,32]++(aG [o.c]++([84,102,32]++(aG [o.a,o.b]++([84,100,32]++(bc o.s.data.toList++[32,84,106,32,69,84,10])))))
 else if o.k=2 then aG [o.e]++([119,32]++(aG [o.a,o.b]++([109,32]++(aG [o.c,o.d]++[108,32,83,10]))))
 else if o.k=3 then aG [o.e]++([103,32]++(aG [o.a,o.b,o.c,o.d]++[114,101,32,102,10]))
 else [113,32]++(aG [o.c]++([48,32,48,32]++(aG [o.d,o.a,o.b]++([99,109,32,66,73,32,47,87,32]++(Lib.itoa o.co++([32,47,72,32]++(Lib.itoa o.ro++([32,47,67,83,32,47,71,32,47,66,80,67,32,56,32,73,68,32]++(o.s.data.toList++[10,69,73,32,81,10])))))))))
def bG (n lo hi:Int):Prop:=lo<=n/\n<=hi
instance (n lo hi:Int):Decidable (bG n lo hi):=inferInstanceAs (Decidable (_/\_))
def bj.is (o:bj):Prop:=
 bG o.a (-14400000) 14400000/\bG o.b (-14400000) 14400000/\
 ((o.k=1/\bG o.c 1 14400000/\o.d=0/\o.e=0/\o.co=0/\o.ro=0/\o.s.size<=100)\/
  (o.k=2/\bG o.c (-14400000) 14400000/\bG o.d (-14400000) 14400000/\bG o.e 0 14400000/\o.co=0/\o.ro=0/\o.s.size=0)\/
  (o.k=3/\bG o.c 0 14400000/\bG o.d 0 14400000/\bG o.e 0 1000/\o.co=0/\o.ro=0/\o.s.size=0)\/
  (o.k=4/\bG o.c 1 14400000/\bG o.d 1 14400000/\bG o.co 1 64/\bG o.ro 1 64/\o.e=0/\(o.s.size:Int)=o.co*o.ro))
instance (o:bj):Decidable o.is:=inferInstanceAs (Decidable (_/\_))
def bE:List bj->List UInt8
 | []=>[]
 | o::r=>o.text++bE r
theorem oW (l:List bj) (o:bj):bE (l++[o])=bE l++o.text:=by
 induction l with
 | nil=>simp [bE]
 | cons a r ih=>simp only [ZE,bE,ih,ZS]
theorem bj.text_ne (o:bj):o.text≠[]:=by
 unfold bj.text
 repeat' split
 all_goals simp [aG]
def ey:List UInt8->Option Nat
 | []=>none
 | [c]=>if c.toNat=41 then some 1 else none
 | c::d::r=>if c.toNat=41 then some 1 else if c.toNat=92 then (ey r).map (·+2) else (ey (d::r)).map (·+1)
def ni (k:Nat) (o:Option Nat):Int:=match o with | some n=>(n:Int)+k | none=>0
theorem BV {l:List UInt8} {k:Nat} (h:k < l.length) (hc:l[k].toNat=41):ni k (ey (l.drop k))=(k:Int)+1:=by
 rw [Zn h]
 cases l.drop (k+1) with
 | nil=>simp [ey,hc,ni];omega
 | cons d r=>simp [ey,hc,ni];omega
theorem Dp {l:List UInt8} {k:Nat} (h:k < l.length) (hc:l[k].toNat=92):ni k (ey (l.drop k))=ni (k+2) (ey (l.drop (k+2))):=by
 rw [Zn h];have e:l.drop (k+2)=(l.drop (k+1)).drop 1:=by rw [List.drop_drop]
 rw [e]
 cases l.drop (k+1) with
 | nil=>simp [ey,hc,ni]
 | cons d r=>
  simp only [ey,hc,List.drop_succ_cons,List.drop_zero]
  cases ey r <;> simp [ni];omega
theorem Do {l:List UInt8} {k:Nat} (h:k < l.length) (h1:l[k].toNat≠41) (h2:l[k].toNat≠92):ni k (ey (l.drop k))=ni (k+1) (ey (l.drop (k+1))):=by
 rw [Zn h]
 cases l.drop (k+1) with
 | nil=>simp [ey,h1,ni]
 | cons d r=>
  simp only [ey,h1,h2,if_false]
  cases ey (d::r) <;> simp [ni];omega
theorem ET {l:List UInt8} {k:Nat} (h:l.length<=k):ni k (ey (l.drop k))=0:=by
 rw [YD h];rfl
theorem qJ (w:World) (s:ByteArray) (hs:s.size<=2000000000):
  QE 294 #[s] w (ni 1 (ey (s.data.toList.drop 1)):Int):=by
 obtain ⟨R,hR⟩:∃ R,ni 1 (ey (s.data.toList.drop 1))=R:=⟨_,rfl⟩;rw [hR];have HR:=ai hR;clear hR;have HL:Hid (s.data.toList.length=s.size):=by show _=_;exact Array.length_toList
 go_enter func294,ntmps294
 go_wp2;go_loopg [3] (s.size+3) (fun g x wr=>∃ k:Nat,k<=s.size+1/\s.size+2 - k < g/\Hid (R=ni k (ey (s.data.toList.drop k)))/\x=.int .i64 (k:Int)/\wr=w)
 case atStart=>exact ⟨1,by omega,by omega,HR.out.symm,rfl,rfl⟩
 case round=>
  obtain ⟨k,hk,hgk,HK,rfl,rfl⟩:=hrel;by_cases hlt:k < s.size
  ·have d1:decide ((k:Int) < (s.size:Int))=true:=by simp;omega
   obtain ⟨c,hc⟩:∃ c,s[k]=c:=⟨_,rfl⟩;have hl:k < s.data.toList.length:=by rw [HL.out];exact hlt
   have hcl:s.data.toList[k]=c:=by rw [<-hc];rfl
   by_cases h41:c.toNat=41
   ·have hv:=BV hl (by rw [hcl];exact h41);rw [<-HK.out] at hv;have HV:=ai hv;clear hv hcl hl;go_wp2;go_ret;exact ⟨by rw [HV.out];rfl,rfl⟩
   ·by_cases h92:c.toNat=92
    ·have HV:=ai (Dp hl (by rw [hcl];exact h92));clear hcl hl;go_wp2;go_roundg (gk - 1)
     case measure=>omega
     case rel=>exact ⟨k+2,by omega,by omega,HK.out.trans HV.out,by congr 1,rfl⟩
    ·have HV:=ai (Do hl (by rw [hcl];exact h41) (by rw [hcl];exact h92));clear hcl hl;go_wp2;go_roundg (gk - 1)
     case measure=>omega
     case rel=>exact ⟨k+1,by omega,by omega,HK.out.trans HV.out,by congr 1,rfl⟩
  ·have d1:decide ((k:Int) < (s.size:Int))=false:=by simp;omega
   have hv:=ET (l:=s.data.toList) (k:=k) (by rw [HL.out];omega);rw [<-HK.out] at hv;have HV:=ai hv;clear hv;go_wp2;go_ret;exact ⟨by rw [HV.out];rfl,rfl⟩
end Go.Proofs.YtbklfkpjoinofaaGreatDoor
