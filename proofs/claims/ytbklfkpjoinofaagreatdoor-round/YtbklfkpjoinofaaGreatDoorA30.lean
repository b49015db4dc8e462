import Derived.Test.YtbklfkpjoinofaaGreatDoorA02
import Derived.Test.YtbklfkpjoinofaaGreatDoorA08
set_option linter.all false
set_option maxRecDepth 100000
set_option maxHeartbeats 8000000
namespace Go.Proofs.YtbklfkpjoinofaaGreatDoor
open Go.RowKit Go.Proofs.Tryz
theorem CE (t:ByteArray):(t.extract 1 t.size).data.toList=t.data.toList.drop 1:=by
 rw [Zd,YR];have e:t.data.toList.length=t.size:=aP t;simp only [List.extract, <-e];rw [ZA (by simp)]
theorem nO (w:World) (s:ByteArray) (b:Nat) (p:UInt8->Bool) (hs:s.size<=2000000000) (HC:Hid (∀ x:UInt8,w.cell? (zq b x.toNat)=some (.bool (p x)))):
  QE 319 #[s,zp b] w (.string ⟨(s.data.toList.dropWhile p).toArray⟩):=by
 obtain ⟨R,hR⟩:∃ R,s.data.toList.dropWhile p=R:=⟨_,rfl⟩;rw [hR];have HR:=ai hR;clear hR;go_enter func319,ntmps319
 go_wp2;go_loopg [0] (s.size+1) (fun g x wr=>∃ t:ByteArray,x=.string t/\t.size < g/\t.size<=s.size/\Hid (t.data.toList.dropWhile p=R)/\wr=w)
 case atStart=>exact ⟨s,rfl,by omega,by omega,HR.out,rfl⟩
 case round=>
  obtain ⟨t,rfl,hg,hts,HT,rfl⟩:=hrel;by_cases h0:0 < t.size
  ·have d1:decide ((0:Int) < (t.size:Int))=true:=by simp;omega
   obtain ⟨c,hc⟩:∃ c,t[0]=c:=⟨_,rfl⟩;have hl:t.data.toList=c::t.data.toList.drop 1:=by
    have hlen:0 < t.data.toList.length:=by rw [aP];exact h0
    have e:t.data.toList[0]=c:=by rw [<-hc];rfl
    rw [<-e];exact (Zo hlen)
   have CC:=Tryz.asciiSet_contains b c (p c) wr (HC.out c);by_cases hp:p c=true
   ·have HT':Hid ((t.extract 1 t.size).data.toList.dropWhile p=R):=by
     show _=_
     rw [CE, <-HT.out,hl,List.dropWhile_cons_of_pos hp,List.drop_succ_cons,List.drop_zero]
    have HZ:Hid ((t.extract 1 t.size).size=t.size - 1):=by show _=_;simp
    rw [hp] at CC;clear hl;go_wp2_with fail
    refine CC.mono ?_;rintro e w1 ⟨rfl,rfl⟩;clear CC;go_wp2;go_roundg (gk - 1)
    case measure=>omega
    case rel=>exact ⟨_,rfl,by rw [HZ.out];omega,by rw [HZ.out];omega,HT',rfl⟩
   ·have hp':p c=false:=by simpa using hp
    have HT':Hid (t.data.toList=R):=by
     show _=_
     rw [<-HT.out,hl,List.dropWhile_cons_of_neg hp]
    rw [hp'] at CC;clear hl;go_wp2_with fail
    refine CC.mono ?_;rintro e w1 ⟨rfl,rfl⟩;clear CC;go_wp2;go_ret;exact ⟨by rw [<-HT'.out];rfl,rfl⟩
  ·have d1:decide ((0:Int) < (t.size:Int))=false:=Zj (by omega);have HT':Hid (t.data.toList=R):=by
    show _=_
    have e:t.data.toList=[]:=Zr (by rw [aP];exact Nat.eq_zero_of_not_pos h0);rw [<-HT.out,e];rfl
   go_wp2;go_ret;exact ⟨by rw [<-HT'.out];rfl,rfl⟩
def bX (c:UInt8):Bool:=[32,10].contains c
theorem Tryz.zero306 (w:World):(zeroValue 306).run prog w=.ok (.agg (Array.replicate 256 (.bool false))) w:=by kernel_rfl
theorem ul (w:World) (s:ByteArray) (hs:s.size<=2000000000):
  QB 293 #[s,.string ⟨#[32,10]⟩] w (.string ⟨(s.data.toList.dropWhile bX).toArray⟩):=by
 have hcs:=Lib.setCells_at [32,10];by_cases he:s.toList.isEmpty=true
 ·have he':s.data.toList=[]:=by rw [<-Zn];simpa using he
  have HE:Hid (s=⟨(s.data.toList.dropWhile bX).toArray⟩):=by show s=_;rw [he'];exact Zh (Array.toList_inj.1 (by rw [he'];rfl))
  go_enter func293,ntmps293
  go_wp2;go_ret;exact ⟨by rw [<-HE.out];rfl,ZQ _ _⟩
 ·have he':s.toList.isEmpty=false:=by simpa using he
  have CM:=Tryz.strings_makeASCIISet Tryz.zero306 ⟨#[32,10]⟩ w (by decide) (by intro j b hb;have:=YJ hb;simp at this;rcases this with rfl | rfl <;> decide);have HK:=ai CM;clear CM he;go_enter func293,ntmps293
  go_wp2_with fail
  refine HK.out.mono ?_;rintro e w1 ⟨rfl,rfl⟩;clear HK;have HB:Hid (((w.alloc (Obj.cells (Lib.setCells [32,10]) 306)).alloc (Obj.cells Tryz.zeroCells306 306)).heap[w.heap.size+1]? =some (Obj.cells Tryz.zeroCells306 306)):=Yu _ _ _;have HA:Hid ((Lib.setCells [32,10]).size=256/\(Tryz.prog.info? 306).map (·.size)=some 256/\Tryz.zeroCells306.size=256/\(Lib.setCells [32,10]).all (·.oneCell')=true):=⟨by kernel_rfl,by kernel_rfl,by kernel_rfl,by kernel_rfl⟩;go_wp2_with (refine Zi rfl 306 (.tmp 5) _ rfl (w.heap.size+1) _ rfl rfl _ _ HB.out (by rw [HA.out.1];exact HA.out.2.1) (by rw [HA.out.1];exact HA.out.2.2.1) HA.out.2.2.2 ?_)
  obtain ⟨w2,hw2⟩:∃ w2,(((w.alloc (Obj.cells (Lib.setCells [32,10]) 306)).alloc (Obj.cells Tryz.zeroCells306 306)).setRow (w.heap.size+1) (Lib.setCells [32,10]))=w2:=⟨_,rfl⟩;have hrow:w2.heap[w.heap.size+1]? =some (.cells (Lib.setCells [32,10]) 306 (0,0)):=by rw [<-hw2];exact YK _ _ _ _ _ _ HB.out
  have hbel:Below w w w2:=by
   rw [<-hw2];have h2:Below w w ((w.alloc (Obj.cells (Lib.setCells [32,10]) 306)).alloc (Obj.cells Tryz.zeroCells306 306)):=((ZQ _ w).alloc (ZV _) _).alloc (by simp) _;refine ⟨h2.os,h2.tape,h2.output,?_,fun k hk=>?_⟩
   ·exact ZU h2.size (Nat.le_of_eq (by simp [World.setRow]))
   ·exact (setRow_other _ _ _ _ (by omega)).trans (h2.block k hk)
  rw [hw2];clear hw2 HA HB;refine (nO w2 s (w.heap.size+1) bX hs (ai fun x=>(Zw _ _ _ _ _ _ hrow).trans (Lib.setCells_at [32,10] x))).mono ?_;rintro e w3 ⟨rfl,rfl⟩;go_wp2;go_ret;exact ⟨rfl,hbel⟩
def va (l:List UInt8):Nat:=(l.takeWhile bX).length
theorem rU (w:World) (s:ByteArray) (hs:s.size<=2000000000):
  QB 257 #[s] w (va s.data.toList:Nat):=by
 have HT:=ai (ul w s hs);have hl:s.size=va s.data.toList+(s.data.toList.dropWhile bX).length:=by
  have:=congrArg List.length (List.takeWhile_append_dropWhile (p:=bX) (l:=s.data.toList));rw [ZY,aP] at this;exact this.symm
 obtain ⟨g,hg⟩:∃ g,va s.data.toList=g:=⟨_,rfl⟩;obtain ⟨r,hr⟩:∃ r,s.data.toList.dropWhile bX=r:=⟨_,rfl⟩;rw [hg,hr] at hl;rw [hr] at HT;rw [hg];clear hg hr;have hrs:ByteArray.size ⟨r.toArray⟩=r.length:=by simp [ByteArray.size]
 go_enter func257,ntmps257
 go_wp2_with fail
 refine HT.out.mono ?_;rintro e w1 ⟨rfl,hb⟩;go_wp2;go_ret;exact ⟨rfl,hb⟩
def nh (B m:Nat) (r:List UInt8):As:=aS B m [.string ⟨r.toArray⟩]
theorem nh.thing (B m:Nat) (r:List UInt8):aJ B (nh B m r):=aS.thing _ _ _
theorem tR (w:World) (s:ByteArray) (B:Nat) (hB:B<=w.heap.size):
  CP 144 #[s] w fun e w'=>e=.returned (zp w.heap.size)/\nh B w.heap.size s.data.toList w' (cC w.heap.size)/\Below w w w':=by
 go_enter func144,ntmps144
 go_wp2;go_ret;refine ⟨rfl,?_,(ZQ _ w).alloc (ZV _) _⟩;exact aS.alloc (vs:=[.string s]) hB
theorem qX (w:World) (B m:Nat) (r:List UInt8) (S:Bl) (h:nh B m r w S):
  QE 146 #[zp m] w (.string ⟨r.toArray⟩):=by
 have c0:=h.at 0 _ rfl;go_enter func146,ntmps146
 go_wp2;go_ret;exact ⟨rfl,rfl⟩
theorem zk (a b:List UInt8):Lib.hasPrefix (a++b) a=true:=by
 unfold Lib.hasPrefix;rw [List.isPrefixOf_iff_prefix];exact YT a b
theorem wE (a b:List UInt8):Lib.trimPrefix (a++b) a=b:=by
 unfold Lib.trimPrefix;rw [ZM (zk a b),List.drop_left]
theorem qC (w:World) (B m:Nat) (s:ByteArray) (r:List UInt8) (S:Bl) (h:nh B m (s.data.toList++r) w S):
  CP 355 #[zp m,s] w fun e w'=>e=.returned .nilIface/\nh B m r w' S/\Mv S w S w':=by
 have c0:=h.at 0 _ rfl;have f0:=h.fz 0;have CP:=ai (Tryz.strings_CutPrefix ⟨(s.data.toList++r).toArray⟩ s w);simp only [zk,wE] at CP;obtain ⟨k,mv⟩:=h.set 0 (.string ⟨r.toArray⟩) (by simp);go_enter func355,ntmps355
 go_wp2_with fail
 refine CP.out.mono ?_;rintro e w1 ⟨rfl,rfl⟩;clear CP;go_wp2;go_ret;exact ⟨rfl,k,mv⟩
theorem tA (w:World) (s:ByteArray) (c:UInt8) (h0:0 < s.size) (hs:s.size<=10000) (hc:s[0]=c) (h92:c.toNat≠92):
  QE 261 #[s] w (.tuple #[.int .u8 c.toNat,(1:Int)]):=by
 have d:((c.toNat:Int)==92)=false:=by simp;omega
 go_enter func261,ntmps261
 go_wp2;go_ret2;exact ⟨rfl,rfl⟩
theorem tB (w:World) (s:ByteArray) (c:UInt8) (h1:1 < s.size) (hs:s.size<=10000) (h0:s[0]=92) (hc:s[1]=c) (h:c.toNat < 48\/55 < c.toNat):
  QE 261 #[s] w (.tuple #[.int .u8 c.toNat,(2:Int)]):=by
 have d1:((s.size:Int)==1)=false:=by simp;omega
 rcases h with h | h
 ·have d2:decide ((c.toNat:Int) < 48)=true:=by simp;omega
  go_enter func261,ntmps261
  go_wp2;go_ret2;exact ⟨rfl,rfl⟩
 ·have d2:decide ((c.toNat:Int) < 48)=false:=by simp;omega
  have d3:decide (55 < (c.toNat:Int))=true:=by simp;omega
  go_enter func261,ntmps261
  go_wp2;go_ret2;exact ⟨rfl,rfl⟩
theorem ry (w:World) (s:ByteArray) (x y z:UInt8) (h4:3 < s.size) (hs:s.size<=10000) (h0:s[0]=92) (h1:s[1]=x) (h2:s[2]=y) (h3:s[3]=z) (hx:48<=x.toNat/\x.toNat<=51) (hy:48<=y.toNat/\y.toNat<=55) (hz:48<=z.toNat/\z.toNat<=55):
  QD 261 #[s] w (.tuple #[.int .u8 (bits BinOp.or IntKind.u8 (bits BinOp.or IntKind.u8 (((x.toNat:Int) - 48)*64) (((y.toNat:Int) - 48)*8)) ((z.toNat:Int) - 48)),(4:Int)]):=by
 have d1:((s.size:Int)==1)=false:=by simp;omega
 have d2:decide ((x.toNat:Int) < 48)=false:=by simp;omega
 have d3:decide (55 < (x.toNat:Int))=false:=by simp;omega
 have d4:decide ((s.size:Int) < 4)=false:=by simp;omega
 go_enter func261,ntmps261
 go_wp2;go_quiet (fail)
 go_wp2;go_ret2;exact ⟨rfl,_,rfl⟩
theorem D8:∀ c:Fin 256,bits BinOp.or IntKind.u8 (bits BinOp.or IntKind.u8 ((((48+c.val / 64:Nat):Int) - 48)*64) ((((48+c.val / 8 % 8:Nat):Int) - 48)*8)) (((48+c.val % 8:Nat):Int) - 48)=(c.val:Int):=by decide+kernel
theorem tw (w:World) (s:ByteArray) (c:UInt8) (r:List UInt8) (hr:r.length<=1000) (hs:s.data.toList=eS c++r):
  QD 261 #[s] w (.tuple #[.int .u8 c.toNat,((eS c).length:Nat)]):=by
 have hlen:s.size=(eS c++r).length:=by rw [<-hs,aP]
 have hget:∀ (i:Nat) (h:i < s.size) (x:UInt8),(eS c++r)[i]? =some x->s[i]=x:=by
  intro i h x hx;rw [<-hs] at hx;obtain ⟨h',e⟩:=Zx.1 hx;exact e
 by_cases h1:c.toNat < 32\/126 < c.toNat
 ·have e:eS c=[92,UInt8.ofNat (48+c.toNat / 64),UInt8.ofNat (48+c.toNat / 8 % 8),UInt8.ofNat (48+c.toNat % 8)]:=by unfold eS;rw [ZM h1]
  rw [e] at hlen hget ⊢;have hc:=c.toNat_lt;simp only [ZY,ZX,ZS] at hlen;have n1:(UInt8.ofNat (48+c.toNat / 64)).toNat=48+c.toNat / 64:=by rw [YZ];omega
  have n2:(UInt8.ofNat (48+c.toNat / 8 % 8)).toNat=48+c.toNat / 8 % 8:=by rw [YZ];omega
  have n3:(UInt8.ofNat (48+c.toNat % 8)).toNat=48+c.toNat % 8:=by rw [YZ];omega
  refine (ry w s _ _ _ (by omega) (by omega) (hget 0 (by omega) _ rfl) (hget 1 (by omega) _ rfl) (hget 2 (by omega) _ rfl) (hget 3 (by omega) _ rfl) (by omega) (by omega) (by omega)).mono ?_;rintro e w' ⟨rfl,q⟩;refine ⟨?_,q⟩;have:=D8 ⟨c.toNat,hc⟩;rw [n1,n2,n3,this];rfl
 ·by_cases h2:c.toNat=40\/c.toNat=41\/c.toNat=92
  ·have e:eS c=[92,c]:=by unfold eS;rw [ZO h1,ZM h2]
   rw [e] at hlen hget ⊢;simp only [ZY,ZX,ZS] at hlen;refine (tB w s c (by omega) (by omega) (hget 0 (by omega) _ rfl) (hget 1 (by omega) _ rfl) (by omega)).mono ?_;rintro e w' ⟨rfl,rfl⟩;exact ⟨rfl,0,rfl⟩
  ·have e:eS c=[c]:=by unfold eS;rw [ZO h1,ZO h2]
   rw [e] at hlen hget ⊢;simp only [ZY,ZX,ZS] at hlen;refine (tA w s c (by omega) (by omega) (hget 0 (by omega) _ rfl) (fun h=>h2 (.inr (.inr h)))).mono ?_;rintro e w' ⟨rfl,rfl⟩;exact ⟨rfl,0,rfl⟩
theorem i8 (w:World) (s:ByteArray) (l:List UInt8) (hl:l.length<=100) (hs:s.data.toList=bc l) (hw:0 < w.heap.size):
  QB 225 #[s] w (.tuple #[.string ⟨l.toArray⟩,true]):=by
 have hlen:s.size=(bH l).length+2:=by rw [<-aP,hs];simp [bc]
 have hel:=ii l;have CP:=ai (Tryz.strings_CutPrefix s ⟨#[40]⟩ w);rw [hs] at CP;have e1:Lib.trimPrefix (bc l) [40]=bH l++[41]:=by unfold bc;rw [ZT];exact wE [40] _
 have CS:=ai (Tryz.strings_CutSuffix ⟨(bH l++[41]).toArray⟩ ⟨#[41]⟩ w (by rw [ae];simp;omega));have e2:Lib.trimSuffix (bH l++[41]) [41]=bH l:=by
  unfold Lib.trimSuffix Lib.hasSuffix;rw [ZM (by rw [List.isSuffixOf_iff_suffix];exact List.suffix_append _ _)];simp
 simp only [e1] at CP;simp only [e2] at CS;clear e1 e2;obtain ⟨b1,hb1⟩:∃ b1,Lib.hasPrefix (bc l) [40]=b1:=⟨_,rfl⟩;obtain ⟨b2,hb2⟩:∃ b2,Lib.hasSuffix (bH l++[41]) [41]=b2:=⟨_,rfl⟩;simp only [hb1] at CP;simp only [hb2] at CS;have HS:=ai hs;clear hb1 hb2 hs;go_enter func225,ntmps225
 go_wp2_with fail
 refine CP.out.mono ?_;rintro e w1 ⟨rfl,rfl⟩;clear CP;go_wp2_with fail
 refine CS.out.mono ?_;rintro e w2 ⟨rfl,rfl⟩;clear CS;obtain ⟨b,hb⟩:∃ b,w2.heap.size=b+1:=⟨w2.heap.size - 1,by omega⟩;have HB:=ai hb;clear hb;go_wp2;go_loopg [4,6] (l.length+1) (fun g x y wr=>∃ (k:Nat) (t:ByteArray),k<=l.length/\l.length - k < g/\x=.string t/\Hid (t.data.toList=bH (l.drop k))/\gZ wr b y (l.take k)/\Below (b+1) w2 wr)
 case atStart=>exact ⟨0,_,by omega,by omega,rfl,rfl,gZ.nil _ _ (by have:=HB.out;omega),by rw [<-HB.out];exact ZQ _ _⟩
 case round=>
  obtain ⟨k,t,hk,hg,rfl,HT,ho,hbe⟩:=hrel;by_cases hlt:k < l.length
  ·obtain ⟨c,hc⟩:∃ c,l[k]=c:=⟨_,rfl⟩;have ht:t.data.toList=eS c++bH (l.drop (k+1)):=by rw [HT.out,Zo hlt,hc];rfl
   have he2:=ii (l.drop (k+1));have hE:0 < (eS c).length:=by unfold eS;split <;> (try split) <;> simp
   have ne:t.toList.isEmpty=false:=by
    rw [Zn,ht]
    cases hh:eS c with
    | nil=>rw [hh] at hE;simp at hE
    | cons x y=>rfl
   have CB:=ai fun wx=>tw wx t c (bH (l.drop (k+1))) (by rw [Zc] at he2;omega) ht
   have hts:t.size=(eS c).length+(bH (l.drop (k+1))).length:=by rw [<-aP,ht,ZY]
   have HT':Hid ((t.extract (eS c).length t.size).data.toList=bH (l.drop (k+1))):=by
    show _=_
    rw [Zd,YR];simp only [List.extract];rw [ht,List.drop_left,ZA (by omega)]
   have HK:Hid (l.take (k+1)=l.take k++[c]):=by show _=_;rw [Zv hlt,hc]
   obtain ⟨z,hz⟩:∃ z,(eS c).length=z:=⟨_,rfl⟩;have hzt:(eS c).length<=t.size:=by omega
   rw [hz] at CB HT' hE hzt;clear ht hz hc he2 hts;go_wp2_with fail
   refine (CB.out _).mono ?_;rintro e w3 ⟨rfl,q,rfl⟩;clear CB;have ho1:=ho.drewN q;have HCell:Hid (((wr.drewN q).alloc (.cells #[.int .u8 c.toNat] 5)).cell? (zp ((wr.drewN q).heap.size))=some (.int .u8 (c.toNat:Nat))):=(aS.alloc (B:=0) (vs:=[.int .u8 c.toNat]) (w:=wr.drewN q) (t:=5) (YI _)).at 0 _ rfl;go_wp2_with (at_builtin;refine kX rfl (.tmp 26) (.tmp 28) 66 rfl underlying66 b _ (l.take k) rfl (ho1.alloc _) ⟨(wr.drewN q).heap.size,0,none⟩ 1 rfl c HCell.out rfl (by simp;omega) ?_)
   intro v' w5 hO2 hb2;clear HCell;go_wp2;go_roundg (gk - 1)
   case measure=>omega
   case rel=>
    refine ⟨k+1,_,by omega,by omega,rfl,HT',by rw [HK.out];exact hO2,?_⟩;exact (hbe.trans (below_drewN ((ZQ _ (wr.drewN q)).alloc (by have:=hbe.size;have:=HB.out;show _<=wr.heap.size;omega) _))).trans hb2
  ·have hkl:k=l.length:=by omega
   have h0:t.data.toList=[]:=by rw [HT.out,hkl,List.drop_length];rfl
   have ne:t.toList.isEmpty=true:=by rw [Zn,h0];rfl
   have hO:=ho;rw [hkl,Ya] at hO;clear ho h0;obtain ⟨ad,cap,hv,hn⟩:=hO.form;have hcv:∀ W,Below wr wr W->(convert 66 9 (.slice ad l.length cap)).run prog W=.ok (.string ⟨l.toArray⟩) W:=by
    intro W hW;have hOW:gZ W b (.slice ad l.length cap) l:=by
     rw [<-hv];exact ⟨eZ hO.own (fun g e=>hW.block g (hO.own.lt g e).2),ZK hO.base hW.size⟩
    by_cases hz:l.length=0
    ·obtain rfl:l=[]:=Zr hz
     cases ad with
     | none=>exact (show (convert 66 9 (.slice none 0 cap)).run prog W=.ok (.string ⟨([]:List UInt8).toArray⟩) W by kernel_rfl)
     | some a=>exact Yz _ 66 9 5 a cap [] underlying66 underlying5 underlying9 (fun j hj=>absurd hj (by simp))
    ·obtain ⟨g,cap',hv',_⟩:=hOW.at 0 (by omega)
     cases hv'
     refine Yz _ 66 9 5 ⟨g,0,none⟩ cap l underlying66 underlying5 underlying9 ?_;intro j hj;obtain ⟨g2,cap2,hv2,hc2,_⟩:=hOW.at j hj
     cases hv2
     have hadd:(⟨g,0,none⟩:Addr).add j=⟨g,j,none⟩:=by unfold Addr.add;split <;> simp_all
     rw [hadd,hc2];simp [ZJ,ZN hj]
   have hconv:=hcv wr (ZQ _ _);have HCV:=ai hcv;clear hcv;subst hv;have CS:=ai (jK wr ⟨l.toArray⟩ (by rw [ae];omega));have he:(⟨(bc (⟨l.toArray⟩:ByteArray).data.toList).toArray⟩:ByteArray)=s:=by
    refine Zh (Array.toList_inj.1 ?_);rw [HS.out]
   rw [he] at CS;clear he;go_wp2_with fail
   refine CS.out.mono ?_;rintro e w6 ⟨rfl,hb6⟩;clear CS hconv;have hconv:=HCV.out w6 hb6;go_wp2;go_ret2;refine ⟨rfl,?_⟩;rw [HB.out];exact hbe.trans (hb6.mono (ZU (Nat.le_of_eq HB.out.symm) hbe.size))
def ft (B:Nat) (w:World):Prop:=1 < B/\∃ m,w.cell? (zp 1)=some (.int .i64 m)
theorem ft.on {B:Nat} {w w':World} (h:ft B w) (hb:Below B w w'):ft B w':=by
 obtain ⟨hB,m,hm⟩:=h;exact ⟨hB,m,(ZR (a:=zp 1) (hb.block 1 hB)).trans hm⟩
theorem j5:∀ (l:List UInt8) (acc:Nat),(∀ c∈l,48<=c.toNat/\c.toNat<=57)->Lib.decFrom acc l=some (l.foldl (fun n c=>10*n+(c.toNat - 48)) acc)
 | [],_,_=>rfl
 | c::r,acc,h=>by
  have hc:=h c (Zy _);show (match Lib.digitVal c with | some d=>Lib.decFrom (acc*10+d) r | none=>none)=_
  have e:Lib.digitVal c=some (c.toNat - 48):=by unfold Lib.digitVal;rw [ZM hc]
  rw [e];show Lib.decFrom (acc*10+(c.toNat - 48)) r=_
  rw [j5 r _ (fun x hx=>h x (List.mem_cons_of_mem _ hx)),List.foldl_cons,Ye]
def qI (m:Nat):List UInt8:=[UInt8.ofNat (48+m / 100),UInt8.ofNat (48+m / 10 % 10),UInt8.ofNat (48+m % 10)]
theorem Bs:∀ m:Fin 1000,((cq m.val).drop 1++[48,48,48]).take 3=qI m.val:=by decide+kernel
theorem Dc (q m:Nat) (hm:m < 1000):(qI m).foldl (fun n c=>10*n+(c.toNat - 48)) q=1000*q+m:=by
 unfold qI;simp only [List.foldl_cons,List.foldl_nil];have n1:(UInt8.ofNat (48+m / 100)).toNat=48+m / 100:=by rw [YZ];omega
 have n2:(UInt8.ofNat (48+m / 10 % 10)).toNat=48+m / 10 % 10:=by rw [YZ];omega
 have n3:(UInt8.ofNat (48+m % 10)).toNat=48+m % 10:=by rw [YZ];omega
 rw [n1,n2,n3];omega
theorem Db (m:Nat) (hm:m < 1000):∀ c∈qI m,48<=c.toNat/\c.toNat<=57:=by
 have n1:(UInt8.ofNat (48+m / 100)).toNat=48+m / 100:=by rw [YZ];omega
 have n2:(UInt8.ofNat (48+m / 10 % 10)).toNat=48+m / 10 % 10:=by rw [YZ];omega
 have n3:(UInt8.ofNat (48+m % 10)).toNat=48+m % 10:=by rw [YZ];omega
 intro c hc;unfold qI at hc;simp only [Zl,YU,or_false] at hc;rcases hc with rfl | rfl | rfl
 ·omega
 ·omega
 ·omega
theorem xv (q m:Nat) (hm:m < 1000):Lib.decNat (Lib.decDigits q++qI m)=some (1000*q+m):=by
 unfold Lib.decNat;rw [ZO (by simp [qI])];rw [j5 _ _ (fun c hc=>(Zu.1 hc).elim (fun h=>mV q c h) (fun h=>Db m hm c h)),List.foldl_append];have e:(Lib.decDigits q).foldl (fun n c=>10*n+(c.toNat - 48)) 0=q:=mF q;rw [e,Dc q m hm]
theorem eP (q:Nat):Lib.itoa (q:Int)=Lib.decDigits q:=by unfold Lib.itoa;rw [ZO (by omega)];rfl
theorem Ck (n:Int):Lib.atoi ((if n < 0 then [45] else [])++Lib.itoa (n.natAbs / 1000:Nat)++qI (n.natAbs % 1000))=some n:=by
 have hm:n.natAbs % 1000 < 1000:=Yt _ (by decide);have hd:=xv (n.natAbs / 1000) (n.natAbs % 1000) hm;rw [eP];by_cases hn:n < 0
 ·rw [ZM hn,ZT];show (Lib.decNat (Lib.decDigits (n.natAbs / 1000)++qI (n.natAbs % 1000))).map (fun (m:Nat)=>-(m:Int))=_
  rw [hd];show some (-((1000*(n.natAbs / 1000)+n.natAbs % 1000:Nat):Int))=some n
  congr 1;omega
 ·rw [ZO hn,Zt];have hpos:0 < (Lib.decDigits (n.natAbs / 1000)).length:=by rw [Lib.decDigits_length];exact Lib.nDigits_pos _
  cases hh:Lib.decDigits (n.natAbs / 1000) with
  | nil=>rw [hh] at hpos;simp at hpos
  | cons c r=>
   have hc:=mV (n.natAbs / 1000) c (by rw [hh];exact Zy _);rw [hh] at hd;show (if c==45 then _ else if c==43 then _ else (Lib.decNat (c::r++qI (n.natAbs % 1000))).map (fun (m:Nat)=>(m:Int)))=_
   rw [ZO (by intro e;have:=congrArg UInt8.toNat (beq_iff_eq.1 e);simp at this;omega),ZO (by intro e;have:=congrArg UInt8.toNat (beq_iff_eq.1 e);simp at this;omega),hd];show some ((1000*(n.natAbs / 1000)+n.natAbs % 1000:Nat):Int)=some n
   congr 1;omega
theorem qr (c:UInt8):∀ a:List UInt8,c ∉ a->Lib.index a [c]=-1
 | [],_=>rfl
 | b::l,h=>by
  have hb:c≠b:=fun e=>h (by rw [e];exact Zy _)
  have ih:=qr c l (fun e=>h (List.mem_cons_of_mem _ e));unfold Lib.index;rw [ZO (by simp [List.isPrefixOf,hb]),ZM (by rw [ih];rfl)]
theorem vo (c:UInt8) (b:List UInt8):∀ a:List UInt8,c ∉ a->Lib.index (a++c::b) [c]=(a.length:Int)
 | [],_=>by simp [Lib.index,List.isPrefixOf]
 | x::l,h=>by
  have hb:c≠x:=fun e=>h (by rw [e];exact Zy _)
  have ih:=vo c b l (fun e=>h (List.mem_cons_of_mem _ e));rw [ZG];unfold Lib.index;rw [ZO (by simp [List.isPrefixOf,hb]),ZO (by rw [ih];simp),ih];simp
theorem Cu (c:UInt8) (a:List UInt8) (h:c ∉ a):Lib.cut a [c]=(a,[],false):=by
 unfold Lib.cut;rw [qr c a h,ZO (by decide)]
theorem tC (c:UInt8) (a b:List UInt8) (h:c ∉ a):Lib.cut (a++c::b) [c]=(a,b,true):=by
 unfold Lib.cut;rw [vo c b a h,ZM (by omega)];simp
theorem DI (n:Int):∃ t,Lib.cut (bJ n) [46]=((if n < 0 then [45] else [])++Lib.itoa (n.natAbs / 1000:Nat),(cq (n.natAbs % 1000)).drop 1,t):=by
 have hno:(46:UInt8) ∉ (if n < 0 then [45] else [])++Lib.itoa (n.natAbs / 1000:Nat):=by
  intro h;rcases Zu.1 h with h | h
  ·split at h <;> simp at h
  ·rw [eP] at h;have:=mV _ _ h;simp at this
 unfold bJ;by_cases h0:n.natAbs % 1000=0
 ·rw [h0];show ∃ t,Lib.cut ((if n < 0 then [45] else [])++Lib.itoa (n.natAbs / 1000:Nat)++[]) [46]=_
  rw [YX,Cu _ _ hno];exact ⟨_,rfl⟩
 ·have e:cq (n.natAbs % 1000)=46::(cq (n.natAbs % 1000)).drop 1:=by
   unfold cq;rw [ZO h0];split
   ·rfl
   ·split <;> rfl
  rw [e,tC _ _ _ hno];exact ⟨_,rfl⟩
theorem pz (w:World) (s:ByteArray) (wh re:List UInt8) (b3:Bool) (n:Int) (hre:re.length<=3) (hwh:wh.length<=10)
  (HC:Hid (QD 221 #[s,.string ⟨#[46]⟩] w (.tuple #[.string ⟨wh.toArray⟩,.string ⟨re.toArray⟩,b3])))
  (HA:Hid (∀ q,CP 220 #[.string (⟨wh.toArray⟩++((⟨re.toArray⟩:ByteArray)++⟨#[48,48,48]⟩).extract 0 3)] (w.drewN q) fun e w'=>e=.returned (.tuple #[n,.nilIface])/\Below w w w'))
  (HL:Hid (∀ w1,Below w w w1->QB 211 #[n] w1 s)):
  QB 224 #[s] w (.tuple #[n,true]):=by
 go_enter func224,ntmps224
 go_wp2_with fail
 refine HC.out.mono ?_;rintro e w1 ⟨rfl,q,rfl⟩;clear HC;go_wp2_with fail
 refine (HA.out q).mono ?_;rintro e w2 ⟨rfl,hb2⟩;clear HA;go_wp2_with fail
 refine (HL.out w2 hb2).mono ?_;rintro e w3 ⟨rfl,hb3⟩;clear HL;go_wp2;go_ret2;exact ⟨rfl,hb2.trans (hb3.mono hb2.size)⟩
theorem iD (w:World) (B:Nat) (s:ByteArray) (n:Int) (h0:-100000000<=n) (h1:n<=100000000) (hs:s.data.toList=bJ n) (hB:B<=w.heap.size) (ht:bU B w) (hm:ft B w):
  QB 224 #[s] w (.tuple #[n,true]):=by
 obtain ⟨b3,hcut⟩:=DI n;obtain ⟨_,m,hmc⟩:=hm;have hfr:(cq (n.natAbs % 1000)).length<=4:=by
  unfold cq;split
  ·simp
  ·split
   ·simp
   ·split <;> simp
 have hdl:(Lib.itoa (n.natAbs / 1000:Nat)).length<=6:=by rw [eP];exact uB _ 5 (by omega)
 have hwl:((if n < 0 then [45] else [])++Lib.itoa (n.natAbs / 1000:Nat):List UInt8).length<=7:=by
  rw [ZY];split
  ·show 1+_<=7;omega
  ·show 0+_<=7;omega
 have hsz:s.size<=20:=by
  rw [<-aP,hs];show ((if n < 0 then [45] else [])++Lib.itoa (n.natAbs / 1000:Nat)++cq (n.natAbs % 1000):List UInt8).length<=20
  rw [ZY];omega
 refine pz w s ((if n < 0 then [45] else [])++Lib.itoa (n.natAbs / 1000:Nat)) ((cq (n.natAbs % 1000)).drop 1) b3 n (by rw [Zc];omega) (by omega) ?_ ?_ ?_
 ·have:=Tryz.strings_Cut s ⟨#[46]⟩ m w (by omega) hmc;rw [hs,hcut] at this;exact this
 ·intro q;have e:(⟨((if n < 0 then [45] else [])++Lib.itoa (n.natAbs / 1000:Nat)).toArray⟩:ByteArray)++((⟨((cq (n.natAbs % 1000)).drop 1).toArray⟩:ByteArray)++⟨#[48,48,48]⟩).extract 0 3=⟨((if n < 0 then [45] else [])++Lib.itoa (n.natAbs / 1000:Nat)++qI (n.natAbs % 1000)).toArray⟩:=by
   rw [zP];congr 2;rw [Zd,YR,zP];simp only [List.extract,Nat.sub_zero,List.drop_zero];rw [<-Bs ⟨n.natAbs % 1000,Yt _ (by decide)⟩]
  rw [e];refine (Tryz.strconv_Atoi _ n ?_ (Ck n) (w.drewN q)).mono ?_
  ·rw [ae,ZY];show _+3<=18
   omega
  ·rintro e w' ⟨rfl,t,rfl⟩;have h:=Lib.bytesWorld_below (w.drewN q) 5 t;exact ⟨rfl,⟨h.os,h.tape,h.output,h.size,h.block⟩⟩
 ·intro w1 hb;have:=jz B w1 n h0 h1 (ZU hB hb.size) (ht.on (hb.mono hB));have e:(⟨(bJ n).toArray⟩:ByteArray)=s:=Zh (Array.toList_inj.1 (by rw [hs]));rw [e] at this;exact this
theorem lZ (a b:List UInt8):Lib.trimSuffix (a++b) b=a:=by
 unfold Lib.trimSuffix Lib.hasSuffix;rw [ZM (by rw [List.isSuffixOf_iff_suffix];exact List.suffix_append _ _)];simp
theorem xn (w:World) (B:Nat) (s:ByteArray) (hd body:List UInt8) (hs:s.data.toList=hd++10::(body++[10,101,110,100,111,98,106,10])) (h10:(10:UInt8) ∉ hd) (hsz:s.size<=2000000000) (hm:ft B w):
  QD 188 #[s] w (.string ⟨body.toArray⟩):=by
 obtain ⟨_,m,hmc⟩:=hm;have HC:=ai (Tryz.strings_Cut s ⟨#[10]⟩ m w (by omega) hmc);have e1:Lib.cut s.data.toList [10]=(hd,body++[10,101,110,100,111,98,106,10],true):=by rw [hs];exact tC 10 hd _ h10
 simp only [e1] at HC;have hl:(body++[10,101,110,100,111,98,106,10]:List UInt8).length<=s.size:=by rw [<-aP,hs];simp;omega
 have HT:=ai (fun q=>Tryz.strings_TrimSuffix ⟨(body++[10,101,110,100,111,98,106,10]).toArray⟩ ⟨#[10,101,110,100,111,98,106,10]⟩ (w.drewN q) (by rw [ae];omega));simp only [lZ] at HT;clear e1 hl;go_enter func188,ntmps188
 go_wp2_with fail
 refine HC.out.mono ?_;rintro e w1 ⟨rfl,q,rfl⟩;clear HC;go_wp2_with fail
 refine (HT.out q).mono ?_;rintro e w2 ⟨rfl,rfl⟩;go_wp2;go_ret;exact ⟨rfl,q,rfl⟩
theorem qw (w:World) (l cap:Nat) (ad:Option Addr) (c3:w.cell? (zq l 3)=some (.slice ad 0 cap)):
  QD 227 #[zp l] w (0:Int):=by
 go_enter func227,ntmps227
 go_wp2;go_ret;exact ⟨rfl,0,rfl⟩
theorem qx (w:World) (l b k cap:Nat) (hk:k<=1000) (hcap:k+1<=cap) (pg:Int) (c3:w.cell? (zq l 3)=some (.slice b (k+1) cap)) (hc:w.cell? (zq b (k*2+1))=pg):
  QD 227 #[zp l] w pg:=by
 have d:(((k+1:Nat):Int)==0)=false:=by simp;omega
 have e1:((k+1:Nat):Int) - 1=(k:Int):=by omega
 go_enter func227,ntmps227
 go_wp2;go_quiet (fail)
 go_wp2;go_ret;exact ⟨rfl,nq,rfl⟩
def ic (B b:Nat) (ns:List Int) (k:Nat) (tx:List UInt8):As:=aS B b (ns.map (.int .i64)++[.int .i64 (k:Int),.string ⟨tx.toArray⟩])
theorem ic.thing (B b:Nat) (ns:List Int) (k:Nat) (tx:List UInt8):aJ B (ic B b ns k tx):=aS.thing _ _ _
theorem ic.putN {B b:Nat} {ns:List Int} {k:Nat} {tx:List UInt8} {w:World} {S:Bl} (h:ic B b ns k tx w S) (hns:ns.length=9) {i:Nat} (hi:i < 9) (z:Int):ic B b (ns.set i z) k tx (w.setCell (zq b i) z) S/\Mv S w S (w.setCell (zq b i) z):=by
 obtain ⟨k1,m1⟩:=aS.set h i (.int .i64 z) (by simp [hns];omega);refine ⟨?_,m1⟩;have e:(ns.map (Value.int .i64)++[Value.int .i64 (k:Int),Value.string ⟨tx.toArray⟩]).set i (.int .i64 z)=(ns.set i z).map (Value.int .i64)++[Value.int .i64 (k:Int),Value.string ⟨tx.toArray⟩]:=by
  rw [List.set_append_left _ _ (by simp [hns];omega),List.map_set]
 rw [e] at k1;exact k1
theorem ic.putK {B b:Nat} {ns:List Int} {k:Nat} {tx:List UInt8} {w:World} {S:Bl} (h:ic B b ns k tx w S) (hns:ns.length=9) (k':Nat):ic B b ns k' tx (w.setCell (zq b 9) (k':Int)) S/\Mv S w S (w.setCell (zq b 9) (k':Int)):=by
 obtain ⟨k1,m1⟩:=aS.set h 9 (.int .i64 (k':Int)) (by simp [hns]);refine ⟨?_,m1⟩;have e:(ns.map (Value.int .i64)++[Value.int .i64 (k:Int),Value.string ⟨tx.toArray⟩]).set 9 (.int .i64 (k':Int))=ns.map (Value.int .i64)++[Value.int .i64 (k':Int),Value.string ⟨tx.toArray⟩]:=by
  rw [XD _ _ (by simp [hns])];simp [hns]
 rw [e] at k1;exact k1
theorem BZ (w:World) (b:Nat) (t:ByteArray) (c:UInt8) (h0:0 < t.size) (hc:t[0]=c) (h1:c.toNat≠40) (h2:c.toNat≠45) (h3:c.toNat < 48\/57 < c.toNat):
  QE 299 #[zp b,t] w true:=by
 have d1:((c.toNat:Int)==40)=false:=by simp;omega
 have d2:((c.toNat:Int)==45)=false:=by simp;omega
 rcases h3 with h3 | h3
 ·have d3:decide (48<=(c.toNat:Int))=false:=by simp;omega
  go_enter func299,ntmps299
  go_wp2;go_ret;exact ⟨rfl,rfl⟩
 ·have d3:decide (48<=(c.toNat:Int))=true:=by simp;omega
  have d4:decide ((c.toNat:Int)<=57)=false:=by simp;omega
  go_enter func299,ntmps299
  go_wp2;go_ret;exact ⟨rfl,rfl⟩
theorem wB (w:World) (B b:Nat) (ns:List Int) (k:Nat) (tx l:List UInt8) (t:ByteArray) (S:Bl) (h:ic B b ns k tx w S) (hns:ns.length=9) (h0:0 < t.size) (hc:t[0]=40)
  (HS:Hid (QB 225 #[t] w (.tuple #[.string ⟨l.toArray⟩,true]))):
  CP 299 #[zp b,t] w fun e w'=>e=.returned true/\ic B b ns k l w' S/\Mv S w S w':=by
 have HO:=ai h;have c10:w.cell? (zq b 10)=some (.string ⟨tx.toArray⟩):=h.at 10 _ (by rw [Ze (by simp [hns])];simp [hns]);have f10:=h.fz 10;go_enter func299,ntmps299
 go_wp2_with fail
 refine HS.out.mono ?_;rintro e w1 ⟨rfl,hb⟩;clear HS;have h1:ic B b ns k tx w1 S:=(ic.thing _ _ _ _ _).grow HO.out hb;have c10:w1.cell? (zq b 10)=some (.string ⟨tx.toArray⟩):=h1.at 10 _ (by rw [Ze (by simp [hns])];simp [hns]);have f10:=h1.fz 10;go_wp2;go_ret;obtain ⟨k',mv⟩:=h1.set 10 (.string ⟨l.toArray⟩) (by simp [hns]);refine ⟨rfl,?_,(Mv.grow hb S).trans mv⟩;have e:(ns.map (Value.int .i64)++[Value.int .i64 (k:Int),Value.string ⟨tx.toArray⟩]).set 10 (.string ⟨l.toArray⟩)=ns.map (Value.int .i64)++[Value.int .i64 (k:Int),Value.string ⟨l.toArray⟩]:=by
  rw [XD _ _ (by simp [hns])];simp [hns]
 rw [e] at k';exact k'
theorem wA (w:World) (B b:Nat) (ns:List Int) (k:Nat) (tx:List UInt8) (z:Int) (t:ByteArray) (c:UInt8) (S:Bl) (h:ic B b ns k tx w S) (hns:ns.length=9) (hk:k < 9) (h0:0 < t.size) (hc:t[0]=c) (hd:c.toNat=45\/48<=c.toNat/\c.toNat<=57)
  (HS:Hid (∀ wx,Below w w wx->QB 224 #[t] wx (.tuple #[z,true]))):
  CP 299 #[zp b,t] w fun e w'=>e=.returned true/\ic B b (ns.set k z) (k+1) tx w' S/\Mv S w S w':=by
 have HO:=ai h;have c9:w.cell? (zq b 9)=(k:Int):=h.at 9 _ (by rw [Ze (by simp [hns])];simp [hns]);have f9:=h.fz 9;have d0:((c.toNat:Int)==40)=false:=by simp;omega
 have d9:((k:Int)==9)=false:=by simp;omega
 have hk9:(k:Int) < 9:=by omega
 obtain ⟨u,hu⟩:∃ u,ns[k]? =some u:=⟨_,ZN (by omega)⟩;have ck:∀ w1,ic B b ns k tx w1 S->w1.cell? (zq b k)=some (.int .i64 u):=fun w1 h1=>h1.at k _ (by rw [YF (by simp [hns];omega)];simp [hu])
 have c9':∀ w1,ic B b ns k tx w1 S->w1.cell? (zq b 9)=some (.int .i64 (k:Int)):=fun w1 h1=>h1.at 9 _ (by rw [Ze (by simp [hns])];simp [hns])
 have HC9':Hid (∀ w1,ic B b (ns.set k z) k tx w1 S->w1.cell? (zq b 9)=some (.int .i64 (k:Int))):=fun w1 h1=>h1.at 9 _ (by rw [Ze (by simp [hns])];simp [hns])
 have HCk:=ai ck;have HC9:=ai c9';clear ck c9';have hdd:(((c.toNat:Int)==45)=true)\/(((c.toNat:Int)==45)=false/\decide (48<=(c.toNat:Int))=true/\decide ((c.toNat:Int)<=57)=true):=by
  rcases hd with e | ⟨e1,e2⟩
  ·exact .inl (by simp;omega)
  ·exact .inr ⟨by simp;omega,by simp;omega,by simp;omega⟩
 rcases hdd with hd1 | ⟨hd1,hd2,hd3⟩
 ·go_enter func299,ntmps299
  go_wp2_with fail
  go_region_law (rw [ZM (by simp [Region.wanted])];go_wp2_with fail;go_at_call 224;refine (HS.out _ ((ZQ _ w).drew)).mono ?_;rintro e w9 ⟨rfl,hB9⟩;have h9:=(ic.thing _ _ _ _ _).grow (HO.out) (below_drewN (n:=1) hB9);have ck9:=HCk.out _ h9;have fk9:=h9.fz k;have c99:=HC9.out _ h9;have f99:=h9.fz 9;dsimp only)
  all_goals
   obtain ⟨hA,mA⟩:=ic.putN h9 hns hk z;have cA:=HC9'.out _ hA;have fA:=hA.fz 9;clear HS HCk HC9 ck9 fk9 c99 f99 c9 f9;go_wp2;go_ret;obtain ⟨hZ,mZ⟩:=ic.putK hA (by simp [hns]) (k+1);exact ⟨rfl,hZ,((Mv.grow (below_drewN (n:=1) hB9) S).trans mA).trans mZ⟩
 ·go_enter func299,ntmps299
  go_wp2_with fail
  go_region_law (rw [ZM (by simp [Region.wanted])];go_wp2_with fail;go_at_call 224;refine (HS.out _ ((ZQ _ w).drew)).mono ?_;rintro e w9 ⟨rfl,hB9⟩;have h9:=(ic.thing _ _ _ _ _).grow (HO.out) (below_drewN (n:=1) hB9);have ck9:=HCk.out _ h9;have fk9:=h9.fz k;have c99:=HC9.out _ h9;have f99:=h9.fz 9;dsimp only)
  all_goals
   obtain ⟨hA,mA⟩:=ic.putN h9 hns hk z;have cA:=HC9'.out _ hA;have fA:=hA.fz 9;clear HS HCk HC9 ck9 fk9 c99 f99 c9 f9;go_wp2;go_ret;obtain ⟨hZ,mZ⟩:=ic.putK hA (by simp [hns]) (k+1);exact ⟨rfl,hZ,((Mv.grow (below_drewN (n:=1) hB9) S).trans mA).trans mZ⟩
theorem tu {B:Nat} {w w':World} {n:Nat} (h:Below B w w'):Below B w (w'.drewN n):=⟨h.os,h.tape,h.output,h.size,h.block⟩
theorem xy (w:World) (B b:Nat) (n0 n1 n2 n3 n4 n5 n6 n7 n8:Int) (k:Nat) (tx:List UInt8) (bh:ByteArray) (S:Bl) (h:ic B b [n0,n1,n2,n3,n4,n5,n6,n7,n8] k tx w S):
  QB 298 #[zp b,.string ⟨#[83]⟩,bh] w (.iface 217 (.agg #[n1,n2,n3,n4,n0])):=by
 have c0:w.cell? b=n0:=h.at 0 _ rfl;have c1:w.cell? (zq b 1)=n1:=h.at 1 _ rfl;have c2:w.cell? (zq b 2)=n2:=h.at 2 _ rfl;have c3:w.cell? (zq b 3)=n3:=h.at 3 _ rfl;have c4:w.cell? (zq b 4)=n4:=h.at 4 _ rfl;have c5:w.cell? (zq b 5)=n5:=h.at 5 _ rfl;have c6:w.cell? (zq b 6)=n6:=h.at 6 _ rfl;have c7:w.cell? (zq b 7)=n7:=h.at 7 _ rfl;have c8:w.cell? (zq b 8)=n8:=h.at 8 _ rfl;go_enter func298,ntmps298
 go_wp2;go_ret;exact ⟨rfl,(ZQ _ w).alloc (ZV _) _⟩
theorem xA (w:World) (B b:Nat) (n0 n1 n2 n3 n4 n5 n6 n7 n8:Int) (k:Nat) (tx:List UInt8) (bh:ByteArray) (S:Bl) (h:ic B b [n0,n1,n2,n3,n4,n5,n6,n7,n8] k tx w S):
  QB 298 #[zp b,.string ⟨#[102]⟩,bh] w (.iface 219 (.agg #[n1,n2,n3,n4,n0])):=by
 have c0:w.cell? b=n0:=h.at 0 _ rfl;have c1:w.cell? (zq b 1)=n1:=h.at 1 _ rfl;have c2:w.cell? (zq b 2)=n2:=h.at 2 _ rfl;have c3:w.cell? (zq b 3)=n3:=h.at 3 _ rfl;have c4:w.cell? (zq b 4)=n4:=h.at 4 _ rfl;have c5:w.cell? (zq b 5)=n5:=h.at 5 _ rfl;have c6:w.cell? (zq b 6)=n6:=h.at 6 _ rfl;have c7:w.cell? (zq b 7)=n7:=h.at 7 _ rfl;have c8:w.cell? (zq b 8)=n8:=h.at 8 _ rfl;go_enter func298,ntmps298
 go_wp2;go_ret;exact ⟨rfl,(ZQ _ w).alloc (ZV _) _⟩
theorem xC (w:World) (B b:Nat) (n0 n1 n2 n3 n4 n5 n6 n7 n8:Int) (k:Nat) (tx:List UInt8) (bh:ByteArray) (S:Bl) (h:ic B b [n0,n1,n2,n3,n4,n5,n6,n7,n8] k tx w S):
  QB 298 #[zp b,.string ⟨#[69,84]⟩,bh] w (.iface 215 (.agg #[n1,n2,n0,.string ⟨tx.toArray⟩])):=by
 have c0:w.cell? b=n0:=h.at 0 _ rfl;have c1:w.cell? (zq b 1)=n1:=h.at 1 _ rfl;have c2:w.cell? (zq b 2)=n2:=h.at 2 _ rfl;have c3:w.cell? (zq b 3)=n3:=h.at 3 _ rfl;have c4:w.cell? (zq b 4)=n4:=h.at 4 _ rfl;have c5:w.cell? (zq b 5)=n5:=h.at 5 _ rfl;have c6:w.cell? (zq b 6)=n6:=h.at 6 _ rfl;have c7:w.cell? (zq b 7)=n7:=h.at 7 _ rfl;have c8:w.cell? (zq b 8)=n8:=h.at 8 _ rfl;have c10:(w.alloc (Obj.cells #[Value.int IntKind.i64 n0,Value.int IntKind.i64 n1,Value.int IntKind.i64 n2,Value.int IntKind.i64 n3,Value.int IntKind.i64 n4,Value.int IntKind.i64 n5,Value.int IntKind.i64 n6,Value.int IntKind.i64 n7,Value.int IntKind.i64 n8] 322)).cell? (zq b 10)=some (.string ⟨tx.toArray⟩):=((ic.thing _ _ _ _ _).alloc h _).at 10 _ rfl;go_enter func298,ntmps298
 go_wp2;go_quiet (fail)
 go_wp2;go_ret;exact ⟨rfl,tu ((ZQ _ w).alloc (ZV _) _)⟩
theorem xz (w:World) (B b:Nat) (n0 n1 n2 n3 n4 n5 n6 n7 n8:Int) (k:Nat) (tx:List UInt8) (bh:ByteArray) (S:Bl) (h:ic B b [n0,n1,n2,n3,n4,n5,n6,n7,n8] k tx w S) (t:ByteArray) (h1:(t.toList==[69,84])=false) (h2:(t.toList==[83])=false) (h3:(t.toList==[102])=false) (h4:(t.toList==[73,68])=false):
  QB 298 #[zp b,t,bh] w (.nilIface):=by
 have c0:w.cell? b=n0:=h.at 0 _ rfl;have c1:w.cell? (zq b 1)=n1:=h.at 1 _ rfl;have c2:w.cell? (zq b 2)=n2:=h.at 2 _ rfl;have c3:w.cell? (zq b 3)=n3:=h.at 3 _ rfl;have c4:w.cell? (zq b 4)=n4:=h.at 4 _ rfl;have c5:w.cell? (zq b 5)=n5:=h.at 5 _ rfl;have c6:w.cell? (zq b 6)=n6:=h.at 6 _ rfl;have c7:w.cell? (zq b 7)=n7:=h.at 7 _ rfl;have c8:w.cell? (zq b 8)=n8:=h.at 8 _ rfl;go_enter func298,ntmps298
 go_wp2;go_ret;exact ⟨rfl,(ZQ _ w).alloc (ZV _) _⟩
def wu (o:Option Nat):Nat:=match o with | some n=>n+1 | none=>0
theorem Du (o:Option Nat):kQ 1 o=(wu o:Int):=by cases o <;> simp [kQ,wu]
def jf:List UInt8:=[32,10,91,93,40]
def lu:List UInt8->Nat
 | []=>0
 | c::r=>if c.toNat=40 then wu (dQ r) else if c.toNat=91\/c.toNat=93 then 1 else if 0<=Lib.indexAny (c::r) jf then (Lib.indexAny (c::r) jf).toNat else r.length+1
def ed (l:List UInt8):Prop:=8 < l.length\/∀ x,x∈l->x.toNat < 128
theorem xN (w:World) (s:ByteArray) (pos:Nat):Below w w (w.iter s pos):=(ZQ _ w).alloc (ZV _) _
theorem rY (w:World) (s:ByteArray) (hs:s.size<=2000000000) (hp:ed s.data.toList):
  QB 295 #[s,.string ⟨#[32,10,91,93,40]⟩] w (Lib.indexAny s.data.toList jf:Int):=by
 have hc:∀ (j:Nat) b,(ByteArray.mk #[32,10,91,93,40]).data.toList[j]? =some b->b.toNat < 128:=by
  intro j b hb;have:=YJ hb;simp at this;rcases this with rfl | rfl | rfl | rfl | rfl <;> decide
 by_cases h8:8 < s.size
 ·refine (Tryz.strings_IndexAny_long Tryz.zero306 s ⟨#[32,10,91,93,40]⟩ w (by decide) h8 (by omega) (by decide) hc).mono ?_;rintro e w' ⟨rfl,rfl⟩;exact ⟨rfl,((ZQ _ w).alloc (ZV _) _).alloc (by simp) _⟩
 ·rcases hp with hp | hp
  ·rw [aP] at hp;exact absurd hp h8
  ·refine (Tryz.strings_IndexAny_short s ⟨#[32,10,91,93,40]⟩ w (by decide) (by omega) (fun j b hb=>hp b (YJ hb))).mono ?_;rintro e w' ⟨rfl,pos,rfl⟩;exact ⟨rfl,xN _ _ _⟩
theorem pE (w:World) (s:ByteArray) (hs:s.size<=2000000000) (hp:ed s.data.toList):
  QB 258 #[s] w (lu s.data.toList:Nat):=by
 have HI:=ai (rY w s hs hp);have HS:=ai (oF w s hs);obtain ⟨R,hR⟩:∃ R,lu s.data.toList=R:=⟨_,rfl⟩;rw [hR];have HR:=ai hR;clear hR hp;by_cases he:s.toList.isEmpty=true
 ·have he':s.data.toList=[]:=by rw [<-Zn];simpa using he
  have H0:Hid (R=0):=by show _=_;rw [<-HR.out,he'];rfl
  clear he' HI HS HR;go_enter func258,ntmps258
  go_wp2;go_ret;exact ⟨by rw [H0.out];rfl,ZQ _ _⟩
 ·have he':s.toList.isEmpty=false:=by simpa using he
  have h0:0 < s.size:=Nat.pos_of_ne_zero (fun h=>he (by
   have e:=Zr (l:=s.data.toList) (by rw [aP];exact h);rw [Zn,e];rfl))
  obtain ⟨c,hc⟩:∃ c,s[0]=c:=⟨_,rfl⟩;have hl:s.data.toList=c::s.data.toList.drop 1:=by
   have hlen:0 < s.data.toList.length:=by rw [aP];exact h0
   have e:s.data.toList[0]=c:=by rw [<-hc];rfl
   rw [<-e];exact (Zo hlen)
  have HL:=ai hl;clear hl he;by_cases h40:c.toNat=40
  ·have HV:Hid ((R:Int)=kQ 1 (dQ (s.data.toList.drop 1))):=by show _=_;rw [Du, <-HR.out,HL.out,lu,ZM h40,List.drop_succ_cons,List.drop_zero]
   obtain ⟨z,hz⟩:∃ z,kQ 1 (dQ (s.data.toList.drop 1))=z:=⟨_,rfl⟩;rw [hz] at HV HS;clear HI HR HL hz;go_enter func258,ntmps258
   go_wp2_with fail
   refine HS.out.mono ?_;rintro e w1 ⟨rfl,rfl⟩;clear HS;go_wp2;go_ret;exact ⟨by rw [HV.out];rfl,ZQ _ _⟩
  ·by_cases hb:c.toNat=91\/c.toNat=93
   ·have HV:Hid (R=1):=by show _=_;rw [<-HR.out,HL.out,lu,ZO h40,ZM hb]
    clear HI HR HL HS;rcases hb with hb | hb
    ·go_enter func258,ntmps258
     go_wp2;go_ret;exact ⟨by rw [HV.out];rfl,ZQ _ _⟩
    ·go_enter func258,ntmps258
     go_wp2;go_ret;exact ⟨by rw [HV.out];rfl,ZQ _ _⟩
   ·have h91:¬ c.toNat=91:=fun e=>hb (.inl e)
    have h93:¬ c.toNat=93:=fun e=>hb (.inr e)
    have d91:(((c.toNat:Nat):Int)==91)=false:=by simp;omega
    have d93:(((c.toNat:Nat):Int)==93)=false:=by simp;omega
    have HV:Hid (R=if 0<=Lib.indexAny s.data.toList jf then (Lib.indexAny s.data.toList jf).toNat else s.size):=by
     show _=_
     have e:s.size=(s.data.toList.drop 1).length+1:=by
      rw [<-aP s]
      conv=>lhs;rw [HL.out]
      rfl
     rw [e, <-HR.out]
     conv=>lhs;rw [HL.out,lu,ZO h40,ZO hb]
     rw [<-HL.out]
    obtain ⟨i,hi⟩:∃ i,Lib.indexAny s.data.toList jf=i:=⟨_,rfl⟩;have hige:=Lib.indexAny_ge jf s.data.toList;rw [hi] at HV HI hige;clear HR HL HS hb hi;by_cases hi0:0<=i
    ·go_enter func258,ntmps258
     go_wp2_with fail
     refine HI.out.mono ?_;rintro e w1 ⟨rfl,hb1⟩;clear HI;go_wp2;go_ret;exact ⟨by rw [HV.out,ZM hi0,XI hi0];rfl,hb1⟩
    ·have HV':Hid (R=s.size):=by show _=_;rw [HV.out,ZO hi0]
     clear HV;go_enter func258,ntmps258
     go_wp2_with fail
     refine HI.out.mono ?_;rintro e w1 ⟨rfl,hb1⟩;clear HI;go_wp2;go_ret;exact ⟨by rw [HV'.out];rfl,hb1⟩
theorem wz (w:World) (B:Nat) (s:ByteArray) (A l1 l2 l3 R nb tl:List UInt8) (hs:s.data.toList=A++((l1++10::(l2++10::(l3++10::R)))++([115,116,97,114,116,120,114,101,102,10]++(nb++10::tl)))) (h1:(10:UInt8) ∉ l1) (h2:(10:UInt8) ∉ l2) (h3:(10:UInt8) ∉ l3) (hn:(10:UInt8) ∉ nb) (hnl:nb.length<=18) (hat:Lib.atoi nb=some (A.length:Int))
  (hlast:Lib.lastIndex s.data.toList [115,116,97,114,116,120,114,101,102,10]=((A++(l1++10::(l2++10::(l3++10::R)))).length:Int)) (hsz:s.size<=2000000000) (hm:ft B w) (hB:B<=w.heap.size):
  QB 219 #[s] w (.tuple #[(A.length:Int),.string ⟨R.toArray⟩]):=by
 obtain ⟨T,hT⟩:∃ T,l1++10::(l2++10::(l3++10::R))=T:=⟨_,rfl⟩;rw [hT] at hs hlast;obtain ⟨E,hE⟩:∃ E,(A++T).length=E:=⟨_,rfl⟩;have hEl:E=A.length+T.length:=by rw [<-hE,ZY]
 have hsl:s.size=E+(10+(nb.length+1+tl.length)):=by rw [<-aP,hs,hEl];simp;omega
 have e1:(s.extract (E+10) s.size).data.toList=nb++10::tl:=by
  rw [Zd,YR];simp only [List.extract];have:s.data.toList=(A++T++[115,116,97,114,116,120,114,101,102,10])++(nb++10::tl):=by rw [hs];simp
  rw [this,List.drop_left' (by simp at hE ⊢;omega),ZA (by simp;omega)]
 have e2:(s.extract A.length E).data.toList=T:=by
  rw [Zd,YR];simp only [List.extract];rw [hs,List.drop_left,List.take_left' (by omega)]
 have HLa:=ai (Tryz.strings_LastIndex s ⟨#[115,116,97,114,116,120,114,101,102,10]⟩ (by omega) w);simp only [hlast,hE] at HLa;obtain ⟨m1,m2⟩:=hm;obtain ⟨m,hmc⟩:=m2;have HC1:=ai (Tryz.strings_Cut (s.extract (E+10) s.size) ⟨#[10]⟩ m w (by simp;omega) hmc);rw [e1] at HC1;simp only [tC 10 nb tl hn] at HC1;have HAt:=ai (fun q=>Tryz.strconv_Atoi ⟨nb.toArray⟩ (A.length:Int) (by rw [ae];omega) (by simpa using hat) (w.drewN q));have d1:¬ (E:Int) < 0:=by omega
 have HCT:Hid (∀ (a b:List UInt8),(10:UInt8) ∉ a->a.length+b.length < 2000000000->∀ wx,Below w w wx->CP 221 #[.string ⟨(a++10::b).toArray⟩,.string ⟨#[10]⟩] wx fun e w'=>e=.returned (.tuple #[.string ⟨a.toArray⟩,.string ⟨b.toArray⟩,true])/\∃ n,w'=wx.drewN n):=by
  intro a b ha hab wx hb;have:=Tryz.strings_Cut ⟨(a++10::b).toArray⟩ ⟨#[10]⟩ m wx (by rw [ae];simp;omega) ((hb.cell (p:=zp 1) (by show 1 < _;omega)).trans hmc);simpa only [tC 10 a b ha] using this
 have HT2:Hid (s.extract A.length E=⟨(l1++10::(l2++10::(l3++10::R))).toArray⟩):=by
  show _=_
  rw [hT];exact Zh (Array.toList_inj.1 (by rw [e2]))
 have hTl:T.length=l1.length+(1+(l2.length+(1+(l3.length+(1+R.length))))):=by rw [<-hT];simp;omega
 clear hlast hs e1 e2 hT hE hat;obtain ⟨al,hal⟩:∃ al,A.length=al:=⟨_,rfl⟩;rw [hal] at HAt HT2 hEl ⊢;clear hal hmc;have b1:E+10<=s.size:=by omega
 have b2:al<=E:=by omega
 obtain ⟨X,HX0,HX,HX3⟩:∃ X:Nat->List UInt8,Hid (X 0=l1++10::(l2++10::(l3++10::R)))/\Hid (∀ k,k < 3->∃ a,X k=a++10::X (k+1)/\(10:UInt8) ∉ a/\a.length+(X (k+1)).length < 2000000000)/\Hid (X 3=R):=by
  refine ⟨fun k=>match k with | 0=>l1++10::(l2++10::(l3++10::R)) | 1=>l2++10::(l3++10::R) | 2=>l3++10::R | _=>R,rfl,?_,rfl⟩;intro k hk
  match k,hk with
  | 0,_=>exact ⟨l1,rfl,h1,by simp;omega⟩
  | 1,_=>exact ⟨l2,rfl,h2,by simp;omega⟩
  | 2,_=>exact ⟨l3,rfl,h3,by show l3.length+R.length < _;omega⟩
 have HT3:Hid (s.extract al E=⟨(X 0).toArray⟩):=by show _=_;rw [HX0.out];exact HT2.out
 have dd1:decide ((E:Int) < 0)=false:=by simp
 have dd2:decide ((al:Int) < 0)=false:=by simp
 have dd3:decide (E < al)=false:=by simp;omega
 have dd4:decide ((E:Int) < (al:Int))=false:=by simp;omega
 clear hsl hTl hEl hnl hn h1 h2 h3 HT2 HX0;go_enter func219,ntmps219
 go_wp2_with fail
 refine HLa.out.mono ?_;rintro e w1 ⟨rfl,rfl⟩;clear HLa;go_wp2_with fail
 refine HC1.out.mono ?_;rintro e w2 ⟨rfl,q,rfl⟩;clear HC1;go_wp2_with fail
 refine (HAt.out q).mono ?_;rintro e w3 ⟨rfl,t3,rfl⟩;go_wp2_with fail
 have hb0:Below w1 w1 (Lib.bytesWorld (w1.drewN q) 5 t3):=by
  have h:=Lib.bytesWorld_below (w1.drewN q) 5 t3;exact ⟨h.os,h.tape,h.output,h.size,h.block⟩
 go_loopg [10,44] 5 (fun g x y wr=>∃ k:Nat,k<=3/\4 - k<=g/\x=.string ⟨(X k).toArray⟩/\y=.int .i64 (k:Int)/\Below w1 w1 wr)
 case atStart=>exact ⟨0,by omega,by omega,by rw [HT3.out],rfl,hb0⟩
 case round=>
  obtain ⟨k,hk,hg,rfl,rfl,hbr⟩:=hrel;by_cases h3:k < 3
  ·obtain ⟨a,ha,hna,hla⟩:=HX.out k h3;have HC:=ai (HCT.out a (X (k+1)) hna hla wr hbr);rw [ha];have d:(k:Int) < 3:=by omega
   clear ha hna hla;go_wp2_with fail
   refine HC.out.mono ?_;rintro e w5 ⟨rfl,n5,rfl⟩;go_wp2;go_roundg (gk - 1)
   case measure=>omega
   case rel=>exact ⟨k+1,by omega,by omega,rfl,by congr 1,⟨hbr.os,hbr.tape,hbr.output,hbr.size,hbr.block⟩⟩
  ·have e3:k=3:=by omega
   subst e3;go_wp2;go_ret2;exact ⟨by rw [HX3.out];rfl,hbr⟩
end Go.Proofs.YtbklfkpjoinofaaGreatDoor
