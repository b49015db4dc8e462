import Derived.Test.YtbklfkpjoinofaaGreatDoorA32
import Derived.Test.YtbklfkpjoinofaaGreatDoorA35
set_option linter.all false
set_option maxRecDepth 100000
set_option maxHeartbeats 8000000
namespace Go.Proofs.YtbklfkpjoinofaaGreatDoor
open Go.RowKit Go.Proofs.Tryz
section
open Go.RowKit Go.Shelf
attribute [local go_sem] Oper.semAt_some
def ng (B:Nat) (w:World):Prop:=2 < B/\∃ ev,w.cell? ⟨2,0,none⟩=some ev/\(ev=.nilIface\/∃ te pe,ev=.iface te pe)
theorem ng.on {B:Nat} {w w':World} (h:ng B w) (hb:Below B w w'):ng B w':=by
 obtain ⟨h2,ev,hc,he⟩:=h;exact ⟨h2,ev,(hb.cell (p:=⟨2,0,none⟩) h2).trans hc,he⟩
def zd (L:List Nat) (i:Nat) (args:Array Value) (i':Nat):Prop:=∃ h:i < L.length,i'=i+1/\args=#[.int .i64 ((L[i]:Nat):Int)]
theorem BL (a b:List Nat):bR (a++b)=bR a++bR b:=by
 induction a with
 | nil=>rfl
 | cons x r ih=>simp only [ZG,bR,ih,ZT]
def Eh:Value->Nat
 | .string r=>r.size
 | _=>0
theorem xf (B b:Nat) (s:ByteArray) (at_:Nat) (L:List Nat) (tr:List UInt8) (xi:World->Prop) (hpre:∀ w w',xi w->Below B w w'->xi w') (hpe:∀ w,xi w->ng B w)
  (HT:Hid (∀ W,xi W->B<=W.heap.size->QB 219 #[s] W (.tuple #[.int .i64 (at_:Int),.string ⟨(bR L++tr).toArray⟩])))
  (hrow:∀ n∈L,(gr n).length=10/\Lib.atoi (gr n)=some (n:Int)) (htl:20<=tr.length) (hno:Lib.atoi (tr.take 10)=none) (hsz:(bR L++tr).length<=2000000000):
  rs Fence.wide prog 218 #[zp b] B (aS B b [.string s]) xi 0 (fun _=>True) (zd (L++[at_])) (fun i=>i=L.length+1):=by
 rintro l K Kx hK hKx _ W hp hBW hY S h0;have hCt:=aS.thing B b [.string s];obtain ⟨SC,kC,_,_⟩:=ah.fst (hK 0) h0;have c0:W.cell? ⟨b,0,none⟩=some (.string s):=kC.at 0 _ rfl;have HN:=ai (HT.out W hp hBW);have H0:=ai h0;have hge:=fun k=>(ah.thing hCt (hK 0)).ge (k:=k) h0
 clear h0 kC HT;refine callsIn_of_wp func218 rfl trivial ?_ rfl;show (Code.wpIn _ _ _ _ _ _ _)
 simp only [ntmps218,List.size_toArray,ZX,ZS,Nat.reduceAdd,Nat.reduceSub,Array.replicate_succ,Array.replicate_zero,List.push_toArray,List.append_toArray,Zt,ZG]
 gi_wp2
 refine ⟨trivial,rfl,(callsIn_wide.2 HN.out).mono ?_⟩;rintro e W1 ⟨rfl,hb1⟩;have HS0:=ai ((ah.thing hCt (hK 0)).grow H0.out hb1);have HM1:=ai (Mv.grow hb1 S);clear HN H0 hb1
 gi_wp2
 have HBA:∀ i,i < L.length+1->i < (L++[at_]).length:=fun i h=>by simp;omega
 gi_loopw [4] (fun v wr=>∃ (i:Nat) (S':Bl),i<=L.length/\v=.string ⟨(bR (L.drop i)++tr).toArray⟩/\ah (aS B b [.string s]) (K i) wr S'/\Mv S W S' wr) (fun v _=>Eh v)
 case atStart=>exact ⟨0,S,by omega,rfl,HS0.out,HM1.out⟩
 case round=>
  obtain ⟨i,S',hi,rfl,hst,hmv⟩:=hrel;have hbw:Below B W wr:=hmv.below hge hBW;have hlen:(bR (L.drop i)++tr).length<=2000000000:=by
   have h1:bR L=bR (L.take i)++bR (L.drop i):=by rw [<-BL,Ym]
   rw [h1] at hsz;simp only [ZY] at hsz ⊢;omega
  by_cases hlt:i < L.length
  ·obtain ⟨n,hn⟩:∃ n,L[i]=n:=⟨_,rfl⟩;obtain ⟨Y,hYe⟩:∃ Y,bR (L.drop (i+1))++tr=Y:=⟨_,rfl⟩;obtain ⟨ht10,hat⟩:=hrow n (by rw [<-hn];exact Ys hlt);have hX:bR (L.drop i)++tr=gr n++([32,48,48,48,48,48,32,110,32,10]++Y):=by
    rw [Zo hlt,hn, <-hYe];simp [bR,ux]
   rw [hX] at hlen ⊢;obtain ⟨X,hXX⟩:∃ X,X=(⟨(gr n++([32,48,48,48,48,48,32,110,32,10]++Y)).toArray⟩:ByteArray):=⟨_,rfl⟩;have hXs:X.size=20+Y.length:=by rw [hXX,ae];simp [ht10];omega
   have x1:X.extract 0 10=⟨(gr n).toArray⟩:=by
    refine Zh (Array.toList_inj.1 ?_);rw [hXX,Zd,YR];simp only [List.extract,List.drop_zero,Nat.sub_zero];rw [List.take_left' ht10]
   have x2:X.extract 20 X.size=⟨Y.toArray⟩:=by
    refine Zh (Array.toList_inj.1 ?_);rw [iA,hXX, <-ZT];exact List.drop_left' (by simp [ht10])
   have hXl:X.size<=2000000000:=by rw [hXX,ae];exact hlen
   have h20:20<=X.size:=by omega
   have HS:Hid (X.size=20+Y.length):=hXs;have CA:=ai (fun wx=>Tryz.strconv_Atoi ⟨(gr n).toArray⟩ (n:Int) (by rw [ae,ht10];omega) (by simpa using hat) wx);have d20:decide ((20:Int)<=(X.size:Int))=true:=by simp;omega
   rw [<-hXX];have HX2:=ai x2;clear hXX hXs hX hlen hat x2
   gi_wp2
   refine ⟨trivial,rfl,(callsIn_wide.2 (CA.out wr)).mono ?_⟩;rintro e w2 ⟨rfl,t2,rfl⟩;have hb2:Below wr wr (Lib.bytesWorld wr 5 t2):=Lib.bytesWorld_below wr 5 t2;obtain ⟨w2,hw2⟩:∃ w2,Lib.bytesWorld wr 5 t2=w2:=⟨_,rfl⟩;rw [hw2] at hb2 ⊢;clear hw2 CA;have hst2:=(ah.thing hCt (hK i)).grow hst hb2;have hmv2:=hmv.trans (Mv.grow hb2 S');obtain ⟨SK,kK,_,backK⟩:=ah.snd hCt hst2;have hLi:(L++[at_])[i]'(HBA i (by omega))=n:=by rw [List.getElem_append_left hlt];exact hn
   obtain ⟨fn,tmps,assign,body,hy,hR⟩:=hY i _ _ w2 SK ⟨HBA i (by omega),rfl,rfl⟩ kK (hmv2.below hge hBW);rw [hLi] at hy
   gi_wp2
   refine ⟨rfl,hR.mono ?_⟩;rintro e w3 (⟨rfl,SK3,kK3,mK3⟩ | ⟨rfl,SK3,kK3,mK3⟩)
   ·obtain ⟨S3,hst3,m3⟩:=backK _ _ _ kK3 mK3
    gi_wp2
    go_roundw
    case rel=>exact ⟨i+1,S3,by omega,by rw [HX2.out, <-hYe],hst3,hmv2.trans m3⟩
    case measure=>
     rw [HX2.out];show (⟨Y.toArray⟩:ByteArray).size < X.size
     rw [ae,HS.out];omega
   ·obtain ⟨S3,hst3,m3⟩:=backK _ _ _ kK3 mK3
    gi_wp2
    refine YO (results_none rfl _ _ _) rfl ?_;exact ⟨⟨_,rfl⟩,.inr ⟨S3,hst3,hmv2.trans m3⟩⟩
  ·have hil:i=L.length:=by omega
   subst hil;have hX:bR (L.drop L.length)++tr=tr:=by rw [List.drop_length];rfl
   rw [hX] at hlen ⊢;obtain ⟨X,hXX⟩:∃ X,X=(⟨tr.toArray⟩:ByteArray):=⟨_,rfl⟩;have hXs:X.size=tr.length:=by rw [hXX,ae]
   have x1:X.extract 0 10=⟨(tr.take 10).toArray⟩:=by
    refine Zh (Array.toList_inj.1 ?_);rw [hXX,Zd,YR];simp only [List.extract,List.drop_zero,Nat.sub_zero]
   have hXl:X.size<=2000000000:=by omega
   have h20:20<=X.size:=by omega
   obtain ⟨_,ev,hev,hsh⟩:=(hpe _ (hpre _ _ hp hbw));have CA:=ai (Tryz.strconv_Atoi_err ⟨(tr.take 10).toArray⟩ (by rw [ae,Zk];omega) (by simpa using hno) ev wr hev hsh);have d20:decide ((20:Int)<=(X.size:Int))=true:=by simp;omega
   rw [<-hXX];clear hXX hXs hX hlen
   gi_wp2
   refine ⟨trivial,rfl,(callsIn_wide.2 CA.out).mono ?_⟩;rintro e w2 ⟨N,rfl,_,_,hb2⟩;clear CA;have hst2:=(ah.thing hCt (hK L.length)).grow hst hb2;have hmv2:=hmv.trans (Mv.grow hb2 S');obtain ⟨SK,kK,_,backK⟩:=ah.snd hCt hst2;have hLi:(L++[at_])[L.length]'(HBA _ (by omega))=at_:=by simp
   obtain ⟨fn,tmps,assign,body,hy,hR⟩:=hY L.length _ _ w2 SK ⟨HBA _ (by omega),rfl,rfl⟩ kK (hmv2.below hge hBW);rw [hLi] at hy
   gi_wp2
   refine ⟨rfl,hR.mono ?_⟩;rintro e w3 (⟨rfl,SK3,kK3,mK3⟩ | ⟨rfl,SK3,kK3,mK3⟩)
   ·obtain ⟨S3,hst3,m3⟩:=backK _ _ _ kK3 mK3
    gi_wp2
    go_end0;exact ⟨⟨_,rfl⟩,.inl ⟨_,S3,rfl,hst3,hmv2.trans m3⟩⟩
   ·obtain ⟨S3,hst3,m3⟩:=backK _ _ _ kK3 mK3
    gi_wp2
    go_end0;exact ⟨⟨_,rfl⟩,.inr ⟨S3,hst3,hmv2.trans m3⟩⟩
end
section
open Go.RowKit Go.Shelf
attribute [local go_sem] Oper.semAt_some
theorem wU (s:ByteArray) (w:World):
  CP 187 #[s] w fun e W'=>e=.returned (.func (.func 218) #[] #[zp w.heap.size])/\W'=w.alloc (.cells #[s] 9):=by
 have hmf:∀ (fn:Fn) (first cap:Array Value) (w:World),(Instr.makeFunc fn first cap).run prog w=.ok (.func fn first cap) w:=fun _ _ _ _=>rfl
 go_enter func187,ntmps187
 go_wp2;go_ret;exact ⟨rfl,rfl⟩
theorem vN (s:ByteArray) (w:World):
  CP 142 #[s] w fun e W'=>e=.returned (.func (.func 186) #[] #[zp w.heap.size])/\W'=w.alloc (.cells #[s] 9):=by
 have hmf:∀ (fn:Fn) (first cap:Array Value) (w:World),(Instr.makeFunc fn first cap).run prog w=.ok (.func fn first cap) w:=fun _ _ _ _=>rfl
 go_enter func142,ntmps142
 go_wp2;go_ret;exact ⟨rfl,rfl⟩
def zx (bods:List (List UInt8)) (j:Nat) (args:Array Value) (j':Nat):Prop:=∃ h:j < bods.length,j'=j+1/\args=#[.int .i64 ((j+1:Nat):Int),.string ⟨(bods[j]).toArray⟩]
def zc (M:List Nat) (i:Nat):Nat:=if i=0 then 0 else M.getD (i - 1) 0
theorem vQ (B b:Nat) (s:ByteArray) (M:List Nat) (bods:List (List UInt8)) (xi:World->Prop) (hpre:∀ w w',xi w->Below B w w'->xi w') (hM:M.length=bods.length+1) (hbl:bods.length<=1000000) (hsz:s.size<=2000000000)
  (hmono:∀ i (h:i < M.length),zc M i<=M[i]/\M[i]<=s.size)
  (HQ:Hid (∀ b,rs Fence.wide prog 218 #[zp b] B (aS B b [.string s]) xi 0 (fun _=>True) (zd M) (fun i=>i=bods.length+1)))
  (HBo:Hid (∀ i (h:i+1 < M.length) (h':i < bods.length) W,xi W->B<=W.heap.size->QB 188 #[.string (s.extract (zc M (i+1)) M[i+1])] W (.string ⟨(bods[i]).toArray⟩))):
  rs Fence.wide prog 186 #[zp b] B (aS B b [.string s]) xi 0 (fun _=>True) (zx bods) (fun j=>j=bods.length):=by
 rintro l K Kx hK hKx _ W hp hBW hY S h0;have hCt:=aS.thing B b [.string s];obtain ⟨SC,kC,_,_⟩:=ah.fst (hK 0) h0;have c0:W.cell? ⟨b,0,none⟩=some (.string s):=kC.at 0 _ rfl;have hge:=fun k=>(ah.thing hCt (hK 0)).ge (k:=k) h0
 have HO:=ai (wU s);have hblw:b < W.heap.size:=ZD W _ c0;obtain ⟨n,hn⟩:∃ n,W.heap.size=n:=⟨_,rfl⟩;obtain ⟨W3,hW3⟩:∃ W3,((W.alloc (Obj.cells #[Value.func (Fn.yield l) #[] #[]] 189)).alloc (Obj.cells #[Value.int IntKind.i64 0] 3)).alloc (Obj.cells #[Value.int IntKind.i64 0] 3)=W3:=⟨_,rfl⟩;have hb3:Below n W W3:=by
  rw [<-hW3, <-hn];exact (((ZQ _ W).alloc (ZV _) _).alloc (by simp) _).alloc (by simp;omega) _
 have hz3:W3.heap.size=n+1+1+1:=by rw [<-hW3];simp [hn]
 have c3:W3.cell? ⟨b,0,none⟩=some (.string s):=(hb3.cell (p:=⟨b,0,none⟩) (by show b < n;omega)).trans c0;have bx3:∃ S3,Bx B n [[.func (.yield l) #[] #[]],[.int .i64 0],[.int .i64 0]] W3 S3:=by
  obtain ⟨S1,b1⟩:=(Bx.nil B W hBW).snoc [.func (.yield l) #[] #[]] 189 (by simp);obtain ⟨S2,b2⟩:=b1.snoc [.int .i64 0] 3 (by simp);obtain ⟨S3,b3⟩:=b2.snoc [.int .i64 0] 3 (by simp);rw [hn,hW3] at b3;exact ⟨S3,b3⟩
 obtain ⟨S3,b3⟩:=bx3;obtain ⟨a1,a2⟩:=ah.new (ah.thing hCt (hK 0)) h0 b3 (by rw [hn];exact hb3) (fun k e=>by rw [b3.1] at e;rw [hn];exact e.1);have hB3:B<=W3.heap.size:=by omega
 have hC4:=aS.alloc (B:=B) (vs:=[.string s]) (w:=W3) (t:=9) hB3;obtain ⟨a3,a4⟩:=ah.new (ah.thing (Bx.thing B _ _) (ah.thing hCt (hK 0))) a1 hC4 ((ZQ _ _).alloc (ZV _) _) (fun k e=>Nat.le_of_eq (Eq.symm e));have a5:=a2.trans a4;have hB4:B<=(W3.alloc (Obj.cells #[Value.string s] 9)).heap.size:=by simp;omega
 have hbel4:Below B W (W3.alloc (Obj.cells #[Value.string s] 9)):=a5.below hge hBW;have HA:=ai a3;have HM:=ai a5;have HK0:=ai h0;clear a1 a2 a3 a4 a5 hC4 b3 h0;refine callsIn_of_wp_marks func186 rfl trivial ?_ rfl;simp only [ntmps186,List.size_toArray,ZX,ZS,Nat.reduceAdd,Nat.reduceSub,Array.replicate_succ,Array.replicate_zero,List.push_toArray,List.append_toArray,Zt,ZG];rw [<-hW3] at c3;have HW3:=ai hW3;have HN:=ai hn;have HZ3:=ai hz3;clear hW3 hn hz3
 gi_wp2
 refine ⟨trivial,rfl,(callsIn_wide.2 (HO.out _)).mono ?_⟩;rintro e W' ⟨rfl,rfl⟩;have hn:=HN.out;have hz3:=HZ3.out;have hW3:=HW3.out;rw [hW3] at c3 ⊢;rw [hz3] at HA HM ⊢;obtain ⟨W4,hW4⟩:∃ W4,W3.alloc (Obj.cells #[Value.string s] 9)=W4:=⟨_,rfl⟩;rw [hW4] at HA HM hB4 hbel4 ⊢;have hz4:n+1+1+1 < W4.heap.size:=by rw [<-hW4];simp;omega
 rw [hn];clear hW4 hW3 HO c3 c0 kC HN HZ3 HW3 hz3 hn
 gi_wp2
 refine mc (B:=B) rfl (fun _=>trivial) rfl rfl (enters_of func218 (by kernel_rfl) rfl) (HQ.out _) (fun W1 hb=>hpre _ _ (hpre _ _ hp hbel4) hb) (aS.thing _ _ _) ?hps
  (fun i=>ah (Bx B n [[.func (.yield l) #[] #[]],[.int .i64 (i:Int)],[.int .i64 (zc M i:Int)]]) (ah (aS B b [.string s]) (K (i - 1))))
  (fun j W S=>∃ i:Nat,j=.ret/\ah (Bx B n [[.func (.yield l) #[] #[]],[.int .i64 (i:Int)],[.int .i64 (zc M i:Int)]]) (ah (aS B b [.string s]) Kx) W S) ?hI ?hIx (fun a _ _ _=>trivial) hB4 HA.out ?round ?done ?stop
 case hps=>
  rintro a args a' ⟨_,_,rfl⟩;rfl
 case hI=>exact fun a=>ah.thing (Bx.thing _ _ _) (ah.thing hCt (hK _))
 case hIx=>exact fun j=>aJ.any fun i=>aJ.pure (ah.thing (Bx.thing _ _ _) (ah.thing hCt hKx))
 case round=>
  rintro l' i args i' W0 ⟨hi,rfl,rfl⟩
  gi_wp2
  refine ⟨trivial,?_⟩;rintro W5 S5 h5 hb5;obtain ⟨R1,bx,_,backB⟩:=ah.fst (ah.thing hCt (hK _)) h5;obtain ⟨R2,kc,_,_⟩:=ah.mid (Bx.thing _ _ _) (hK _) h5;obtain ⟨R3,kk,_,backK⟩:=ah.third (Bx.thing _ _ _) hCt h5;have y0:W5.cell? ⟨n,0,none⟩=some (.func (.yield l) #[] #[]):=bx.at 0 0 _ _ rfl rfl;have y1:W5.cell? ⟨n+1,0,none⟩=some (.int .i64 (i:Int)):=bx.at 1 0 _ _ rfl rfl;have y2:W5.cell? ⟨n+1+1,0,none⟩=some (.int .i64 (zc M i:Int)):=bx.at 2 0 _ _ rfl rfl;have yb:W5.cell? ⟨b,0,none⟩=some (.string s):=kc.at 0 _ rfl;obtain ⟨hm1,hm2⟩:=hmono i hi;obtain ⟨nx,hnx⟩:∃ nx,M[i]=nx:=⟨_,rfl⟩;obtain ⟨av,hav⟩:∃ av,zc M i=av:=⟨_,rfl⟩;have HB1:Hid (∀ (_:0 < i) (h2:i - 1 < bods.length) (W:World),xi W->B<=W.heap.size->QB 188 #[.string (s.extract (zc M i) M[i])] W (.string ⟨(bods[i - 1]).toArray⟩)):=by
   intro h' h2;have:=HBo.out (i - 1) (by omega) h2;have e:i - 1+1=i:=by omega
   simp only [e] at this;exact this
  simp only [hnx,hav] at HB1 hm1 hm2 y2 ⊢;have ln0:n < W5.heap.size:=by have:=hb5.size;omega
  have ln1:n+1 < W5.heap.size:=by have:=hb5.size;omega
  have ln2:n+1+1 < W5.heap.size:=by have:=hb5.size;omega
  have lnb:b < W5.heap.size:=ZD W5 _ yb;have q1:decide (nx < av)=false:=by simp;omega
  have q2:decide (s.size < nx)=false:=by simp;omega
  have q3:decide ((nx:Int) < (av:Int))=false:=by simp;omega
  have q4:decide ((s.size:Int) < (nx:Int))=false:=by simp;omega
  have ln0:n < W5.heap.size:=by have:=hb5.size;omega
  have ln1:n+1 < W5.heap.size:=by have:=hb5.size;omega
  have ln2:n+1+1 < W5.heap.size:=by have:=hb5.size;omega
  have lnb:b < W5.heap.size:=ZD W5 _ yb;have q1:decide (nx < av)=false:=by simp;omega
  have q2:decide (s.size < nx)=false:=by simp;omega
  have q3:decide ((nx:Int) < (av:Int))=false:=by simp;omega
  have q4:decide ((s.size:Int) < (nx:Int))=false:=by simp;omega
  have ln0:n < W5.heap.size:=by have:=hb5.size;omega
  have ln1:n+1 < W5.heap.size:=by have:=hb5.size;omega
  have ln2:n+1+1 < W5.heap.size:=by have:=hb5.size;omega
  have lnb:b < W5.heap.size:=ZD W5 _ yb;have q1:decide (nx < av)=false:=by simp;omega
  have q2:decide (s.size < nx)=false:=by simp;omega
  have q3:decide ((nx:Int) < (av:Int))=false:=by simp;omega
  have q4:decide ((s.size:Int) < (nx:Int))=false:=by simp;omega
  by_cases h0i:i=0
  ·subst h0i
   gi_wp2
   refine oJ (fun _=>trivial) 10 _ (ag [(0:Int),false,false,undef,undef,undef,undef,undef,undef,undef]) (by kernel_rfl) rfl (by kernel_rfl) (by kernel_rfl) aq ?_;simp only [TD];refine ⟨fun w1 hG hd=>?_,fun v0=>?_⟩
   ·clear hd;have cc:=(Zg hG (p:=⟨n+1,0,none⟩) ln1).trans y1
    gi_wp2
    exact RG
   simp only [TN];refine ⟨fun w1 hG hd=>?_,fun v1=>?_⟩
   ·have d0:v0=.int .i64 0:=hd ⟨0,.data⟩ (by simp) rfl;clear hd;subst d0
    gi_wp2
    exact RG
   simp only [TN];refine ⟨fun w1 hG hd=>?_,fun v2=>?_⟩
   ·have d1:v1=.bool false:=hd ⟨1,.data⟩ (by simp) rfl;clear hd;subst d1
    gi_wp2
    exact RG
   simp only [TN];refine ⟨fun w1 hG hd=>?_,fun v3=>?_⟩
   ·have d2:v2=.bool false:=hd ⟨2,.guard⟩ (by simp) rfl;clear hd;subst d2
    gi_wp2
    exact RG
   simp only [TN];refine ⟨fun w1 hG hd=>?_,fun v4=>?_⟩
   ·have d2:v2=.bool false:=hd ⟨2,.guard⟩ (by simp) rfl;clear hd;subst d2
    gi_wp2
    exact RG
   simp only [TN];refine ⟨fun w1 hG hd=>?_,fun v5=>?_⟩
   ·have d2:v2=.bool false:=hd ⟨2,.guard⟩ (by simp) rfl;clear hd;subst d2
    gi_wp2
    exact RG
   simp only [TN];refine ⟨fun w1 hG hd=>?_,fun v6=>?_⟩
   ·have d2:v2=.bool false:=hd ⟨2,.guard⟩ (by simp) rfl;clear hd;subst d2
    gi_wp2
    exact RG
   simp only [TN];refine ⟨fun w1 hG hd=>?_,fun v7=>?_⟩
   ·have d2:v2=.bool false:=hd ⟨2,.guard⟩ (by simp) rfl;clear hd;subst d2
    gi_wp2
    exact RG
   simp only [TN];refine ⟨fun w1 hG hd=>?_,fun v8=>?_⟩
   ·have d5:v5=undef:=hd ⟨5,.data⟩ (by simp) rfl;have d6:v6=undef:=hd ⟨6,.data⟩ (by simp) rfl;have d7:v7=undef:=hd ⟨7,.data⟩ (by simp) rfl;have d2:v2=.bool false:=hd ⟨2,.guard⟩ (by simp) rfl;clear hd;subst d5 d6 d7 d2
    gi_wp2
    exact RG
   simp only [TN];refine ⟨fun w1 hG hd=>?_,fun v9=>?_⟩
   ·have d8:v8=undef:=hd ⟨8,.data⟩ (by simp) rfl;have d2:v2=.bool false:=hd ⟨2,.guard⟩ (by simp) rfl;clear hd;subst d8 d2
    gi_wp2
    refine ⟨trivial,?_⟩
    gi_wp2
    exact RG
   simp only [TN];intro w1 hG hd;have d0:v0=.int .i64 0:=hd 0 (by omega);have d1:v1=.bool false:=hd 1 (by omega);have d2:v2=.bool false:=hd 2 (by omega);have d3:v3=undef:=hd 3 (by omega);have d4:v4=undef:=hd 4 (by omega);have d5:v5=undef:=hd 5 (by omega);have d6:v6=undef:=hd 6 (by omega);have d7:v7=undef:=hd 7 (by omega);have d8:v8=undef:=hd 8 (by omega);have d9:v9=undef:=hd 9 (by omega);subst d0 d1 d2 d3 d4 d5 d6 d7 d8 d9;clear hd;have h6:=(ah.thing (Bx.thing _ _ _) (ah.thing hCt (hK _))).grow h5 hG;obtain ⟨R6,bx6,_,backB6⟩:=ah.fst (ah.thing hCt (hK _)) h6;have z1:w1.cell? ⟨n+1,0,none⟩=some (.int .i64 0):=bx6.at 1 0 _ _ rfl rfl;have z2:w1.cell? ⟨n+1+1,0,none⟩=some (.int .i64 (av:Int)):=by rw [<-hav];exact bx6.at 2 0 _ _ rfl rfl
   have f1:w1.frozen? ⟨n+1,0,none⟩=false:=bx6.fz 1 0 (by simp);have f2:w1.frozen? ⟨n+1+1,0,none⟩=false:=bx6.fz 2 0 (by simp)
   gi_wp2
   refine ⟨(fun _ h=>nomatch h),?_⟩
   gi_wp2
   obtain ⟨b1,m1⟩:=bx6.set 1 0 _ (.int .i64 ((0+1:Nat):Int)) rfl (by simp);obtain ⟨b2,m2⟩:=b1.set 2 0 _ (.int .i64 (nx:Int)) rfl (by simp);obtain ⟨S7,h7,m7⟩:=backB6 _ _ _ b2 (m1.trans m2);refine ⟨S7,?_,(Mv.grow hG S5).trans m7⟩;have ea:zc M (0+1)=nx:=by rw [<-hnx];simp [zc,hi]
   dsimp only;rw [ea];exact h7
  ·have hi1:i - 1 < bods.length:=by omega
   obtain ⟨bd,hbd⟩:∃ bd,bods[i - 1]=bd:=⟨_,rfl⟩;have HB2:Hid (∀ w1,af W5 w1->QB 188 #[.string (s.extract av nx)] w1 (.string ⟨bd.toArray⟩)):=by
    intro w1 hG;have:=HB1.out (by omega) hi1 w1 (hpre _ _ hp (hbel4.trans (hb5.trans (hG.mono (ZU hB4 hb5.size))))) (ZU hB4 (ZU hb5.size hG.size));rw [hbd] at this;exact this
   have p1:decide ((0:Int) < (i:Int))=true:=by simp;omega
   have p2:decide (0 < i)=true:=by simp;omega
   gi_wp2
   refine oJ (fun _=>trivial) 10 _ (ag [.int .i64 (i:Int),true,true,.func (.yield l) #[] #[],.int .i64 (i:Int),s,.int .i64 (av:Int),.int .i64 (nx:Int),.string (s.extract av nx),.string ⟨bd.toArray⟩]) (by kernel_rfl) rfl (by kernel_rfl) (by kernel_rfl) aq ?_;simp only [TD];refine ⟨fun w1 hG hd=>?_,fun v0=>?_⟩
   ·clear hd;have cc:=(Zg hG (p:=⟨n+1,0,none⟩) ln1).trans y1
    gi_wp2
    exact RG
   simp only [TN];refine ⟨fun w1 hG hd=>?_,fun v1=>?_⟩
   ·have d0:v0=.int .i64 (i:Int):=hd ⟨0,.data⟩ (by simp) rfl;clear hd;subst d0
    gi_wp2
    exact RG
   simp only [TN];refine ⟨fun w1 hG hd=>?_,fun v2=>?_⟩
   ·have d1:v1=.bool true:=hd ⟨1,.data⟩ (by simp) rfl;clear hd;subst d1
    gi_wp2
    exact RG
   simp only [TN];refine ⟨fun w1 hG hd=>?_,fun v3=>?_⟩
   ·have d2:v2=.bool true:=hd ⟨2,.guard⟩ (by simp) rfl;clear hd;subst d2;have cc:=(Zg hG (p:=⟨n,0,none⟩) ln0).trans y0
    gi_wp2
    exact RG
   simp only [TN];refine ⟨fun w1 hG hd=>?_,fun v4=>?_⟩
   ·have d2:v2=.bool true:=hd ⟨2,.guard⟩ (by simp) rfl;clear hd;subst d2;have cc:=(Zg hG (p:=⟨n+1,0,none⟩) ln1).trans y1
    gi_wp2
    exact RG
   simp only [TN];refine ⟨fun w1 hG hd=>?_,fun v5=>?_⟩
   ·have d2:v2=.bool true:=hd ⟨2,.guard⟩ (by simp) rfl;clear hd;subst d2;have cc:=(Zg hG (p:=⟨b,0,none⟩) lnb).trans yb
    gi_wp2
    exact RG
   simp only [TN];refine ⟨fun w1 hG hd=>?_,fun v6=>?_⟩
   ·have d2:v2=.bool true:=hd ⟨2,.guard⟩ (by simp) rfl;clear hd;subst d2;have cc:=(Zg hG (p:=⟨n+1+1,0,none⟩) ln2).trans y2
    gi_wp2
    exact RG
   simp only [TN];refine ⟨fun w1 hG hd=>?_,fun v7=>?_⟩
   ·have d2:v2=.bool true:=hd ⟨2,.guard⟩ (by simp) rfl;clear hd;subst d2
    gi_wp2
    exact RG
   simp only [TN];refine ⟨fun w1 hG hd=>?_,fun v8=>?_⟩
   ·have d5:v5=.string s:=hd ⟨5,.data⟩ (by simp) rfl;have d6:v6=.int .i64 (av:Int):=hd ⟨6,.data⟩ (by simp) rfl;have d7:v7=.int .i64 (nx:Int):=hd ⟨7,.data⟩ (by simp) rfl;have d2:v2=.bool true:=hd ⟨2,.guard⟩ (by simp) rfl;clear hd;subst d5 d6 d7 d2
    gi_wp2
    exact RG
   simp only [TN];refine ⟨fun w1 hG hd=>?_,fun v9=>?_⟩
   ·have d8:v8=.string (s.extract av nx):=hd ⟨8,.data⟩ (by simp) rfl;have d2:v2=.bool true:=hd ⟨2,.guard⟩ (by simp) rfl;clear hd;subst d8 d2;have HX:=ai (HB2.out w1 hG)
    gi_wp2
    refine ⟨trivial,rfl,(CallsIn.inRound l' (callsIn_wide.2 HX.out)).mono ?_⟩;rintro e w2 ⟨rfl,hB2⟩
    gi_wp2
    exact ⟨rfl,hB2⟩
   simp only [TN];intro w1 hG hd;have d0:v0=.int .i64 (i:Int):=hd 0 (by omega);have d1:v1=.bool true:=hd 1 (by omega);have d2:v2=.bool true:=hd 2 (by omega);have d3:v3=.func (.yield l) #[] #[]:=hd 3 (by omega);have d4:v4=.int .i64 (i:Int):=hd 4 (by omega);have d5:v5=.string s:=hd 5 (by omega);have d6:v6=.int .i64 (av:Int):=hd 6 (by omega);have d7:v7=.int .i64 (nx:Int):=hd 7 (by omega);have d8:v8=.string (s.extract av nx):=hd 8 (by omega);have d9:v9=.string ⟨bd.toArray⟩:=hd 9 (by omega);subst d0 d1 d2 d3 d4 d5 d6 d7 d8 d9;clear hd;have h6:=(ah.thing (Bx.thing _ _ _) (ah.thing hCt (hK _))).grow h5 hG;obtain ⟨R6,kk6,_,backK6⟩:=ah.third (Bx.thing _ _ _) hCt h6;have hbw:Below B W w1:=hbel4.trans (hb5.trans (hG.mono (ZU hB4 hb5.size)));obtain ⟨fn,tmps,assign,body,hy,hR⟩:=hY (i - 1) _ _ w1 R6 ⟨hi1,rfl,rfl⟩ kk6 hbw;have ei:i - 1+1=i:=by omega
   rw [ei,hbd] at hy;rw [ei] at hR
   gi_wp2
   refine ⟨rfl,RoundIn.mono hR ?_⟩;rintro e w2 (⟨rfl,SK3,kK3,mK3⟩ | ⟨rfl,SK3,kK3,mK3⟩)
   ·obtain ⟨S8,h8,m8⟩:=backK6 _ _ _ kK3 mK3;obtain ⟨R9,bx6,_,backB6⟩:=ah.fst (ah.thing hCt (hK _)) h8;have z1:w2.cell? ⟨n+1,0,none⟩=some (.int .i64 (i:Int)):=bx6.at 1 0 _ _ rfl rfl;have z2:w2.cell? ⟨n+1+1,0,none⟩=some (.int .i64 (av:Int)):=by rw [<-hav];exact bx6.at 2 0 _ _ rfl rfl
    have f1:w2.frozen? ⟨n+1,0,none⟩=false:=bx6.fz 1 0 (by simp);have f2:w2.frozen? ⟨n+1+1,0,none⟩=false:=bx6.fz 2 0 (by simp);have hil:i<=1000000000:=by omega
    gi_wp2
    obtain ⟨b1,m1⟩:=bx6.set 1 0 _ (.int .i64 ((i+1:Nat):Int)) rfl (by simp);obtain ⟨b2,m2⟩:=b1.set 2 0 _ (.int .i64 (nx:Int)) rfl (by simp);obtain ⟨S7,h7,m7⟩:=backB6 _ _ _ b2 (m1.trans m2);refine ⟨S7,?_,((Mv.grow hG S5).trans m8).trans m7⟩;have ea:zc M (i+1)=nx:=by rw [<-hnx];simp [zc,hi]
    dsimp only;rw [ea];exact h7
   ·obtain ⟨S8,h8,m8⟩:=backK6 _ _ _ kK3 mK3
    gi_wp2
    refine ⟨S8,⟨i,rfl,?_⟩,(Mv.grow hG S5).trans m8⟩;exact h8
 case done=>
  rintro D i W6 S6 rfl hs hm;obtain ⟨T3,k3,_,back3⟩:=ah.snd (ah.thing (aS.thing _ _ _) (ah.thing (Bx.thing _ _ _) (ah.thing hCt (hK _)))) hs
  gi_wp2
  obtain ⟨p6,m6⟩:=k3.put (.deferred none);obtain ⟨T7,k7,m7⟩:=back3 _ _ _ p6 m6;obtain ⟨T8,k8,m8⟩:=ah.drop k7;obtain ⟨T9,k9,m9⟩:=ah.drop (ah.swap k8);obtain ⟨T10,k10,m10⟩:=ah.drop (ah.swap k9);refine ⟨by simp,.inl ⟨_,_,rfl,run_takeDeferred k3.2.2,?_⟩⟩;refine ⟨_,results_none rfl _ _ _,⟨_,rfl⟩,.inl ⟨_,T10,rfl,k10,?_⟩⟩;exact ((((HM.out.trans hm).trans m7).trans m8).trans m9).trans m10
 case stop=>
  rintro D c W6 S6 hs hm;obtain ⟨T3,k3,_,back3⟩:=ah.snd (ah.thing (aS.thing _ _ _) (aJ.any fun i=>aJ.pure (ah.thing (Bx.thing _ _ _) (ah.thing hCt hKx)))) hs;obtain ⟨p6,m6⟩:=k3.put (.deferred none);obtain ⟨T7,k7,m7⟩:=back3 _ _ _ p6 m6;obtain ⟨T8,k8,m8⟩:=ah.drop k7;obtain ⟨T9,⟨i,rfl,k9⟩,m9⟩:=ah.drop (ah.swap k8);obtain ⟨T10,k10,m10⟩:=ah.drop (ah.swap k9)
  gi_wp2
  refine ⟨by simp,.inl ⟨_,_,rfl,run_takeDeferred k3.2.2,?_⟩⟩;refine ⟨_,results_none rfl _ _ _,⟨_,rfl⟩,.inr ⟨T10,k10,?_⟩⟩;exact ((((HM.out.trans hm).trans m7).trans m8).trans m9).trans m10
end
section
open Go.RowKit Go.Shelf
attribute [local go_sem] Oper.semAt_some
def Ex (n:Nat) (p:Value) (l:List Value) (k:Nat) (v:Value) (w:World):Prop:=
 if k=12 then n < w.heap.size/\w.cell? n=some p/\∀ o,w.frozen? (zq n o)=false else v=l.getD k undef
theorem Ey {n:Nat} {p:Value} {l:List Value} {m:Nat} (k:Nat) (v:Value) (w w':World) (_:k < m) (h:Ex n p l k v w) (g:af w w'):Ex n p l k v w':=by
 unfold Ex at h ⊢;split at h
 ·next hk=>
  rw [ZM hk];exact ⟨ZK h.1 g.size,(Zg g (p:=n) h.1).trans h.2.1,fun o=>(Below.frozen g (p:=zq n o) h.1).trans (h.2.2 o)⟩
 ·next hk=>rw [ZO hk];exact h
theorem D4 {n:Nat} {p:Value} {l:List Value} {m:Nat} (k:Nat) (v:Value) (w w':World) (_:k < m) (hk:k≠12) (h:Ex n p l k v w) (_:w.grownBy w' (some n)):Ex n p l k v w':=by
 unfold Ex at h ⊢;rw [ZO hk] at h ⊢;exact h
theorem Ak (w:World) (n o:Nat) (v:Value):w.grownBy (w.setCell (zq n o) v) (some n):=
 ⟨rfl,rfl,rfl,by simp [World.setCell],fun k hk hn=>Za _ _ _ _ (fun e=>hn (by rw [e]))⟩
theorem sd (w:World) (s:ByteArray) (bods:List (List UInt8)) (st:Nat->gH) (xi:World->Prop) (hp:xi w) (hpre:∀ w',Below w w w'->xi w') (hst0:st 0=⟨⟨#[]⟩,[],[],[]⟩) (hend:(st bods.length).sh.length=(st bods.length).cs.length) (hend2:(st bods.length).cs.length<=1000)
  (HQ:Hid (∀ b,rs Fence.wide prog 186 #[zp b] w.heap.size (aS w.heap.size b [.string s]) xi 0 (fun _=>True) (zx bods) (fun j=>j=bods.length)))
  (HTk:Hid (∀ j l W S (h:j < bods.length),Below w w W->cv w.heap.size l (st j) W S->CP 143 #[zp l,((j+1:Nat):Int),.string ⟨(bods[j]).toArray⟩] W fun e w'=>e=.returned true/\∃ S',cv w.heap.size l (st (j+1)) w' S'/\Mv S W S' w')):
  CP 96 #[s] w fun e w'=>∃ l,e=.returned (.tuple #[zp l,true])/\∃ S',cv w.heap.size l (st bods.length) w' S'/\Below w w w':=by
 have HO:=ai (vN s);refine (callsIn_wide (n:=0)).1 ?_;refine callsIn_of_wp_marks func96 rfl trivial ?_ rfl;simp only [ntmps96,List.size_toArray,ZX,ZS,Nat.reduceAdd,Nat.reduceSub,Array.replicate_succ,Array.replicate_zero,List.push_toArray,List.append_toArray,Zt,ZG]
 gi_wp2
 refine ⟨trivial,rfl,(callsIn_wide.2 (HO.out _)).mono ?_⟩;rintro e W' ⟨rfl,rfl⟩
 gi_wp2
 clear HO;have st0:∃ S,ah (aS w.heap.size (w.heap.size+1+1+1+1) [.string s]) (ah (aS w.heap.size (w.heap.size+1+1+1) [.pointer (some ⟨w.heap.size+1+1,0,none⟩)]) (ah (cv w.heap.size (w.heap.size+1+1) (st 0)) (Bx w.heap.size w.heap.size [[.pointer none],[.bool false]]))) (((((w.alloc (Obj.cells #[Value.pointer none] 143)).alloc (Obj.cells #[Value.bool false] 4)).alloc (Obj.cells #[Value.string {data:=#[]},Value.slice none 0 0,Value.slice none 0 0,Value.slice none 0 0] 148)).alloc (Obj.cells #[Value.pointer (some {block:=w.heap.size+1+1,off:=0})] 143)).alloc (Obj.cells #[Value.string s] 9)) S/\(∀ k,S k->w.heap.size<=k):=by
  obtain ⟨S1,b1⟩:=(Bx.nil w.heap.size w (by omega)).snoc [.pointer none] 143 (by simp);obtain ⟨S2,b2⟩:=b1.snoc [.bool false] 4 (by simp);obtain ⟨S3,h3,hS3⟩:=cv.new (B:=w.heap.size) (w:=(w.alloc (Obj.cells #[Value.pointer none] 143)).alloc (Obj.cells #[Value.bool false] 4)) (by simp;omega);obtain ⟨a1,_⟩:=ah.new (Bx.thing _ _ _) b2 h3 ((ZQ _ _).alloc (ZV _) _) (fun k e=>Nat.le_of_eq (hS3 k e).symm);have hc3:=aS.alloc (B:=w.heap.size) (vs:=[.pointer (some ⟨w.heap.size+1+1,0,none⟩)]) (w:=((w.alloc (Obj.cells #[Value.pointer none] 143)).alloc (Obj.cells #[Value.bool false] 4)).alloc (Obj.cells #[Value.string {data:=#[]},Value.slice none 0 0,Value.slice none 0 0,Value.slice none 0 0] 148)) (t:=143) (by simp;omega);obtain ⟨a2,_⟩:=ah.new (ah.thing (cv.thing _ _ _) (Bx.thing _ _ _)) a1 hc3 ((ZQ _ _).alloc (ZV _) _) (fun k e=>Nat.le_of_eq (Eq.symm e));have hc4:=aS.alloc (B:=w.heap.size) (vs:=[.string s]) (w:=(((w.alloc (Obj.cells #[Value.pointer none] 143)).alloc (Obj.cells #[Value.bool false] 4)).alloc (Obj.cells #[Value.string {data:=#[]},Value.slice none 0 0,Value.slice none 0 0,Value.slice none 0 0] 148)).alloc (Obj.cells #[Value.pointer (some {block:=w.heap.size+1+1,off:=0})] 143)) (t:=9) (by simp;omega);obtain ⟨a3,_⟩:=ah.new (ah.thing (aS.thing _ _ _) (ah.thing (cv.thing _ _ _) (Bx.thing _ _ _))) a2 hc4 ((ZQ _ _).alloc (ZV _) _) (fun k e=>Nat.le_of_eq (Eq.symm e));simp only [World.size_alloc,Zt,ZG] at a3;have hge:=fun k=>(ah.thing (aS.thing w.heap.size _ _) (ah.thing (aS.thing _ _ _) (ah.thing (cv.thing _ _ _) (Bx.thing _ _ _)))).ge (k:=k) a3
  rw [hst0];exact ⟨_,a3,hge⟩
 have hbel:Below w w (((((w.alloc (Obj.cells #[Value.pointer none] 143)).alloc (Obj.cells #[Value.bool false] 4)).alloc (Obj.cells #[Value.string {data:=#[]},Value.slice none 0 0,Value.slice none 0 0,Value.slice none 0 0] 148)).alloc (Obj.cells #[Value.pointer (some {block:=w.heap.size+1+1,off:=0})] 143)).alloc (Obj.cells #[Value.string s] 9)):=(((((ZQ _ w).alloc (ZV _) _).alloc (by simp) _).alloc (by simp;omega) _).alloc (by simp;omega) _).alloc (by simp;omega) _;obtain ⟨S0,st0,hge⟩:=st0;obtain ⟨W5,hW5⟩:∃ W5,(((((w.alloc (Obj.cells #[Value.pointer none] 143)).alloc (Obj.cells #[Value.bool false] 4)).alloc (Obj.cells #[Value.string {data:=#[]},Value.slice none 0 0,Value.slice none 0 0,Value.slice none 0 0] 148)).alloc (Obj.cells #[Value.pointer (some {block:=w.heap.size+1+1,off:=0})] 143)).alloc (Obj.cells #[Value.string s] 9))=W5:=⟨_,rfl⟩;rw [hW5] at st0 hbel ⊢;clear hW5;generalize hn:w.heap.size=n at*;have HNN:=ai hn;clear hn;have hn5:n<=W5.heap.size:=by
  obtain ⟨S1,S2,k,_⟩:=st0;have:=k.2.2.1;omega
 refine mc (B:=n) rfl (fun _=>trivial) rfl rfl (enters_of func186 (by kernel_rfl) rfl) (HQ.out _) (fun W1 hb=>hpre _ (hbel.trans hb)) (aS.thing _ _ _) ?hps
  (fun j=>ah (aS n (n+1+1+1) [.pointer (some ⟨n+1+1,0,none⟩)]) (ah (cv n (n+1+1) (st j)) (Bx n n [[.pointer none],[.bool false]])))
  (fun _ _ _=>False) ?hI (fun _=>⟨fun h=>h.elim,fun h=>h.elim,fun h=>h.elim⟩) (fun a _ _ _=>trivial) hn5 st0 ?round ?done (fun _ _ _ _ h _=>by obtain ⟨_,_,⟨_,_,_,h,_⟩,_⟩:=h;exact h.elim)
 case hps=>
  rintro a args a' ⟨_,_,rfl⟩;rfl
 case hI=>exact fun a=>ah.thing (aS.thing _ _ _) (ah.thing (cv.thing _ _ _) (Bx.thing _ _ _))
 case round=>
  rintro l' j args j' W0 ⟨hj,rfl,rfl⟩
  gi_wp2
  refine ⟨trivial,?_⟩;rintro W6 S6 h6 hb6;obtain ⟨R1,kc,_,_⟩:=ah.fst (ah.thing (cv.thing _ _ _) (Bx.thing _ _ _)) h6;obtain ⟨R2,kl,_,backL⟩:=ah.mid (aS.thing _ _ _) (Bx.thing _ _ _) h6;have y0:W6.cell? (zp (n+1+1+1))=zp (n+1+1):=kc.at 0 _ rfl;have HC:=ai (HTk.out j (n+1+1) W6 R2 hj (hbel.trans hb6) kl)
  gi_wp2
  refine ⟨trivial,rfl,(CallsIn.inRound l' (callsIn_wide.2 HC.out)).mono ?_⟩;rintro e W7 ⟨rfl,R3,kl7,m7⟩;obtain ⟨S8,h8,m8⟩:=backL _ _ _ kl7 m7;clear HC
  gi_wp2
  exact ⟨S8,h8,m8⟩
 case done=>
  rintro D j W6 S6 rfl hs hm;have hI:=fun a=>ah.thing (aS.thing n (n+1+1+1) [.pointer (some ⟨n+1+1,0,none⟩)]) (ah.thing (cv.thing n (n+1+1) (st a)) (Bx.thing n n [[.pointer none],[.bool false]]))
  obtain ⟨T1,k1,_,back1⟩:=ah.fst (Ob.thing _ _ _) hs;obtain ⟨T2,k2,_,back2⟩:=ah.snd (aS.thing _ _ _) k1;obtain ⟨T3,kc,_,_⟩:=ah.fst (ah.thing (cv.thing _ _ _) (Bx.thing _ _ _)) k2;obtain ⟨T4,kl,_,_⟩:=ah.mid (aS.thing _ _ _) (Bx.thing _ _ _) k2;obtain ⟨T5,kb,_,back5⟩:=ah.third (aS.thing _ _ _) (cv.thing _ _ _) k2;obtain ⟨aa,ks,ac,kc2,am,km,kl2⟩:=cv.open kl;obtain ⟨T6,hl6,_,_⟩:=ah.fst (gG.thing _ _ _ _ _) kl2;have y0:W6.cell? (zp (n+1+1+1))=zp (n+1+1):=kc.at 0 _ rfl;have y1:W6.cell? (zq (n+1+1) 1)=some (.slice aa (st bods.length).cs.length ks):=by rw [<-hend];exact hl6.at 1 _ rfl
  have y2:W6.cell? (zq (n+1+1) 2)=some (.slice ac (st bods.length).cs.length kc2):=hl6.at 2 _ rfl;have b0:W6.cell? n=some (.pointer none):=kb.at 0 0 _ _ rfl rfl;have b1:W6.cell? (zp (n+1))=false:=kb.at 1 0 _ _ rfl rfl;have HF0:Hid (∀ o,W6.frozen? (zq n o)=false):=fun o=>kb.fz 0 o (by simp)
  have f1:W6.frozen? (zp (n+1))=false:=kb.fz 1 0 (by simp);obtain ⟨N,hN⟩:∃ N,(st bods.length).cs.length=N:=⟨_,rfl⟩;rw [hN] at y1 y2 hend2;clear hend hN
  gi_wp2
  refine wpIn_wide.2 ?_;refine cW 13 _ 12 (fun w w'=>w.grownBy w' (some n)) (Ex n (zp (n+1+1)) [.pointer (some ⟨n+1+1,0,none⟩),.pointer (some ⟨n+1+1,0,none⟩),.pointer (some ⟨n+1+1,0,none⟩),.pointer (some ⟨n+1+1,1,none⟩),.slice aa N ks,.int .i64 (N:Int),.pointer (some ⟨n+1+1,0,none⟩),.pointer (some ⟨n+1+1,0,none⟩),.pointer (some ⟨n+1+1,2,none⟩),.slice ac N kc2,.int .i64 (N:Int),.bool true,undef]) (by kernel_rfl) rfl (by kernel_rfl) (lT _) (fun _ _ _=>lV) (fun _ _ _=>fE) Ey D4 ?_;simp only [TD];refine ⟨aB (by decide) fun w1 hG hd=>?_,fun v0=>?_⟩
  ·clear hd;have cc:=(ZR (a:=zp (n+1+1+1)) (hG.block (n+1+1+1) (ZD W6 _ y0) (by simp;try omega))).trans y0;go_wp2;exact RG
  simp only [TN];refine ⟨aB (by decide) fun w1 hG hd=>?_,fun v1=>?_⟩
  ·clear hd;have cc:=(ZR (a:=zp (n+1+1+1)) (hG.block (n+1+1+1) (ZD W6 _ y0) (by simp;try omega))).trans y0;go_wp2;exact RG
  simp only [TN];refine ⟨aB (by decide) fun w1 hG hd=>?_,fun v2=>?_⟩
  ·have d1:v1=.pointer (some ⟨n+1+1,0,none⟩):=hd ⟨1,.data⟩ (by simp) rfl;clear hd;subst d1;go_wp2;exact RG
  simp only [TN];refine ⟨aB (by decide) fun w1 hG hd=>?_,fun v3=>?_⟩
  ·have d2:v2=.pointer (some ⟨n+1+1,0,none⟩):=hd ⟨2,.data⟩ (by simp) rfl;clear hd;subst d2;go_wp2;exact RG
  simp only [TN];refine ⟨aB (by decide) fun w1 hG hd=>?_,fun v4=>?_⟩
  ·have d3:v3=.pointer (some ⟨n+1+1,1,none⟩):=hd ⟨3,.data⟩ (by simp) rfl;clear hd;subst d3;have cc:=(ZR (a:=zq (n+1+1) 1) (hG.block (n+1+1) (ZD W6 _ y1) (by simp;try omega))).trans y1;go_wp2;exact RG
  simp only [TN];refine ⟨aB (by decide) fun w1 hG hd=>?_,fun v5=>?_⟩
  ·have d4:v4=.slice aa N ks:=hd ⟨4,.data⟩ (by simp) rfl;clear hd;subst d4;go_wp2;exact RG
  simp only [TN];refine ⟨aB (by decide) fun w1 hG hd=>?_,fun v6=>?_⟩
  ·clear hd;have cc:=(ZR (a:=zp (n+1+1+1)) (hG.block (n+1+1+1) (ZD W6 _ y0) (by simp;try omega))).trans y0;go_wp2;exact RG
  simp only [TN];refine ⟨aB (by decide) fun w1 hG hd=>?_,fun v7=>?_⟩
  ·have d6:v6=.pointer (some ⟨n+1+1,0,none⟩):=hd ⟨6,.data⟩ (by simp) rfl;clear hd;subst d6;go_wp2;exact RG
  simp only [TN];refine ⟨aB (by decide) fun w1 hG hd=>?_,fun v8=>?_⟩
  ·have d7:v7=.pointer (some ⟨n+1+1,0,none⟩):=hd ⟨7,.data⟩ (by simp) rfl;clear hd;subst d7;go_wp2;exact RG
  simp only [TN];refine ⟨aB (by decide) fun w1 hG hd=>?_,fun v9=>?_⟩
  ·have d8:v8=.pointer (some ⟨n+1+1,2,none⟩):=hd ⟨8,.data⟩ (by simp) rfl;clear hd;subst d8;have cc:=(ZR (a:=zq (n+1+1) 2) (hG.block (n+1+1) (ZD W6 _ y2) (by simp;try omega))).trans y2;go_wp2;exact RG
  simp only [TN];refine ⟨aB (by decide) fun w1 hG hd=>?_,fun v10=>?_⟩
  ·have d9:v9=.slice ac N kc2:=hd ⟨9,.data⟩ (by simp) rfl;clear hd;subst d9;go_wp2;exact RG
  simp only [TN];refine ⟨aB (by decide) fun w1 hG hd=>?_,fun v11=>?_⟩
  ·have d5:v5=.int .i64 (N:Int):=hd ⟨5,.data⟩ (by simp) rfl;have d10:v10=.int .i64 (N:Int):=hd ⟨10,.data⟩ (by simp) rfl;clear hd;subst d5 d10;go_wp2;exact RG
  simp only [TN];refine ⟨dO rfl fun w1 hG hd=>?_,fun v12=>?_⟩
  ·have d0:v0=.pointer (some ⟨n+1+1,0,none⟩):=hd ⟨0,.data⟩ (by simp) rfl;clear hd;subst d0;have cc:=(Zg hG (p:=n) (ZD W6 _ b0)).trans b0;have ff:∀ o,w1.frozen? (zq n o)=false:=fun o=>(Below.frozen hG (p:=zq n o) (ZD W6 ⟨n,0,none⟩ b0)).trans (HF0.out o)
   have f0:=ff 0;have ln:=ZD w1 _ cc;go_wp2;exact ⟨⟨by simp [World.setCell];omega,World.cell?_setCell_same' _ _ _ (by rw [cc];rfl),fun o=>by rw [ZL];exact ff o⟩,Ak _ _ _ _⟩
  simp only [TN];intro w7 hG hd;obtain ⟨q1,q2,q3⟩:n < w7.heap.size/\w7.cell? n=zp (n+1+1)/\∀ o,w7.frozen? (zq n o)=false:=hd 12 (by omega);have d11:v11=.bool true:=hd 11 (by omega);subst d11;have hS5:T5=fun k=>n<=k/\k < n+[[Value.pointer none],[Value.bool false]].length:=kb.1
  have kb7:Bx n n [[.pointer (some ⟨n+1+1,0,none⟩)],[.bool false]] w7 T5:=by
   refine ⟨hS5,ZV _,ZU kb.2.2.1 hG.size,fun i us hi=>?_⟩
   match i,hi with
   | 0,hi=>
    simp at hi;subst hi;refine ⟨fun j v hv=>?_,fun o=>q3 o⟩
    match j,hv with
    | 0,hv=>simp at hv;subst hv;exact q2
    | (j+1),hv=>simp at hv
   | 1,hi=>
    have e:=hG.block (n+1) (ZD W6 _ b1) (by simp);obtain ⟨r1,r2⟩:=kb.2.2.2 1 us (by simpa using hi);exact ⟨fun j v hv=>(ZR (a:=zq (n+1) j) e).trans (r1 j v hv),fun o=>(ZH (a:=zq (n+1) o) e).trans (r2 o)⟩
   | (i+2),hi=>simp at hi
  have m7:Mv T5 W6 T5 w7:=⟨⟨hG.os,hG.tape,hG.output,hG.size,fun k hk hs=>hG.block k hk (fun e=>hs (by rw [hS5];cases e;exact ⟨ZV _,by simp⟩))⟩,fun _ h=>.inl h⟩;have z1:w7.cell? (zp (n+1))=false:=kb7.at 1 0 _ _ rfl rfl;have g1:w7.frozen? (zp (n+1))=false:=kb7.fz 1 0 (by simp);clear hd y0 y1 y2 b0 b1 f1 HF0;go_wp2
  gi_wp2
  obtain ⟨b',m'⟩:=kb7.set 1 0 _ (.bool true) rfl (by simp);obtain ⟨U1,u1,n1⟩:=back5 _ _ _ b' (m7.trans m');obtain ⟨U2,u2,n2⟩:=back2 _ _ _ u1 n1;obtain ⟨U3,u3,n3⟩:=back1 _ _ _ u2 n2;obtain ⟨T7,k7,_,back7⟩:=ah.snd (ah.thing (aS.thing _ _ _) (ah.thing (aS.thing _ _ _) (ah.thing (cv.thing _ _ _) (Bx.thing _ _ _)))) u3;obtain ⟨p8,m8⟩:=k7.put (.deferred none);obtain ⟨T8,k8,m9⟩:=back7 _ _ _ p8 m8;obtain ⟨T9,k9,_⟩:=ah.drop k8;obtain ⟨T10,k10,_⟩:=ah.drop (ah.swap k9);obtain ⟨T11,k11,_⟩:=ah.drop (ah.swap k10);obtain ⟨T12,k12,_⟩:=ah.drop k11;obtain ⟨T13,k13,_⟩:=ah.drop (ah.swap k11);have e1:((w7.setCell (zp (n+1)) true).putObj D (.deferred none)).cell? n=zp (n+1+1):=k13.at 0 0 _ _ rfl rfl;have e2:((w7.setCell (zp (n+1)) true).putObj D (.deferred none)).cell? (zp (n+1))=true:=k13.at 1 0 _ _ rfl rfl;refine ⟨by simp,.inl ⟨_,_,rfl,run_takeDeferred k7.2.2,?_⟩⟩;refine ⟨.tuple #[zp (n+1+1),true],?_,n+1+1,rfl,T12,?_,?_⟩
  ·simp [results,f96,go_sem,e1,e2]
  ·rw [HNN.out];exact k12
  ·rw [HNN.out];exact hbel.trans (((hm.trans n3).trans m9).below hge hn5)
end
theorem qB (x y z u:Int):aG [x,y,z,u]=bJ x++([32]++(bJ y++([32]++(bJ z++([32]++(bJ u++[32])))))):=by simp [aG]
theorem vy (x y z:Int):aG [x,y,z]=bJ x++([32]++(bJ y++([32]++(bJ z++[32])))):=by simp [aG]
theorem Ee (s:ByteArray) (o:bj) (r':List UInt8) (ho:o.near) (hk:o.k=3) (hs:s.data.toList=o.text++r') (hr:r'=[]\/8<=r'.length):
  B_ s 0 ([0,0,0,0,0,0,0,0,0],0,[]) 219 (.agg #[o.a,o.b,o.c,o.d,o.e]):=by
 obtain ⟨⟨a1,a2⟩,⟨b1,b2⟩,⟨c1,c2⟩,⟨d1,d2⟩,⟨e1,e2⟩,_⟩:=ho;have ht:o.text=[]++(bJ o.e++([32]++([103]++([32]++(bJ o.a++([32]++(bJ o.b++([32]++(bJ o.c++([32]++(bJ o.d++([32]++([114,101]++([32]++([102]++([10])))))))))))))))):=by
  unfold bj.text;rw [ZO (by omega),ZO (by omega),ZM hk,gW,qB];simp only [ZT,Zt];rfl
 have hA:gI o.text:=by
  rw [ht];exact (.mk (by decide) (.mk (aZ _) (.mk (by decide) (.mk (by decide) (.mk (by decide) (.mk (aZ _) (.mk (by decide) (.mk (aZ _) (.mk (by decide) (.mk (aZ _) (.mk (by decide) (.mk (aZ _) (.mk (by decide) (.mk (by decide) (.mk (by decide) (.mk (by decide) (by decide)))))))))))))))))
 rw [ht] at hs hA;have hd:s.data.toList.drop 0=_:=hs;refine c' o.e hr hd hA DU ⟨32,_,rfl,by decide⟩ e1 e2 (by omega) rfl fun p1 h1 y1=>?_
 refine cV 103 [] hr h1 y1 dA (by decide) ⟨32,_,rfl,by decide⟩ (by decide) (by decide) (by decide) (by decide) (by decide) (by decide) rfl fun p2 h2 y2=>?_
 refine c' o.a hr h2 y2 dA ⟨32,_,rfl,by decide⟩ a1 a2 (by omega) rfl fun p3 h3 y3=>?_
 refine c' o.b hr h3 y3 dA ⟨32,_,rfl,by decide⟩ b1 b2 (by omega) rfl fun p4 h4 y4=>?_
 refine c' o.c hr h4 y4 dA ⟨32,_,rfl,by decide⟩ c1 c2 (by omega) rfl fun p5 h5 y5=>?_
 refine c' o.d hr h5 y5 dA ⟨32,_,rfl,by decide⟩ d1 d2 (by omega) rfl fun p6 h6 y6=>?_
 refine cV 114 [101] hr h6 y6 dA (by decide) ⟨32,_,rfl,by decide⟩ (by decide) (by decide) (by decide) (by decide) (by decide) (by decide) rfl fun p7 h7 y7=>?_
 exact t6 hr h7 y7 dA (by simp) (by decide) (fun d p e=>by cases e;decide) fun hF=>.rect hF.tok
theorem Ef (s:ByteArray) (o:bj) (r':List UInt8) (ho:o.near) (hk:o.k=1) (hs:s.data.toList=o.text++r') (hr:r'=[]\/8<=r'.length):
  B_ s 0 ([0,0,0,0,0,0,0,0,0],0,[]) 215 (.agg #[o.a,o.b,o.c,.string ⟨o.s.data.toList.toArray⟩]):=by
 obtain ⟨⟨a1,a2⟩,⟨b1,b2⟩,⟨c1,c2⟩,⟨d1,d2⟩,⟨e1,e2⟩,_,_,_,hsz⟩:=ho;have hl:o.s.data.toList.length<=100:=by rw [aP];exact hsz hk
 have ht:o.text=[]++([66,84]++([32]++([47,70,49]++([32]++(bJ o.c++([32]++([84,102]++([32]++(bJ o.a++([32]++(bJ o.b++([32]++([84,100]++([32]++(bc o.s.data.toList++([32]++([84,106]++([32]++([69,84]++([10])))))))))))))))))))):=by
  unfold bj.text;rw [ZM hk,gW,jP];simp only [ZT,Zt];rfl
 have hA:gI o.text:=by
  rw [ht];exact (.mk (by decide) (.mk (by decide) (.mk (by decide) (.mk (by decide) (.mk (by decide) (.mk (aZ _) (.mk (by decide) (.mk (by decide) (.mk (by decide) (.mk (aZ _) (.mk (by decide) (.mk (aZ _) (.mk (by decide) (.mk (by decide) (.mk (by decide) (.mk (np _) (.mk (by decide) (.mk (by decide) (.mk (by decide) (.mk (by decide) (by decide)))))))))))))))))))))
 rw [ht] at hs hA;have hd:s.data.toList.drop 0=_:=hs;refine cV 66 [84] hr hd hA DU (by decide) ⟨32,_,rfl,by decide⟩ (by decide) (by decide) (by decide) (by decide) (by decide) (by decide) rfl fun p1 h1 y1=>?_
 refine cV 47 [70,49] hr h1 y1 dA (by decide) ⟨32,_,rfl,by decide⟩ (by decide) (by decide) (by decide) (by decide) (by decide) (by decide) rfl fun p2 h2 y2=>?_
 refine c' o.c hr h2 y2 dA ⟨32,_,rfl,by decide⟩ c1 c2 (by omega) rfl fun p3 h3 y3=>?_
 refine cV 84 [102] hr h3 y3 dA (by decide) ⟨32,_,rfl,by decide⟩ (by decide) (by decide) (by decide) (by decide) (by decide) (by decide) rfl fun p4 h4 y4=>?_
 refine c' o.a hr h4 y4 dA ⟨32,_,rfl,by decide⟩ a1 a2 (by omega) rfl fun p5 h5 y5=>?_
 refine c' o.b hr h5 y5 dA ⟨32,_,rfl,by decide⟩ b1 b2 (by omega) rfl fun p6 h6 y6=>?_
 refine cV 84 [100] hr h6 y6 dA (by decide) ⟨32,_,rfl,by decide⟩ (by decide) (by decide) (by decide) (by decide) (by decide) (by decide) rfl fun p7 h7 y7=>?_
 refine EH o.s.data.toList hr h7 y7 dA hl rfl fun p8 h8 y8=>?_
 refine cV 84 [106] hr h8 y8 dA (by decide) ⟨32,_,rfl,by decide⟩ (by decide) (by decide) (by decide) (by decide) (by decide) (by decide) rfl fun p9 h9 y9=>?_
 exact t6 hr h9 y9 dA (by simp) (by decide) (fun d p e=>by cases e;decide) fun hF=>.text hF.tok
theorem qA (c:Int) (h:0<=c):bJ (1000*c)=Lib.itoa c:=by
 unfold bJ;have e1:(1000*c).natAbs / 1000=c.natAbs:=by omega
 have e2:(1000*c).natAbs % 1000=0:=by omega
 rw [ZO (by omega),e1,e2];have e3:((c.natAbs:Nat):Int)=c:=by omega
 rw [e3];show []++Lib.itoa c++[]=_
 simp
theorem Dj (s:ByteArray) (o:bj) (r':List UInt8) (ho:o.is) (hk:o.k=4) (hs:s.data.toList=o.text++r'):
  B_ s 0 ([0,0,0,0,0,0,0,0,0],0,[]) 135 (.agg #[o.a,o.b,o.c,o.d,o.co,o.ro,o.s]):=by
 obtain ⟨⟨a1',a2'⟩,⟨b1',b2'⟩,hh⟩:=ho;obtain ⟨_,⟨c1',c2'⟩,⟨d1',d2'⟩,⟨co1,co2⟩,⟨ro1,ro2⟩,_,hsz⟩:o.k=4/\bG o.c 1 14400000/\bG o.d 1 14400000/\bG o.co 1 64/\bG o.ro 1 64/\o.e=0/\(o.s.size:Int)=o.co*o.ro:=by
  rcases hh with h | h | h | h
  ·exact absurd h.1 (by omega)
  ·exact absurd h.1 (by omega)
  ·exact absurd h.1 (by omega)
  ·exact h
 have a1:-100000000<=o.a:=by omega
 have a2:o.a<=100000000:=by omega
 have b1:-100000000<=o.b:=by omega
 have b2:o.b<=100000000:=by omega
 have c1:-100000000<=o.c:=by omega
 have c2:o.c<=100000000:=by omega
 have d1:-100000000<=o.d:=by omega
 have d2:o.d<=100000000:=by omega
 have hpos:1<=o.s.size:=by
  have:0 < o.co*o.ro:=Int.mul_pos (by omega) (by omega);omega
 obtain ⟨R,hR⟩:∃ R,[32]++(o.s.data.toList++([10,69,73,32,81,10]++r'))=R:=⟨_,rfl⟩;have hRl:8<=R.length:=by rw [<-hR];simp only [ZY,aP,ZX,ZS];omega
 have hr:R=[]\/8<=R.length:=.inr hRl;obtain ⟨Y,hY⟩:∃ Y,[]++([113]++([32]++(bJ o.c++([32]++(bJ 0++([32]++(bJ 0++([32]++(bJ o.d++([32]++(bJ o.a++([32]++(bJ o.b++([32]++([99,109]++([32]++([66,73]++([32]++([47,87]++([32]++(bJ (1000*o.co)++([32]++([47,72]++([32]++(bJ (1000*o.ro)++([32]++([47,67,83]++([32]++([47,71]++([32]++([47,66,80,67]++([32]++(bJ 8000++([32]++([73,68]++([]))))))))))))))))))))))))))))))))))))=Y:=⟨_,rfl⟩;have hs2:s.data.toList=Y++R:=by
  rw [hs, <-hY, <-hR,qA o.co (by omega),qA o.ro (by omega)];unfold bj.text;rw [ZO (by omega),ZO (by omega),ZO (by omega),gW,vy];have e0:bJ 0=[48]:=by decide+kernel
  have e8:bJ 8000=[56]:=by decide+kernel
  rw [e0,e8];simp only [ZT,Zt,ZG]
 have hA:gI Y:=by
  rw [<-hY];exact (.mk (by decide) (.mk (by decide) (.mk (by decide) (.mk (aZ _) (.mk (by decide) (.mk (aZ _) (.mk (by decide) (.mk (aZ _) (.mk (by decide) (.mk (aZ _) (.mk (by decide) (.mk (aZ _) (.mk (by decide) (.mk (aZ _) (.mk (by decide) (.mk (by decide) (.mk (by decide) (.mk (by decide) (.mk (by decide) (.mk (by decide) (.mk (by decide) (.mk (aZ _) (.mk (by decide) (.mk (by decide) (.mk (by decide) (.mk (aZ _) (.mk (by decide) (.mk (by decide) (.mk (by decide) (.mk (by decide) (.mk (by decide) (.mk (by decide) (.mk (by decide) (.mk (aZ _) (.mk (by decide) (.mk (by decide) (by decide)))))))))))))))))))))))))))))))))))))
 rw [<-hY] at hs2 hA;have hd:s.data.toList.drop 0=_:=hs2;refine cV 113 [] hr hd hA DU (by decide) ⟨32,_,rfl,by decide⟩ (by decide) (by decide) (by decide) (by decide) (by decide) (by decide) rfl fun p1 h1 y1=>?_
 refine c' o.c hr h1 y1 dA ⟨32,_,rfl,by decide⟩ c1 c2 (by omega) rfl fun p2 h2 y2=>?_
 refine c' 0 hr h2 y2 dA ⟨32,_,rfl,by decide⟩ (by decide) (by decide) (by omega) rfl fun p3 h3 y3=>?_
 refine c' 0 hr h3 y3 dA ⟨32,_,rfl,by decide⟩ (by decide) (by decide) (by omega) rfl fun p4 h4 y4=>?_
 refine c' o.d hr h4 y4 dA ⟨32,_,rfl,by decide⟩ d1 d2 (by omega) rfl fun p5 h5 y5=>?_
 refine c' o.a hr h5 y5 dA ⟨32,_,rfl,by decide⟩ a1 a2 (by omega) rfl fun p6 h6 y6=>?_
 refine c' o.b hr h6 y6 dA ⟨32,_,rfl,by decide⟩ b1 b2 (by omega) rfl fun p7 h7 y7=>?_
 refine cV 99 [109] hr h7 y7 dA (by decide) ⟨32,_,rfl,by decide⟩ (by decide) (by decide) (by decide) (by decide) (by decide) (by decide) rfl fun p8 h8 y8=>?_
 refine cV 66 [73] hr h8 y8 dA (by decide) ⟨32,_,rfl,by decide⟩ (by decide) (by decide) (by decide) (by decide) (by decide) (by decide) rfl fun p9 h9 y9=>?_
 refine cV 47 [87] hr h9 y9 dA (by decide) ⟨32,_,rfl,by decide⟩ (by decide) (by decide) (by decide) (by decide) (by decide) (by decide) rfl fun p10 h10 y10=>?_
 refine c' (1000*o.co) hr h10 y10 dA ⟨32,_,rfl,by decide⟩ (by omega) (by omega) (by omega) rfl fun p11 h11 y11=>?_
 refine cV 47 [72] hr h11 y11 dA (by decide) ⟨32,_,rfl,by decide⟩ (by decide) (by decide) (by decide) (by decide) (by decide) (by decide) rfl fun p12 h12 y12=>?_
 refine c' (1000*o.ro) hr h12 y12 dA ⟨32,_,rfl,by decide⟩ (by omega) (by omega) (by omega) rfl fun p13 h13 y13=>?_
 refine cV 47 [67,83] hr h13 y13 dA (by decide) ⟨32,_,rfl,by decide⟩ (by decide) (by decide) (by decide) (by decide) (by decide) (by decide) rfl fun p14 h14 y14=>?_
 refine cV 47 [71] hr h14 y14 dA (by decide) ⟨32,_,rfl,by decide⟩ (by decide) (by decide) (by decide) (by decide) (by decide) (by decide) rfl fun p15 h15 y15=>?_
 refine cV 47 [66,80,67] hr h15 y15 dA (by decide) ⟨32,_,rfl,by decide⟩ (by decide) (by decide) (by decide) (by decide) (by decide) (by decide) rfl fun p16 h16 y16=>?_
 refine c' 8000 hr h16 y16 dA ⟨32,_,rfl,by decide⟩ (by decide) (by decide) (by omega) rfl fun p17 h17 y17=>?_
 refine t6 hr h17 y17 dA (by simp) (by decide) (fun d p e=>by rw [<-hR] at e;cases e;decide) fun hF=>?_
 have hbh:=hF.behind;have hnx:=hF.nxt;have hle:(s.data.toList.drop (gm s p17)).length=s.size - gm s p17:=by rw [Zc,aP]
 rw [hnx] at hle;have hb:(s.extract (gm s p17) s.size).extract 1 (1+o.s.size)=o.s:=by
  refine Zh (Array.toList_inj.1 ?_);rw [Zd,YR];simp only [List.extract,Xx];rw [hbh, <-hR];simp only [Zt,ZG,List.drop_succ_cons,List.drop_zero];rw [<-aP o.s,List.take_left]
 have q1:1000*o.co / 1000=o.co:=by omega
 have q2:1000*o.ro / 1000=o.ro:=by omega
 have hI:=DB.image (s:=s) (a:=p17) (n0:=o.c) (n1:=0) (n2:=0) (n3:=o.d) (n4:=o.a) (n5:=o.b) (n6:=1000*o.co) (n7:=1000*o.ro) (n8:=8000) (k:=9) (z:=o.s.size) (tx:=[]) hF.tok (by omega) (by omega) (by omega) (by omega) (by rw [q1,q2];exact hsz.symm) (by rw [<-hR] at hle;simp only [ZY,aP,ZX,ZS] at hle;omega) (by omega) (by omega) (by omega) (by omega) (by simp [br];omega) (by simp [br];omega);rw [hb,q1,q2] at hI;exact hI
theorem EE (x:Array Value) (w:World):(nilAhead 465 215 (.agg x) "press/drawing.fits").run prog w=.ok (some false) w:=by kernel_rfl
theorem DN (args:Array Value) (w:World):(callFunc 357 args).run prog w=.ok (.enter 357 args) w:=by kernel_rfl
theorem DR (args:Array Value) (w:World):(callFunc 356 args).run prog w=.ok (.enter 356 args) w:=by kernel_rfl
theorem EB (x:Array Value) (w:World):(nilAhead 465 217 (.agg x) "press/drawing.fits").run prog w=.ok (some false) w:=by kernel_rfl
theorem DL (args:Array Value) (w:World):(callFunc 359 args).run prog w=.ok (.enter 359 args) w:=by kernel_rfl
theorem DP (args:Array Value) (w:World):(callFunc 358 args).run prog w=.ok (.enter 358 args) w:=by kernel_rfl
theorem EC (x:Array Value) (w:World):(nilAhead 465 219 (.agg x) "press/drawing.fits").run prog w=.ok (some false) w:=by kernel_rfl
theorem DM (args:Array Value) (w:World):(callFunc 361 args).run prog w=.ok (.enter 361 args) w:=by kernel_rfl
theorem DQ (args:Array Value) (w:World):(callFunc 360 args).run prog w=.ok (.enter 360 args) w:=by kernel_rfl
theorem D7 (x:Array Value) (w:World):(nilAhead 465 135 (.agg x) "press/drawing.fits").run prog w=.ok (some false) w:=by kernel_rfl
theorem Cx (args:Array Value) (w:World):(callFunc 354 args).run prog w=.ok (.enter 354 args) w:=by kernel_rfl
theorem CD (args:Array Value) (w:World):(callFunc 353 args).run prog w=.ok (.enter 353 args) w:=by kernel_rfl
def zM (B m:Nat) (o:bj) (r':List UInt8) (S:Bl) (w:World) (e:Ending) (w':World):Prop:=e=.returned (.tuple #[lm o,true])/\∃ S',nh B m r' w' S'/\Mv S w S' w'
theorem pI {B m:Nat} {o:bj} {r':List UInt8} {S:Bl} {w wx:World} (hb:Below w w wx) {e:Ending} {w':World} (h:nt (wL B m (o.text++r')) S wx ([]++o.text) e w'):e=.returned .nilIface/\zM B m o r' S w (.returned (.tuple #[lm o,true])) w':=by
 obtain ⟨rfl,S',⟨r,e,hM⟩,mv⟩:=h;have er:r=r':=by
  rw [Zt] at e;exact (List.append_cancel_left e).symm
 rw [er] at hM;exact ⟨rfl,rfl,S',hM,(Mv.grow hb S).trans mv⟩
theorem A6 (w:World) (B m:Nat) (o:bj) (r':List UInt8) (S:Bl) (ho:o.is) (hk:o.k=2) (hr:r'=[]\/8<=r'.length) (hl:(o.text++r').length<=2000000000) (hB:B<=w.heap.size) (ht:bU B w) (hm:ft B w) (h:nh B m (o.text++r') w S)
  (HI:Hid (∀ wx,QB 359 #[.agg #[o.a,o.b,o.c,o.d,o.e]] wx true)):
  CP 229 #[zp m] w (zM B m o r' S w):=by
 have hv:lm o=.iface 217 (.agg #[o.a,o.b,o.c,o.d,o.e]):=by unfold lm;simp [hk]
 have hR:=Ed ⟨(o.text++r').toArray⟩ o r' ho.near hk (by simp) hr;have hF:=mO B ⟨(o.text++r').toArray⟩ w (by rw [ae];exact hl) hB ht hm _ _ hR;refine mT w B m (o.text++r') S 217 (.agg #[o.a,o.b,o.c,o.d,o.e]) (.agg #[o.a,o.b,o.c,o.d,o.e]) (.agg #[o.a,o.b,o.c,o.d,o.e]) 359 358 _ h (EB _) (xW _) DL (Bc _) (AG _) DP hF (fun wx _=>HI.out wx) ?_;intro wx hb;refine (EQ (g6 B m (o.text++r')) wx S [] o ho.near hk (ZU hB hb.size) (ht.on (hb.mono hB)) ⟨_,rfl,(nh.thing _ _ _).grow h hb⟩ (by rw [Zt];exact YT _ _)).mono ?_;intro e w' hh;have:=pI hb hh;rw [hv] at this;exact this
theorem A7 (w:World) (B m:Nat) (o:bj) (r':List UInt8) (S:Bl) (ho:o.is) (hk:o.k=3) (hr:r'=[]\/8<=r'.length) (hl:(o.text++r').length<=2000000000) (hB:B<=w.heap.size) (ht:bU B w) (hm:ft B w) (h:nh B m (o.text++r') w S)
  (HI:Hid (∀ wx,QB 361 #[.agg #[o.a,o.b,o.c,o.d,o.e]] wx true)):
  CP 229 #[zp m] w (zM B m o r' S w):=by
 have hv:lm o=.iface 219 (.agg #[o.a,o.b,o.c,o.d,o.e]):=by unfold lm;simp [hk]
 have hR:=Ee ⟨(o.text++r').toArray⟩ o r' ho.near hk (by simp) hr;have hF:=mO B ⟨(o.text++r').toArray⟩ w (by rw [ae];exact hl) hB ht hm _ _ hR;refine mT w B m (o.text++r') S 219 (.agg #[o.a,o.b,o.c,o.d,o.e]) (.agg #[o.a,o.b,o.c,o.d,o.e]) (.agg #[o.a,o.b,o.c,o.d,o.e]) 361 360 _ h (EC _) (xP _) DM (AP _) (AJ _) DQ hF (fun wx _=>HI.out wx) ?_;intro wx hb;refine (EU (g6 B m (o.text++r')) wx S [] o ho.near hk (ZU hB hb.size) (ht.on (hb.mono hB)) ⟨_,rfl,(nh.thing _ _ _).grow h hb⟩ (by rw [Zt];exact YT _ _)).mono ?_;intro e w' hh;have:=pI hb hh;rw [hv] at this;exact this
theorem Bg (w:World) (B m:Nat) (o:bj) (r':List UInt8) (S:Bl) (ho:o.is) (hk:o.k=1) (hr:r'=[]\/8<=r'.length) (hl:(o.text++r').length<=2000000000) (hB:B<=w.heap.size) (ht:bU B w) (hm:ft B w) (h:nh B m (o.text++r') w S)
  (HI:Hid (∀ wx,QB 357 #[.agg #[o.a,o.b,o.c,o.s]] wx true)):
  CP 229 #[zp m] w (zM B m o r' S w):=by
 have hv:lm o=.iface 215 (.agg #[o.a,o.b,o.c,o.s]):=by unfold lm;simp [hk]
 have hR:=Ef ⟨(o.text++r').toArray⟩ o r' ho.near hk (by simp) hr;have hF:=mO B ⟨(o.text++r').toArray⟩ w (by rw [ae];exact hl) hB ht hm _ _ hR;refine mT w B m (o.text++r') S 215 (.agg #[o.a,o.b,o.c,o.s]) (.agg #[o.a,o.b,o.c,o.s]) (.agg #[o.a,o.b,o.c,o.s]) 357 356 _ h (EE _) (zg _) DN (AK _) (Bf _) DR hF (fun wx _=>HI.out wx) ?_;intro wx hb;refine (EV (g6 B m (o.text++r')) wx S [] o ho.near hk (ZU hB hb.size) (ht.on (hb.mono hB)) ⟨_,rfl,(nh.thing _ _ _).grow h hb⟩ (by rw [Zt];exact YT _ _)).mono ?_;intro e w' hh;have:=pI hb hh;rw [hv] at this;exact this
theorem ys (w:World) (B m:Nat) (o:bj) (r':List UInt8) (S:Bl) (ho:o.is) (hk:o.k=4) (hr:r'=[]\/8<=r'.length) (hl:(o.text++r').length<=2000000000) (hB:B<=w.heap.size) (ht:bU B w) (hm:ft B w) (h:nh B m (o.text++r') w S)
  (HI:Hid (∀ wx,QB 354 #[.agg #[o.a,o.b,o.c,o.d,o.co,o.ro,o.s]] wx true)):
  CP 229 #[zp m] w (zM B m o r' S w):=by
 have hv:lm o=.iface 135 (.agg #[o.a,o.b,o.c,o.d,o.co,o.ro,o.s]):=by unfold lm;simp [hk]
 have hR:=Dj ⟨(o.text++r').toArray⟩ o r' ho hk (by simp);have hF:=mO B ⟨(o.text++r').toArray⟩ w (by rw [ae];exact hl) hB ht hm _ _ hR;refine mT w B m (o.text++r') S 135 (.agg #[o.a,o.b,o.c,o.d,o.co,o.ro,o.s]) (.agg #[o.a,o.b,o.c,o.d,o.co,o.ro,o.s]) (.agg #[o.a,o.b,o.c,o.d,o.co,o.ro,o.s]) 354 353 _ h (D7 _) (uN _) Cx (uE _) (zu _) CD hF (fun wx _=>HI.out wx) ?_;intro wx hb;refine (Ev (g6 B m (o.text++r')) wx S [] o ho.near hk (ZU hB hb.size) (ht.on (hb.mono hB)) ⟨_,rfl,(nh.thing _ _ _).grow h hb⟩ (by rw [Zt];exact YT _ _)).mono ?_;intro e w' hh;have:=pI hb hh;rw [hv] at this;exact this
theorem yp (w:World) (B m:Nat) (o:bj) (r':List UInt8) (S:Bl) (ho:o.is) (hr:r'=[]\/8<=r'.length) (hl:(o.text++r').length<=2000000000) (hB:B<=w.heap.size) (ht:bU B w) (hm:ft B w) (h:nh B m (o.text++r') w S):
  CP 229 #[zp m] w (zM B m o r' S w):=by
 have ho':=ho;obtain ⟨⟨a1,a2⟩,⟨b1,b2⟩,⟨hk,⟨c1,c2⟩,_,_,_,_,hs⟩ | ⟨hk,⟨c1,c2⟩,⟨d1,d2⟩,⟨e1,e2⟩,_⟩ | ⟨hk,⟨c1,c2⟩,⟨d1,d2⟩,⟨e1,e2⟩,_⟩ | ⟨hk,⟨c1,c2⟩,⟨d1,d2⟩,⟨co1,co2⟩,⟨ro1,ro2⟩,_,hsz⟩⟩:=ho'
 ·refine Bg w B m o r' S ho hk hr hl hB ht hm h fun wx=>?_
  have:=kV wx o.a o.b o.c o.s (by omega);rw [show (br (-14400000) [o.a,o.b]&&br 1 [o.c]&&decide (o.s.size<=100))=true by simp [br];omega] at this;exact this
 ·refine A6 w B m o r' S ho hk hr hl hB ht hm h fun wx=>?_
  have:=j8 wx o.a o.b o.c o.d o.e;rw [show (br (-14400000) [o.a,o.b,o.c,o.d]&&br 0 [o.e])=true by simp [br];omega] at this;exact this
 ·refine A7 w B m o r' S ho hk hr hl hB ht hm h fun wx=>?_
  have:=jV wx o.a o.b o.c o.d o.e;rw [show (br (-14400000) [o.a,o.b]&&br 0 [o.c,o.d,o.e]&&decide (o.e<=1000))=true by simp [br];omega] at this;exact this
 ·refine ys w B m o r' S ho hk hr hl hB ht hm h fun wx=>?_
  have hz:o.s.size<=4096:=by
   have h1:o.co*o.ro<=64*64:=XA co2 ro2 (by omega) (by omega);omega
  refine r_ wx o.a o.b o.c o.d o.co o.ro o.s (fun wy=>?_) (by omega) (by omega) co2 (by omega) ro2 ?_
  ·have:=eJ wy o.a o.b o.c o.d o.co o.ro;rw [show (br (-14400000) [o.a,o.b]&&br 1 [o.c,o.d]&&(decide (1<=o.co)&&decide (o.co<=64))&&(decide (1<=o.ro)&&decide (o.ro<=64)))=true by simp [br];omega] at this;exact this
  ·exact hsz
section
open Go.RowKit Go.Shelf
attribute [local go_sem] Oper.semAt_some
theorem Bj (ops:List bj) (i:Nat) (h:i < ops.length):bE (ops.drop i)=(ops[i]).text++bE (ops.drop (i+1)):=by
 rw [Zo h];rfl
theorem s5 (o:bj):8<=o.text.length:=by
 unfold bj.text;have hl:∀ z:Int,1<=(bJ z).length:=fun z=>Yp.2 (pG z)
 split
 ·simp;omega
 ·split
  ·rw [gW,jP,jP];have:=hl o.e;have:=hl o.a;have:=hl o.b;have:=hl o.c;have:=hl o.d;simp;omega
  ·split
   ·rw [gW,qB];have:=hl o.e;have:=hl o.a;have:=hl o.b;have:=hl o.c;have:=hl o.d;simp;omega
   ·simp;omega
theorem Bm (ops:List bj):bE ops=[]\/8<=(bE ops).length:=by
 cases ops with
 | nil=>exact .inl rfl
 | cons o r=>
  right;show 8<=(o.text++bE r).length
  have:=s5 o;simp;omega
theorem ah.dropMid {A M X:As} {w:World} {S:Bl} (h:ah (ah A M) X w S):∃ S1,ah A X w S1/\Mv S w S1 w:=
 ah.drop (ah.assocR (ah.mapR (ah.assoc h) fun _ _ k=>ah.swap k))
def CZ (m:Nat) (w:World):Nat:=match w.cell? m with
 | some (.string r)=>r.size
 | _=>0
theorem vA {B m:Nat} {r:List UInt8} {w:World} {S:Bl} (h:nh B m r w S):CZ m w=r.length:=by
 unfold CZ;rw [h.at 0 _ rfl];exact ae r
def C_ (ops:List bj) (i:Nat) (args:Array Value) (i':Nat):Prop:=∃ h:i < ops.length,i'=i+1/\args=#[lm ops[i],true]
theorem D_ (B b:Nat) (s:ByteArray) (ops:List bj) (hs:s.data.toList=bE ops) (hsz:s.size<=2000000000) (hops:∀ o∈ops,o.is):
  rs Fence.wide prog 228 #[zp b] B (aS B b [.string s]) (fun w=>bU B w/\ft B w) 0 (fun _=>True) (C_ ops) (fun i=>i=ops.length):=by
 rintro l K Kx hK hKx _ W ⟨ht,hm⟩ hBW hY S h0;have hCt:=aS.thing B b [.string s];obtain ⟨SC,kC,_,_⟩:=ah.fst (hK 0) h0;have c0:W.cell? b=s:=kC.at 0 _ rfl;have HN:=ai (tR W s B hBW);have H0:=ai h0;have hge:=fun k=>(ah.thing hCt (hK 0)).ge (k:=k) h0
 clear h0 kC;refine callsIn_of_wp func228 rfl trivial ?_ rfl;show (Code.wpIn _ _ _ _ _ _ _)
 simp only [ntmps228,List.size_toArray,ZX,ZS,Nat.reduceAdd,Nat.reduceSub,Array.replicate_succ,Array.replicate_zero,List.push_toArray,List.append_toArray,Zt,ZG]
 gi_wp2
 refine ⟨trivial,rfl,(callsIn_wide.2 HN.out).mono ?_⟩;rintro e W1 ⟨rfl,hM,hb1⟩;obtain ⟨m,hm0⟩:∃ m,W.heap.size=m:=⟨_,rfl⟩;rw [hm0] at hM;have st0:∃ S',ah (ah (aS B b [.string s]) (nh B m (bE (ops.drop 0)))) (K 0) W1 S'/\Mv S W S' W1:=by
  have hM':nh B m (bE (ops.drop 0)) W1 (cC m):=by rw [List.drop_zero, <-hs];exact hM
  obtain ⟨a1,a2⟩:=ah.new (ah.thing hCt (hK 0)) H0.out hM' hb1 (fun k e=>by have e':k=m:=e;omega);exact ⟨_,ah.mapL (ah.assocR a1) (fun w S h=>ah.swap h),a2⟩
 have HS0:=ai st0;have hmB:B<=m:=by omega
 clear st0 hM HN H0 hb1
 gi_wp2
 gi_loopw [4] (fun _ wr=>∃ (i:Nat) (S':Bl),i<=ops.length/\ah (ah (aS B b [.string s]) (nh B m (bE (ops.drop i)))) (K i) wr S'/\Mv S W S' wr) (fun _ wr=>CZ m wr)
 case atStart=>
  obtain ⟨S',hh,hv⟩:=HS0.out;exact ⟨0,S',by omega,hh,hv⟩
 case round=>
  obtain ⟨i,S',hi,hst,hmv⟩:=hrel;have hbw:Below B W wr:=hmv.below hge hBW;obtain ⟨SA,kA,_,backA⟩:=ah.fst (hK i) hst;obtain ⟨SM,kM,_,backM⟩:=ah.snd hCt kA;have CR:=ai (qX wr B m _ SM kM);have HL:=ai (vA kM);by_cases hlt:i < ops.length
  ·have hdr:=Bj ops i hlt;obtain ⟨o,ho⟩:∃ o,ops[i]=o:=⟨_,rfl⟩;obtain ⟨r',hr'⟩:∃ r',bE (ops.drop (i+1))=r':=⟨_,rfl⟩;have hois:o.is:=hops o (by rw [<-ho];exact Ys hlt);rw [ho,hr'] at hdr;rw [hdr] at kM CR HL;have ho8:=s5 o;have hlen:(o.text++r').length<=2000000000:=by
    have h1:(bE ops).length=(bE (ops.take i)).length+(bE (ops.drop i)).length:=by
     rw [<-ZY, <-r8,Ym]
    rw [hdr] at h1;have h2:(bE ops).length=s.size:=by rw [<-hs,aP]
    omega
   have ne:(o.text++r').isEmpty=false:=by
    cases hh:o.text++r' with
    | nil=>rw [List.append_eq_nil_iff.1 hh |>.1] at ho8;simp at ho8
    | cons x y=>rfl
   have CN:=ai (fun w2 (hb:Below B W w2) SM2 (k:nh B m (o.text++r') w2 SM2)=>yp w2 B m o r' SM2 hois (by rw [<-hr'];exact Bm _) hlen (ZU hBW hb.size) (ht.on hb) (hm.on hb) k)
   gi_wp2
   refine ⟨trivial,rfl,(callsIn_wide.2 CR.out).mono ?_⟩;rintro e w1 ⟨rfl,rfl⟩
   gi_wp2
   refine ⟨trivial,rfl,(callsIn_wide.2 (CN.out _ hbw SM kM)).mono ?_⟩;rintro e w2 ⟨rfl,SM2,kM2,mM2⟩;obtain ⟨SA2,kA2,mA2⟩:=backM _ _ _ kM2 mM2;obtain ⟨S2,hst2,m2⟩:=backA _ _ _ kA2 mA2;have hbw2:Below B W w2:=(hmv.trans m2).below hge hBW;obtain ⟨SK,kK,_,backK⟩:=ah.snd (ah.thing hCt (nh.thing B m r')) hst2;obtain ⟨fn,tmps,assign,body,hy,hR⟩:=hY i _ _ w2 SK ⟨hlt,rfl,rfl⟩ kK hbw2;rw [ho] at hy;clear CR CN
   gi_wp2
   refine ⟨rfl,hR.mono ?_⟩;rintro e w3 (⟨rfl,SK3,kK3,mK3⟩ | ⟨rfl,SK3,kK3,mK3⟩)
   ·obtain ⟨S3,hst3,m3⟩:=backK _ _ _ kK3 mK3
    gi_wp2
    go_roundw
    case rel=>exact ⟨i+1,S3,by omega,by rw [hr'];exact hst3,(hmv.trans m2).trans m3⟩
    case measure=>
     obtain ⟨SA3,kA3,_,_⟩:=ah.fst (hK (i+1)) hst3;obtain ⟨SM3,kM3,_,_⟩:=ah.snd hCt kA3;rw [vA kM3,HL.out];simp;omega
   ·obtain ⟨S3,hst3,m3⟩:=backK _ _ _ kK3 mK3
    gi_wp2
    refine YO (results_none rfl _ _ _) rfl ?_;obtain ⟨S4,hst4,m4⟩:=ah.dropMid hst3;exact ⟨⟨_,rfl⟩,.inr ⟨S4,hst4,((hmv.trans m2).trans m3).trans m4⟩⟩
  ·have hil:i=ops.length:=by omega
   subst hil;rw [List.drop_length] at CR;have ne:(⟨(bE []).toArray⟩:ByteArray).toList.isEmpty=true:=by rw [Zn];rfl
   gi_wp2
   refine ⟨trivial,rfl,(callsIn_wide.2 CR.out).mono ?_⟩;rintro e w1 ⟨rfl,rfl⟩
   gi_wp2
   go_end0;obtain ⟨S4,hst4,m4⟩:=ah.dropMid hst;exact ⟨⟨_,rfl⟩,.inl ⟨_,S4,rfl,hst4,hmv.trans m4⟩⟩
end
section
open Go.RowKit Go.Shelf
attribute [local go_sem] Oper.semAt_some
theorem qE (s:ByteArray) (w:World):
  CP 194 #[s] w fun e W'=>e=.returned (.func (.func 228) #[] #[zp w.heap.size])/\W'=w.alloc (.cells #[s] 9):=by
 have hmf:∀ (fn:Fn) (first cap:Array Value) (w:World),(Instr.makeFunc fn first cap).run prog w=.ok (.func fn first cap) w:=fun _ _ _ _=>rfl
 go_enter func194,ntmps194
 go_wp2;go_ret;exact ⟨rfl,rfl⟩
def yw (o:bj):List Value:=[.int .i64 o.k,.int .i64 o.a,.int .i64 o.b,.int .i64 o.c,.int .i64 o.d,.int .i64 o.e,.int .i64 o.co,.int .i64 o.ro,.string o.s]
theorem Eo {s:ByteArray} (h:s.size=0):s=⟨#[]⟩:=Zh (Array.toList_inj.1 (Zr (by rw [aP];exact h)))
theorem wi (o:bj) (ho:o.is) (w:World):
  QB 136 #[lm o] w (.agg (yw o).toArray):=by
 obtain ⟨_,_,h⟩:=ho;unfold yw lm;rcases h with ⟨hk,_,hd,he,hco,hro,_⟩ | ⟨hk,_,_,_,hco,hro,hs⟩ | ⟨hk,_,_,_,hco,hro,hs⟩ | ⟨hk,_,_,_,_,he,_⟩
 ·rw [hk,hd,he,hco,hro];exact mE w o.a o.b o.c 0 0 0 0 o.s
 ·rw [hk,hco,hro,Eo hs];exact nR w o.a o.b o.c o.d o.e 0 0 ⟨#[]⟩
 ·rw [hk,hco,hro,Eo hs];exact mM w o.a o.b o.c o.d o.e 0 0 ⟨#[]⟩
 ·rw [hk,he];exact lC w o.a o.b o.c o.d 0 o.co o.ro o.s
theorem nW {F:Fence} {k:Nat} {ops:Array Oper} {rest:List Oper} {o:Oper} {a:Act} {w:World} {Q:Exit->Act->World->Prop} (hgd:o.guard=none) (sl x:Operand) (t:TypeId)
  (ho:o.op=.call {callee:=.builtin .append,args:=#[sl,x],argTypes:=#[t,t]}) (e:TypeId) (zero:Value) (z bytes:Nat) (hi:(Tryz.prog.info? e).map (fun i=>(i.zero,i.size,i.bytes))=some (some zero,z,bytes)) (hzs:zero.cells.size=z) (hz:0 < z) (ht:Tryz.prog.underlying t=some (.slice e))
  (base:Nat) (v:Value) (n:Nat) (xs:List Value) (hs:a.eval sl=v) (h:w.ownsRow base e z v n xs) (hb:base<=w.heap.size) (ad:Addr) (m:Nat) (hx:a.eval x=.slice (some ad) 1 m) (news:List Value) (hl:news.length=z) (hnews:∀ j u,news[j]? =some u->w.cell? (ad.add j)=some u) (h1:∀ u∈news,u.oneCell'=true)
  (hn:n<=1000000000) (hby:bytes<=1000)
  (hk:∀ v' w',w'.ownsRow base e z v' (n+1) (xs++news)->w.grownBy w' v.ownBlock->(v'.ownBlock=v.ownBlock\/v'.ownBlock=some w.heap.size)->wpListIn F k prog ops Q rest (a.put o.dst v') w'):wpListIn F k prog ops Q (o::rest) a w:=by
 refine wpListIn_plain hgd fun K hK=>?_
 obtain ⟨i0,hi0,hz0,hz1,hz2⟩:=XR hi;have hb2:(n+1)*bytes<=140737488355328:=ZU (XJ (n+1) hby) (by omega);obtain ⟨v',w',hr,h2,h3,_,h4⟩:=run_append_own_at (P:=prog) w base t o.type e i0 zero z bytes ht hi0 hz0 hz1 hz2 hzs hz v n xs h ad 1 m news (by rw [hl];omega) hnews h1 (by unfold maxLen;omega) hb2 hb;unfold Oper.wpIn;refine ⟨?_,?_⟩
 ·simp [Oper.about,ho,resolve,Target.leads,XX]
 ·rw [Oper.semAt_plain F _ _ (by rw [ho];intro c hc';cases hc')];simp [execOp,ho,resolve,invoke,builtin,hs,hx,hr,Result.andThen];exact hK _ _ (hk v' w' h2 h3 h4)
def EW (row:Option Nat) (news:List Value) (kb:Nat) (l:List Value) (k:Nat) (v:Value) (w:World):Prop:=if k=kb then pO row news v w else v=l.getD k undef
theorem Er {row:Option Nat} {news:List Value} {kb:Nat} {l:List Value} {m:Nat} (k:Nat) (v:Value) (w w':World) (_:k < m) (h:EW row news kb l k v w) (g:af w w'):EW row news kb l k v w':=by
 unfold EW at h ⊢;split at h
 ·next hk=>rw [ZM hk];exact h.on (BI g)
 ·next hk=>rw [ZO hk];exact h
theorem tD (w:World) (p t:ByteArray) (ops:List bj) (hops:∀ o∈ops,o.is) (hol:ops.length<=100000000) (xi:World->Prop) (hpre:∀ w',Below w w w'->xi w') (hpz:p.size<=2000000000)
  (HU:Hid (∀ wx,QB 107 #[p,(1048576:Int)] wx (.tuple #[t,(p.size:Int),true])))
  (HQ:Hid (∀ b,rs Fence.wide prog 228 #[zp b] w.heap.size (aS w.heap.size b [.string t]) xi 0 (fun _=>True) (C_ ops) (fun i=>i=ops.length))):
  CP 148 #[p] w fun e w'=>∃ v,e=.returned (.tuple #[v,true])/\∃ S',aW w.heap.size 31 9 v ops.length (k_ ops) w' S'/\Below w w w':=by
 have HO:=ai (qE t);refine (callsIn_wide (n:=0)).1 ?_;refine callsIn_of_wp_marks func148 rfl trivial ?_ rfl;simp only [ntmps148,List.size_toArray,ZX,ZS,Nat.reduceAdd,Nat.reduceSub,Array.replicate_succ,Array.replicate_zero,List.push_toArray,List.append_toArray,Zt,ZG]
 gi_wp2
 refine ⟨trivial,rfl,(callsIn_wide.2 (HU.out _)).mono ?_⟩;rintro e W1 ⟨rfl,hb1⟩
 gi_wp2
 refine ⟨trivial,rfl,(callsIn_wide.2 (HO.out _)).mono ?_⟩;rintro e W' ⟨rfl,rfl⟩
 gi_wp2
 obtain ⟨W2,hW2⟩:∃ W2,(W1.alloc (Obj.cells #[Value.slice none 0 0] 86)).alloc (Obj.cells #[Value.string t] 9)=W2:=⟨_,rfl⟩;have st0:∃ S,ah (aS w.heap.size (W1.heap.size+1) [.string t]) (ah (aS w.heap.size W1.heap.size [.slice none 0 0]) (ah (aW w.heap.size 31 9 (.slice none 0 0) 0 []) (Bx w.heap.size w.heap.size [[.slice none 0 0],[.bool false]]))) W2 S/\Below w w W2:=by
  obtain ⟨S1,b1⟩:=(Bx.nil w.heap.size w (by omega)).snoc [.slice none 0 0] 86 (by simp);obtain ⟨S2,b2⟩:=b1.snoc [.bool false] 4 (by simp);have b3:=(Bx.thing _ _ _).grow b2 hb1;have hz:=hb1.size;simp only [World.size_alloc] at hz;have e:∀ k,¬ ob (.slice none 0 0) k:=fun k h=>by simp [ob,Value.ownBlock] at h
  have a0:ah (aW w.heap.size 31 9 (.slice none 0 0) 0 []) (Bx w.heap.size w.heap.size [[.slice none 0 0],[.bool false]]) W1 _:=⟨_,_,aW.nil _ _ _ _,b3,fun k a=>absurd a (e k),rfl⟩;have hc3:=aS.alloc (B:=w.heap.size) (vs:=[.slice none 0 0]) (w:=W1) (t:=86) (by omega);obtain ⟨a1,_⟩:=ah.new (ah.thing (aW.thing _ _ _ _ _ _) (Bx.thing _ _ _)) a0 hc3 ((ZQ _ _).alloc (ZV _) _) (fun k e=>Nat.le_of_eq (Eq.symm e));have hc4:=aS.alloc (B:=w.heap.size) (vs:=[.string t]) (w:=W1.alloc (Obj.cells #[Value.slice none 0 0] 86)) (t:=9) (by simp;omega);obtain ⟨a2,_⟩:=ah.new (ah.thing (aS.thing _ _ _) (ah.thing (aW.thing _ _ _ _ _ _) (Bx.thing _ _ _))) a1 hc4 ((ZQ _ _).alloc (ZV _) _) (fun k e=>Nat.le_of_eq (Eq.symm e));have hb2:Below w w ((w.alloc (Obj.cells #[Value.slice none 0 0] 86)).alloc (Obj.cells #[Value.bool false] 4)):=((ZQ _ w).alloc (ZV _) _).alloc (by simp) _;simp only [World.size_alloc] at a2;rw [<-hW2];exact ⟨_,a2,((hb2.trans (hb1.mono (by simp;omega))).alloc (by omega) _).alloc (by simp;omega) _⟩
 have HW2:=ai hW2;rw [hW2];clear hW2 hb1 HU HO;obtain ⟨S0,st0,hbel⟩:=st0;obtain ⟨h,hh⟩:∃ h,W1.heap.size=h:=⟨_,rfl⟩;rw [hh] at st0 ⊢;clear hh HW2;generalize hn:w.heap.size=n at*;have HNN:=ai hn;clear hn;have hge:=fun k=>(ah.thing (aS.thing _ _ _) (ah.thing (aS.thing _ _ _) (ah.thing (aW.thing _ _ _ _ _ _) (Bx.thing _ _ _)))).ge (k:=k) st0
 have hn5:n<=W2.heap.size:=by
  obtain ⟨S1,S2,k,_⟩:=st0;have:=k.2.2.1;have:=k.2.1;omega
 have hIt:∀ j (v:Value),aJ n (ah (aS n h [v]) (ah (aW n 31 9 v j (k_ (ops.take j))) (Bx n n [[.slice none 0 0],[.bool false]]))):=fun j v=>ah.thing (aS.thing _ _ _) (ah.thing (aW.thing _ _ _ _ _ _) (Bx.thing _ _ _))
 refine mc (B:=n) rfl (fun _=>trivial) rfl rfl (enters_of func228 (by kernel_rfl) rfl) (HQ.out _) (fun W1 hb=>hpre _ (hbel.trans hb)) (aS.thing _ _ _) ?hps
  (fun j W S=>∃ v,ah (aS n h [v]) (ah (aW n 31 9 v j (k_ (ops.take j))) (Bx n n [[.slice none 0 0],[.bool false]])) W S)
  (fun _ _ _=>False) (fun j=>aJ.any fun v=>hIt j v) (fun _=>⟨fun h=>h.elim,fun h=>h.elim,fun h=>h.elim⟩) (fun a _ _ _=>trivial) hn5 (ah.mapR st0 fun _ _ k=>⟨_,k⟩) ?round ?done (fun _ _ _ _ h _=>by obtain ⟨_,_,⟨_,_,_,h,_⟩,_⟩:=h;exact h.elim)
 case hps=>
  rintro a args a' ⟨_,_,rfl⟩;rfl
 case round=>
  rintro l' i args i' W0 ⟨hi,rfl,rfl⟩
  gi_wp2
  refine ⟨trivial,?_⟩;rintro W6 S6 ⟨v,h6⟩ hb6;obtain ⟨y2,ow,ne,f2,hlh,hgr⟩:=j6 (i:=0) (Bx.thing _ _ _) rfl h6;obtain ⟨ad,cap,hform⟩:∃ ad cap,v=.slice ad i cap:=by
   rcases ow.2 with ⟨hu,hz⟩ | ⟨gg,cap,cur,hu,_⟩
   ·exact ⟨none,0,by rw [hu,hz]⟩
   ·exact ⟨_,_,hu⟩
  subst hform;obtain ⟨o,ho⟩:∃ o,ops[i]=o:=⟨_,rfl⟩;have hois:o.is:=hops o (by rw [<-ho];exact Ys hi);have HPl:Hid (∀ wx,QB 136 #[lm o] wx (.agg #[o.k,o.a,o.b,o.c,o.d,o.e,o.co,o.ro,o.s])):=fun wx=>wi o hois wx
  have etk:k_ (ops.take (i+1))=k_ (ops.take i)++yw o:=by
   rw [Zv hi,qG,ho];rfl
  have HTK:=ai etk;have HGR:=ai hgr;have hB6:n<=W6.heap.size:=ZU hn5 hb6.size;rw [ho];clear etk hgr h6 ho hois;generalize k_ (ops.take i)=xs0 at ow HTK HGR
  gi_wp2
  refine oJ (fun _=>trivial) 4 _ (EW (Value.slice ad i cap).ownBlock (yw o) 3 [.slice ad i cap,lm o,.agg #[o.k,o.a,o.b,o.c,o.d,o.e,o.co,o.ro,o.s],undef]) (by kernel_rfl) rfl (by kernel_rfl) (by kernel_rfl) Er ?_;simp only [TD];refine ⟨fun w1 hG hd=>?_,fun v0=>?_⟩
  ·clear hd;have cc:=(Zg hG (p:=h) hlh).trans y2
   gi_wp2
   exact RG
  simp only [TN];refine ⟨fun w1 hG hd=>?_,fun v1=>?_⟩
  ·clear hd
   gi_wp2
   exact RG
  simp only [TN];refine ⟨fun w1 hG hd=>?_,fun v2=>?_⟩
  ·have d1:v1=lm o:=hd ⟨1,.data⟩ (by simp) rfl;clear hd;subst d1;have HX:=ai (HPl.out w1)
   gi_wp2
   refine ⟨trivial,rfl,(CallsIn.inRound l' (callsIn_wide.2 HX.out)).mono ?_⟩;rintro e w2 ⟨rfl,hB2⟩
   gi_wp2
   exact ⟨rfl,hB2⟩
  simp only [TN];refine ⟨fun w1 hG hd=>?_,fun v3=>?_⟩
  ·have d2:v2=.agg #[o.k,o.a,o.b,o.c,o.d,o.e,o.co,o.ro,o.s]:=hd ⟨2,.data⟩ (by simp) rfl;clear hd;subst d2
   gi_wp2
   exact ⟨jI _ _ (fun k hk=>ZK (ow.lt k hk).2 hG.size),(ZQ _ _).alloc (ZV _) _⟩
  simp only [TN];intro w1 hG hd;have d0:v0=.slice ad i cap:=hd 0 (by omega);have d3:pO _ _ v3 w1:=hd 3 (by omega);subst d0;obtain ⟨nb,rfl,hnb,hnr,hnc⟩:=d3;have ow1:=oY ow hG;refine nW rfl (.tmp 30) (.tmp 33) 86 rfl 31 (.agg #[oz,oz,oz,oz,oz,oz,oz,oz,.string ⟨#[]⟩]) 9 80 Tryz.infoOp rfl (by omega) underlying86 n _ i xs0 rfl ow1 (ZU hB6 hG.size) ⟨nb,0,none⟩ 1 rfl (yw o) rfl (fun j u hj=>by cases j with
   | zero=>simpa [Addr.add] using hnc 0 u hj
   | succ j=>simpa [Addr.add] using hnc (j+1) u hj) (by unfold yw;intro u hu;simp at hu;rcases hu with rfl | rfl | rfl | rfl | rfl | rfl | rfl | rfl | rfl <;> rfl) (by omega) (by omega) ?_
  intro v7 w7 hO7 hg7 hat7;have hg8:W6.grownBy w7 (Value.slice ad i cap).ownBlock:=fE (row:=(Value.slice ad i cap).ownBlock) hG hg7;have ha8:gq W6 (Value.slice ad i cap).ownBlock n 31 9 (i+1) (xs0++yw o) v7 w7:=⟨hO7,hat7.elim .inl (fun e=>.inr ⟨_,e,hG.size⟩)⟩;have HX:=ai (HGR.out _ _ _ _ hg8 ha8);obtain ⟨ad7,cap7,hv7⟩:=ha8.form;subst hv7;have kb:=hg8.block h hlh (fun e=>ne e.symm);have k1:=(ZR (a:=h) kb).trans y2;have kf1:=(ZH (a:=h) kb).trans f2;clear hd kb y2 f2 ow ow1 hO7 hg7 hat7 ha8 hg8 HGR HPl
  gi_wp2
  obtain ⟨S',h',m'⟩:=HX.out;refine ⟨S',⟨.slice ad7 (i+1) cap7,?_⟩,m'⟩;rw [HTK.out];exact h'
 case done=>
  rintro D j W6 S6 rfl hs hm;obtain ⟨T1,k1,_,back1⟩:=ah.fst (Ob.thing _ _ _) hs;obtain ⟨T2,⟨v,k2⟩,_,back2⟩:=ah.snd (aS.thing _ _ _) k1;obtain ⟨T3,kc,_,_⟩:=ah.fst (ah.thing (aW.thing _ _ _ _ _ _) (Bx.thing _ _ _)) k2;obtain ⟨T5,kb,_,back5⟩:=ah.third (aS.thing _ _ _) (aW.thing _ _ _ _ _ _) k2;obtain ⟨T6,kr,_,_⟩:=ah.mid (aS.thing _ _ _) (Bx.thing _ _ _) k2;obtain ⟨ad,cap,hv⟩:=kr.form;subst hv;have y2:W6.cell? h=some (.slice ad ops.length cap):=kc.at 0 _ rfl;have b0:W6.cell? n=some (.slice none 0 0):=kb.at 0 0 _ _ rfl rfl;have b1:W6.cell? (zp (n+1))=false:=kb.at 1 0 _ _ rfl rfl;have f0:W6.frozen? n=false:=kb.fz 0 0 (by simp);have f1:W6.frozen? (zp (n+1))=false:=kb.fz 1 0 (by simp)
  gi_wp2
  obtain ⟨q1,m1⟩:=kb.set 0 0 _ (.slice ad ops.length cap) rfl (by simp);obtain ⟨q2,m2⟩:=q1.set 1 0 _ (.bool true) rfl (by simp);obtain ⟨U1,u1,n1⟩:=back5 _ _ _ q2 (m1.trans m2);obtain ⟨U2,u2,n2⟩:=back2 _ _ _ u1 n1;obtain ⟨U3,u3,n3⟩:=back1 _ _ _ u2 n2;obtain ⟨T7,k7,_,back7⟩:=ah.snd (ah.thing (aS.thing _ _ _) (ah.thing (aS.thing _ _ _) (ah.thing (aW.thing _ _ _ _ _ _) (Bx.thing _ _ _)))) u3;obtain ⟨p8,m8⟩:=k7.put (.deferred none);obtain ⟨T8,k8,m9⟩:=back7 _ _ _ p8 m8;obtain ⟨T9,k9,_⟩:=ah.drop k8;obtain ⟨T10,k10,_⟩:=ah.drop (ah.swap k9);obtain ⟨T11,k11,_⟩:=ah.drop (ah.swap k10);obtain ⟨T12,k12,_⟩:=ah.drop k11;obtain ⟨T13,k13,_⟩:=ah.drop (ah.swap k11);have e1:(((W6.setCell n (.slice ad ops.length cap)).setCell (zp (n+1)) true).putObj D (.deferred none)).cell? n=some (.slice ad ops.length cap):=k13.at 0 0 _ _ rfl rfl;have e2:(((W6.setCell n (.slice ad ops.length cap)).setCell (zp (n+1)) true).putObj D (.deferred none)).cell? (zp (n+1))=true:=k13.at 1 0 _ _ rfl rfl;refine ⟨by simp,.inl ⟨_,_,rfl,run_takeDeferred k7.2.2,?_⟩⟩;refine ⟨.tuple #[.slice ad ops.length cap,true],?_,_,rfl,T12,?_,?_⟩
  ·simp [results,f148,go_sem,e1,e2]
  ·rw [HNN.out];rw [ZA (ZV _)] at k12;exact k12
  ·rw [HNN.out];exact hbel.trans (((hm.trans n3).trans m9).below hge hn5)
end
theorem ft.mono {B B':Nat} {w:World} (h:ft B w) (hb:B<=B'):ft B' w:=⟨ZK h.1 hb,h.2⟩
theorem uP (W:World) (B:Nat) (Z:List UInt8) (ops:List bj) (hu:Pm.bP Z=some (bE ops,Z.length)) (hl:(bE ops).length<=1048576) (hops:∀ o∈ops,o.is) (hZ:Z.length<=2000000000) (hB:B<=W.heap.size) (ht:bU B W) (hm:ft B W):
  CP 148 #[.string ⟨Z.toArray⟩] W fun e w'=>∃ v,e=.returned (.tuple #[v,true])/\∃ S',aW B 31 9 v ops.length (k_ ops) w' S'/\(∀ k,S' k->W.heap.size<=k)/\Below W W w':=by
 have hol:=nE ops;refine (tD W ⟨Z.toArray⟩ ⟨(bE ops).toArray⟩ ops hops (by omega) (fun w'=>bU W.heap.size w'/\ft W.heap.size w') (fun w' hb=>⟨(qU ht hB).on hb,(hm.mono hB).on hb⟩) (by rw [ae];exact hZ) ?_ ?_).mono ?_
 ·intro wx;have:=vU wx ⟨Z.toArray⟩ (by rw [ae];omega);rw [show (⟨Z.toArray⟩:ByteArray).data.toList=Z by simp,hu] at this;rw [ae];exact this
 ·intro b;exact D_ W.heap.size b ⟨(bE ops).toArray⟩ ops (by simp) (by rw [ae];omega) hops
 ·rintro e w' ⟨v,rfl,S',k,hb⟩;refine ⟨v,rfl,S',⟨k.1,World.ownsRow.mono k.2 hB⟩,fun j hj=>(aW.thing W.heap.size _ _ _ _ _).ge k hj,hb⟩
end Go.Proofs.YtbklfkpjoinofaaGreatDoor
