import Derived.Test.YtbklfkpjoinofaaGreatDoorA08
import Derived.Test.YtbklfkpjoinofaaGreatDoorA09
set_option linter.all false
set_option maxRecDepth 100000
set_option maxHeartbeats 8000000
namespace Go.Proofs.YtbklfkpjoinofaaGreatDoor
open Go.RowKit Go.Proofs.Tryz
abbrev K1 (K:World->Bl->List UInt8->Prop) (B C:Nat) (ty:TypeId) (q:Value):World->Bl->List UInt8->Prop:=CK K B C 0 ty q
abbrev K2 (K:World->Bl->List UInt8->Prop) (B C Cp n0:Nat) (ty:TypeId) (q:Value):World->Bl->List UInt8->Prop:=CK (K1 K B C ty q) B Cp n0 162 (zp C)
def cG (K:World->Bl->List UInt8->Prop) (B Fb C Pg Cd P Cp:Nat) (ty:TypeId) (q:Value) (begins:List Nat) (sizes:List (Int×Int)) (st:dE) (X0 Y Dr:List UInt8):As:=
 ah (aS B Pg [.pointer (some ⟨Fb,0,none⟩),.pointer (some ⟨Cd,0,none⟩),.pointer (some ⟨P,0,none⟩),.pointer (some ⟨Cp,0,none⟩)])
  (ah (aS B Cd [.iface 177 (zp P),.int .i64 (Dr.length:Int)])
   (ah (FB B Fb C begins sizes) (fun w S=>PD (K2 K B C Cp X0.length ty q) B P (.iface 162 (zp Cp)) w S st (X0++Y))))
section
variable {K D:World->Bl->List UInt8->Prop} {ok:List UInt8->Prop} {B M:Nat} {ty:TypeId} {q q':Value} {f:FuncId} {et:TypeId} {ev:Value}
theorem K2.thing (hT:∀ X,aJ B (fun w S=>K w S X)) (C Cp n0:Nat) (X:List UInt8):aJ B (fun w S=>K2 K B C Cp n0 ty q w S X):=CK.thing (CK.thing hT C 0 ty q) Cp n0 _ _ X
theorem cG.thing (hT:∀ X,aJ B (fun w S=>K w S X)) (Fb C Pg Cd P Cp:Nat) (begins:List Nat) (sizes:List (Int×Int)) (st:dE) (X0 Y Dr:List UInt8):aJ B (cG K B Fb C Pg Cd P Cp ty q begins sizes st X0 Y Dr):=
 ah.thing (aS.thing _ _ _) (ah.thing (aS.thing _ _ _) (ah.thing (FB.thing _ _ _ _ _) (PD.thing (K2.thing hT C Cp X0.length) P _ st _)))
def AU (K D:World->Bl->List UInt8->Prop) (ok:List UInt8->Prop) (B:Nat) (ty:TypeId) (q:Value) (et:TypeId) (ev:Value) (S:Bl) (w:World) (Fb C:Nat) (begins:List Nat) (sizes:List (Int×Int)) (X out:List UInt8) (e:Ending) (w':World):Prop:=
 (ok (X++out)/\∃ Pg Cd P Cp,e=.returned (.tuple #[zp Pg,.nilIface])/\∃ S',cG K B Fb C Pg Cd P Cp ty q begins sizes lJ (X++out) [] [] w' S'/\Mv S w S' w')\/
 (¬ ok (X++out)/\e=.returned (.tuple #[.pointer none,.iface et ev])/\∃ S' Y,D w' S' Y/\X <+:Y/\Y <+:X++out/\Mv S w S' w')
theorem nU (d:fT B K D ok M ty q q' f et ev) (hM:M<=2000000000) (w:World) (S:Bl) (Fb C:Nat) (begins:List Nat) (sizes:List (Int×Int)) (X:List UInt8) (W H:Int) (h:aX K B Fb C ty q begins sizes X w S) (hB:B<=w.heap.size) (ht:bU B w) (hl:begins.length<=100000) (hz:sizes.length<=100000) (hX:X.length+1000<=M):
  CP 125 #[zp Fb,W,H] w (AU K D ok B ty q et ev S w Fb C (begins++[X.length+(eW X).length]) (sizes++[(W,H)]) X (eW X++(aL (begins.length+1)++cX (begins.length+2)))):=by
 have HB:=ai (kU d hM w S Fb C begins sizes X W H h hB ht hl hz hX);obtain ⟨ou,hou⟩:∃ ou,eW X++(aL (begins.length+1)++cX (begins.length+2))=ou:=⟨_,rfl⟩;obtain ⟨bg,hbg⟩:∃ bg,begins++[X.length+(eW X).length]=bg:=⟨_,rfl⟩;rw [hou,hbg] at HB ⊢;clear hou hbg;go_enter func125,ntmps125
 go_wp2_with fail
 refine HB.out.mono ?_;rintro e w1 (⟨hok,rfl,S1,h1,m1⟩ | ⟨hok,rfl,S1,Y,hD,p1,p2,m1⟩)
 rotate_left
 ·go_wp2;go_ret2;exact .inr ⟨hok,rfl,S1,Y,hD,p1,p2,m1⟩
 have hB1:B<=w1.heap.size:=ZU hB m1.size;obtain ⟨a1,k1,a2,k2,c0,c1,c2,fz,hc,hFb,hCb⟩:=h1.facts;clear c1 c2 fz hc HB;go_wp2_with fail
 refine (nQ w1 162 (zp C)).mono ?_;rintro e w2 ⟨rfl,hw2⟩;obtain ⟨S8,hC8,hs88,k8⟩:=h1.snd (FB.thing B Fb C bg _);obtain ⟨hCp,mCp⟩:=CK.fresh (ty:=162) (q:=.pointer (some ⟨C,0,none⟩)) (CK.thing d.thing C 0 ty q) hC8 hB1;rw [<-hw2] at hCp mCp;obtain ⟨S9,h9,m9⟩:=k8 (fun w S=>K2 K B C w1.heap.size (X++ou).length ty q w S (X++ou)) w2 _ hCp mCp;obtain ⟨Cp,hCpe⟩:∃ Cp,w1.heap.size=Cp:=⟨_,rfl⟩;rw [hCpe] at h9 ⊢;clear hCp mCp k8 hC8 hs88;have hB2:B<=w2.heap.size:=ZU hB1 m9.size;obtain ⟨S10,hK10,hs10,k10⟩:=h9.snd (FB.thing B Fb C bg _);have HN:=ai (ub (ty:=162) (q:=.pointer (some ⟨Cp,0,none⟩)) (K2.thing d.thing C Cp (X++ou).length) w2 S10 (X++ou) hK10 hB2);clear hw2 hK10;go_wp2_with fail
 refine HN.out.mono ?_;rintro e w3 ⟨P,S11,rfl,hP11,m11,_⟩;obtain ⟨S12,h12,m12⟩:=k10 (fun w S=>PD (K2 K B C Cp (X++ou).length ty q) B P (.iface 162 (zp Cp)) w S lJ (X++ou)) w3 S11 hP11 m11;have hB3:B<=w3.heap.size:=ZU hB2 m12.size;clear HN hP11 m11 k10 hs10;go_wp2;go_ret2;have hTT:aJ B (ah (FB B Fb C bg (sizes++[(W,H)])) (fun w S=>PD (K2 K B C Cp (X++ou).length ty q) B P (.iface 162 (zp Cp)) w S lJ (X++ou))):=ah.thing (FB.thing _ _ _ _ _) (PD.thing (K2.thing d.thing C Cp (X++ou).length) P _ lJ _);have hCd:aS B w3.heap.size [.iface 177 (zp P),.int .i64 0] (w3.alloc (.cells #[.iface 177 (zp P),oz] 208)) (cC w3.heap.size):=aS.alloc hB3;obtain ⟨hA,mA⟩:=ah.new hTT h12 hCd ((ZT _ w3).alloc (ZW _) _) (fun k e=>by rw [show k=w3.heap.size from e];exact ZW _);obtain ⟨w4,hw4⟩:∃ w4,w4=w3.alloc (.cells #[.iface 177 (zp P),oz] 208):=⟨_,rfl⟩;have hs4:w4.heap.size=w3.heap.size+1:=by rw [hw4];simp
 rw [<-hw4] at hA mA ⊢;have hPg:aS B w4.heap.size [.pointer (some ⟨Fb,0,none⟩),.pointer (some ⟨w3,0,none⟩),.pointer (some ⟨P,0,none⟩),.pointer (some ⟨Cp,0,none⟩)] (w4.alloc (.cells #[zp Fb,zp w3.heap.size,zp P,zp Cp] 179)) (cC w4.heap.size):=aS.alloc (by omega);obtain ⟨hA2,mA2⟩:=ah.new (ah.thing (aS.thing _ _ _) hTT) hA hPg ((ZT _ w4).alloc (ZW _) _) (fun k e=>by rw [show k=w4.heap.size from e];exact ZW _);refine .inl ⟨hok,w4.heap.size,w3.heap.size,P,Cp,by rw [hs4];rfl,_,?_,((m1.trans (m9.trans m12)).trans mA).trans mA2⟩;unfold cG;rw [YZ];exact hA2
theorem AE (P:Nat) (w:World):(method 465 177 (zp P) "Write").run prog w=.ok (151,.pointer (some ⟨P,0,none⟩)) w:=by kernel_rfl
theorem Bw (P:Nat) (w:World):(nilAhead 465 177 (zp P) "Write").run prog w=.ok (some false) w:=by kernel_rfl
theorem zI (args:Array Value) (w:World):(callFunc 151 args).run prog w=.ok (.enter 151 args) w:=by kernel_rfl
theorem mu (w:World) (Pg Cd:Nat) (s:ByteArray) (Z:Ending->World->Prop) (c1:w.cell? (zq Pg 1)=zp Cd)
  (HW:Hid (CP 128 #[zp Cd,s] w fun e w'=>∃ v,e=.returned v/\Z (.returned v) w')):
  CP 133 #[zp Pg,s] w Z:=by
 go_enter func133,ntmps133
 go_wp2_with fail
 refine HW.out.mono ?_;rintro e w1 ⟨v,rfl,hZ⟩;go_wp2
 first
  | exact hZ
  | (go_ret;exact hZ)
theorem nX (d:fT B K D ok M ty q q' f et ev) (hM:M<=2000000000) (w:World) (S:Bl) (Fb C Pg Cd P Cp:Nat) (begins:List Nat) (sizes:List (Int×Int)) (st:dE) (X0 Y Dr:List UInt8) (s:ByteArray) (h:cG K B Fb C Pg Cd P Cp ty q begins sizes st X0 Y Dr w S) (hI:PI st Y Dr) (hR:st.W.length - st.at_ < 261) (hs:Dr.length+s.size<=1048576) (hX:X0.length+1200000<=M):
  CP 133 #[zp Pg,s] w (aU D ok et ev S w (X0++Y) (bL st s.data.toList).1 (fun w' S'=>cG K B Fb C Pg Cd P Cp ty q begins sizes (bL st s.data.toList).2 X0 (Y++(bL st s.data.toList).1) (Dr++s.data.toList) w' S'/\PI (bL st s.data.toList).2 (Y++(bL st s.data.toList).1) (Dr++s.data.toList)/\(bL st s.data.toList).2.W.length - (bL st s.data.toList).2.at_ < 261)):=by
 have hT1:=FB.thing B Fb C begins sizes;have hT2:=PD.thing (K2.thing (ty:=ty) (q:=q) d.thing C Cp X0.length) P (.iface 162 (zp Cp)) st (X0++Y);obtain ⟨Sg,hg,_,_⟩:=ah.fst (ah.thing (aS.thing B Cd _) (ah.thing hT1 hT2)) h;obtain ⟨Sd,hd,_,kd⟩:=ah.mid (aS.thing B Pg _) (ah.thing hT1 hT2) h;have hn:(Dr.length:Int)+(s.size:Int)=((Dr++s.data.toList).length:Int):=by rw [ZY,aP];omega
 obtain ⟨hd1,md1⟩:=hd.set 1 (.int .i64 ((Dr++s.data.toList).length:Int)) (by simp);obtain ⟨S1,h1,m1⟩:=kd _ _ _ hd1 md1;obtain ⟨S2,h2,hs2,k2⟩:=ah.snd (aS.thing B Pg _) h1;obtain ⟨S3,h3,hs3,k3⟩:=ah.snd (aS.thing B Cd _) h2;obtain ⟨S4,h4,hs4,k4⟩:=ah.snd hT1 h3;have hw:=Az ((d.count hM C 0).count hM Cp X0.length) _ S4 P st X0 Y Dr s h4 hI hs hR hX;refine mu w Pg Cd s _ (hg.at 1 _ rfl) (mG 177 _ _ _ (Bw P) (AE P) zI w Cd Dr.length s _ (hd.at 0 _ rfl) (hd.at 1 _ rfl) (hd.fz 1) (by omega) (by omega) ?_);rw [hn];refine hw.mono ?_;intro e w9 hS;obtain ⟨v,rfl⟩:=hS.val;refine ⟨v,rfl,v,rfl,aU.pre m1 (aU.lift (fun k e=>hs2 k (hs3 k (hs4 k e))) ?_ hS)⟩;rintro S9 ⟨c1,c2,c3⟩ m9;obtain ⟨T4,x4,y4⟩:=k4 (fun w S=>PD (K2 K B C Cp X0.length ty q) B P (.iface 162 (zp Cp)) w S (bL st s.data.toList).2 (X0++(Y++(bL st s.data.toList).1))) w9 S9 c1 m9;obtain ⟨T3,x3,y3⟩:=k3 _ w9 T4 x4 y4;obtain ⟨T2,x2,y2⟩:=k2 _ w9 T3 x3 y3;exact ⟨T2,⟨x2,c2,c3⟩,y2⟩
end
section
variable {K D:World->Bl->List UInt8->Prop} {ok:List UInt8->Prop} {B M:Nat} {ty:TypeId} {q q':Value} {f:FuncId} {et:TypeId} {ev:Value}
theorem yF {w:World} {S:Bl} {P1 P2:As} {Fb C Cp n0:Nat} {begins:List Nat} {sizes:List (Int×Int)} {X:List UInt8} (h:ah P1 (ah P2 (ah (FB B Fb C begins sizes) (fun w S=>K2 K B C Cp n0 ty q w S X))) w S):∃ S',aX K B Fb C ty q begins sizes X w S'/\∀ k,S' k->S k:=by
 obtain ⟨S1,S2,_,⟨S3,S4,_,⟨S5,S6,hF,⟨R,hK,rfl,_⟩,ho,rfl⟩,_,rfl⟩,_,rfl⟩:=h;refine ⟨cT S5 R,⟨S5,R,hF,hK,fun k a b=>ho k a (.inr b),rfl⟩,?_⟩;rintro k (e | e)
 ·exact .inr (.inr (.inl e))
 ·exact .inr (.inr (.inr (.inr e)))
theorem p_ (w:World) (Pg P:Nat) (X out o2:List UInt8) (G1 G:As) (S:Bl) (okp:∀ X Y,ok (X++Y)->ok X) (c2:w.cell? (zq Pg 2)=zp P)
  (HC:Hid (CP 152 #[zp P] w (aU D ok et ev S w X out G1)))
  (HE:Hid (∀ w1 S1,G1 w1 S1->Mv S w S1 w1->∃ Fb Cp n:Nat,n<=2000000000/\w1.cell? Pg=some (.pointer (some ⟨Fb,0,none⟩))/\w1.cell? (zq Pg 3)=some (.pointer (some ⟨Cp,0,none⟩))/\w1.cell? (zq Cp 1)=some (.int .i64 (n:Int))/\∀ qn,CP 166 #[zp Fb,(n:Int)] (w1.drewN qn) (aU D ok et ev S1 w1 (X++out) o2 G))):
  CP 124 #[zp Pg] w (aU D ok et ev S w X (out++o2) G):=by
 go_enter func124,ntmps124
 go_wp2_with fail
 refine HC.out.mono ?_;rintro e w1 (⟨hok,rfl,S1,h1,m1⟩ | ⟨hok,rfl,S1,Y,hD,p1,p2,m1⟩)
 rotate_left
 ·go_wp2;go_ret;exact aU.fail1 okp hok hD p1 p2 m1
 obtain ⟨Fb,Cp,n,hn,c0,c3,cn,HX⟩:=HE.out w1 S1 h1 m1;have HX:=ai HX;have HQ:=ai (q7 w1 Cp n cn);clear HC HE c2;go_wp2;refine bO 9 (by kernel_rfl) (by kernel_rfl) ?_;simp only [TD]
 repeat (go_big_quiet_step ((go_at_call 127;exact Calls.quiet_of (HQ.out _))))
 refine Ym ?_;intro _ hw';obtain ⟨nq2,hw''⟩:=hw';subst hw'';go_wp2_with fail
 refine (HX.out nq2).mono ?_;intro e w2 hS;obtain ⟨v,rfl⟩:=hS.val;have HS:=ai (aU.seq m1 hS);clear hS HX HQ;go_wp2
 first
  | exact HS.out
  | (go_ret;exact HS.out)
def yJ (n:Nat) (st:dE) (Y:List UInt8):List UInt8:=aV st++(fC++aK n (Lib.itoa ((Y++aV st).length:Int)))
theorem ll (d:fT B K D ok M ty q q' f et ev) (hM:M<=2000000000) (w:World) (S:Bl) (Fb C Pg Cd P Cp:Nat) (begins:List Nat) (sizes:List (Int×Int)) (st:dE) (X0 Y Dr:List UInt8) (h:cG K B Fb C Pg Cd P Cp ty q begins sizes st X0 Y Dr w S) (hI:PI st Y Dr) (hB:B<=w.heap.size) (ht:bU B w) (hl:begins.length<=100000) (hX:X0.length+1300000<=M):
  CP 124 #[zp Pg] w (aU D ok et ev S w (X0++Y) (yJ (begins.length+1) st Y) (fun w' S'=>aX K B Fb C ty q (begins++[X0.length+(Y++aV st).length+18]) sizes (X0++(Y++yJ (begins.length+1) st Y)) w' S'/\Pm.bP (Y++aV st)=some (Dr,(Y++aV st).length)/\8*(Y++aV st).length<=80+9*Dr.length/\6 < (Y++aV st).length)):=by
 have hTh:=cG.thing (ty:=ty) (q:=q) d.thing Fb C Pg Cd P Cp begins sizes st X0 Y Dr;have hbel:∀ {S' w'},Mv S w S' w'->Below B w w':=fun m=>m.below (fun _ e=>hTh.ge h e) hB
 have hT1:=FB.thing B Fb C begins sizes;have hT2:=PD.thing (K2.thing (ty:=ty) (q:=q) d.thing C Cp X0.length) P (.iface 162 (zp Cp)) st (X0++Y);obtain ⟨Sg,hg,_,_⟩:=ah.fst (ah.thing (aS.thing B Cd _) (ah.thing hT1 hT2)) h;obtain ⟨S2,h2,hs2,k2⟩:=ah.snd (aS.thing B Pg _) h;obtain ⟨S3,h3,hs3,k3⟩:=ah.snd (aS.thing B Cd _) h2;obtain ⟨S4,h4,hs4,k4⟩:=ah.snd hT1 h3;have hw:=AL ((d.count hM C 0).count hM Cp X0.length) w S4 P st X0 Y Dr h4 hI (by omega);have hdl:=hI.le;refine p_ (G1:=fun w' S'=>ah (aS B Pg [.pointer (some ⟨Fb,0,none⟩),.pointer (some ⟨Cd,0,none⟩),.pointer (some ⟨P,0,none⟩),.pointer (some ⟨Cp,0,none⟩)]) (ah (aS B Cd [.iface 177 (zp P),.int .i64 (Dr.length:Int)]) (ah (FB B Fb C begins sizes) (fun w S=>K2 K B C Cp X0.length ty q w S (X0++(Y++aV st))))) w' S'/\Pm.bP (Y++aV st)=some (Dr,(Y++aV st).length)/\8*(Y++aV st).length<=80+9*Dr.length/\6 < (Y++aV st).length)
  w Pg P (X0++Y) (aV st) _ _ S d.okp (hg.at 2 _ rfl) (hw.mono ?_) ?_
 ·intro e w9 hS;refine aU.lift (fun k e=>hs2 k (hs3 k (hs4 k e))) ?_ hS;rintro S9 ⟨c1,c2⟩ m9;obtain ⟨T4,x4,y4⟩:=k4 (fun w S=>K2 K B C Cp X0.length ty q w S (X0++(Y++aV st))) w9 S9 c1 m9;obtain ⟨T3,x3,y3⟩:=k3 _ w9 T4 x4 y4;obtain ⟨T2,x2,y2⟩:=k2 _ w9 T3 x3 y3;exact ⟨T2,⟨x2,c2⟩,y2⟩
 ·rintro w1 S1 ⟨hst,u1,u2,u3⟩ m1;have hB1:B<=w1.heap.size:=ZU hB m1.size;have ht1:bU B w1:=ht.on (hbel m1);obtain ⟨Sg1,hg1,_,_⟩:=ah.fst (ah.thing (aS.thing B Cd _) (ah.thing hT1 (K2.thing (ty:=ty) (q:=q) d.thing C Cp X0.length (X0++(Y++aV st))))) hst;obtain ⟨_,_,_,⟨_,_,_,⟨_,_,_,hK2,_⟩,_⟩,_⟩:=id hst;have hcn:=hK2.count;rw [show (X0++(Y++aV st)).length - X0.length=(Y++aV st).length by rw [ZY];omega] at hcn;obtain ⟨S5,hF5,hs5⟩:=yF hst;refine ⟨Fb,Cp,(Y++aV st).length,by omega,hg1.at 0 _ rfl,hg1.at 3 _ rfl,hcn,fun qn=>?_⟩;have hF6:=(aX.thing d.thing Fb C ty q begins sizes _).drewN hF5 qn;refine (mS d hM (w1.drewN qn) S5 Fb C begins sizes (X0++(Y++aV st)) (Y++aV st).length hF6 hB1 (ht1.on ⟨rfl,rfl,rfl,ZW _,fun _ _=>rfl⟩) (by omega) (by rw [ZY];omega) (by omega)).mono ?_;intro e w2 hS;rw [<-ZS X0] at hS;rcases hS with ⟨a,b,S9,c,m⟩ | ⟨a,b,S9,Yd,c,d1,d2,m⟩
  ·refine .inl ⟨a,b,S9,⟨?_,u1,u2,u3⟩,(m.undrew).mono hs5 (fun k e=>.inl e)⟩;unfold yJ;rw [<-ZS X0, <-ZS (X0++Y)];have e1:X0.length+(Y++aV st).length+18=(X0++Y++aV st).length+18:=by simp only [ZY];omega
   rw [e1];exact c
  ·exact .inr ⟨a,b,S9,Yd,c,d1,d2,(m.undrew).mono hs5 (fun k e=>.inl e)⟩
end
theorem vv (w:World) (Pg Cd:Nat) (n:Nat) (c1:w.cell? (zq Pg 1)=zp Cd) (cn:w.cell? (zq Cd 1)=(n:Int)) (hn:n<=1048576):
  QE 90 #[zp Pg] w ((1048576 - n:Nat):Int):=by
 have HQ:=ai (eE w Cd (n:Int) cn);go_enter func90,ntmps90
 go_wp2_with fail
 refine HQ.out.mono ?_;rintro e w1 ⟨rfl,rfl⟩;go_wp2;go_ret;exact ⟨bI (by omega),rfl⟩
theorem kG (w:World) (Fb n cap:Nat) (ad:Option Addr) (c2:w.cell? (zq Fb 2)=some (.slice ad n cap)) (hn:n<=1000000000):QE 80 #[zp Fb] w (n:Int):=by
 go_enter func80,ntmps80
 go_wp2;go_ret;exact ⟨rfl,rfl⟩
def bt (key:List UInt8) (n:Int):List UInt8:=if n=0 then [] else key++[32]++aD n++[32]
theorem dF (B:Nat) (w:World) (key:List UInt8) (n:Int) (hk:key.length<=100) (h0:-9223372036854775808<=n) (h1:n<=9223372036854775807) (ht:bU B w):
  QB 181 #[.string ⟨key.toArray⟩,n] w (.string ⟨(bt key n).toArray⟩):=by
 have hkz:=ae key;have HN:=ai (lB B w n h0 h1 ht);have hnl:=gJ n h0 h1;unfold bt;by_cases hn:n=0
 ·rw [ZN hn];subst hn;go_enter func181,ntmps181
  go_wp2;go_ret;exact ⟨rfl,ZT _ _⟩
 ·rw [ZO hn];obtain ⟨nb,hnb⟩:∃ nb,aD n=nb:=⟨_,rfl⟩;rw [hnb] at HN hnl ⊢;clear hnb;have hz:=ae nb;have hz2:=ae (key++[32]);have hz3:=ae (key++[32]++nb);simp only [ZY,ZX,ZR] at hz2 hz3;go_enter func181,ntmps181
  go_wp2_with fail
  refine HN.out.mono ?_;rintro e w1 ⟨rfl,hB⟩;go_wp2;go_ret;exact ⟨congrArg Ending.returned (aT (by simp)),hB⟩
theorem kh (w:World) (E:Nat) (first:Int) (ad:Option Addr) (n cap:Nat) (c0:w.cell? E=first) (c1:w.cell? (zq E 1)=some (.slice ad n cap)) (h0:0<=first) (h1:first<=1000000000) (hn:n<=1000000000):
  QD 173 #[zp E] w (first+(n:Int):Int):=by
 go_enter func173,ntmps173
 go_wp2;go_quiet (fail)
 go_wp2;go_ret;exact ⟨rfl,_,rfl⟩
theorem ki (w:World) (i:Nat) (hi:i<=1000000):QE 176 #[(i:Int)] w ((2*i+1:Nat):Int):=by
 go_enter func176,ntmps176
 go_wp2;go_ret;exact ⟨bI (by omega),rfl⟩
def gl (l:List (List UInt8)):List Value:=l.map fun s=>Value.string ⟨s.toArray⟩
theorem Tryz.infoStr:(Tryz.prog.info? 9).map (fun i=>(i.zero,i.size,i.bytes))=some (some (.string ⟨#[]⟩),1,16):=by kernel_rfl
def ED (B E:Nat) (first info cat:Int) (bodies:List (List UInt8)):As:=fun w S=>∃ vb,ah (aS B E [.int .i64 first,vb,.int .i64 info,.int .i64 cat]) (aW B 9 1 vb bodies.length (gl bodies)) w S
theorem ED.thing (B E:Nat) (first info cat:Int) (bodies:List (List UInt8)):aJ B (ED B E first info cat bodies) where
 keep:=by
  rintro w w' S ⟨vb,h⟩ hk hz;exact ⟨vb,(ah.thing (aS.thing _ _ _) (aW.thing _ _ _ _ _ _)).keep h hk hz⟩
 lt:=by
  rintro w S k ⟨vb,h⟩ hk;exact (ah.thing (aS.thing B _ _) (aW.thing _ _ _ _ _ _)).lt h hk
 ge:=by
  rintro w S k ⟨vb,h⟩ hk;exact (ah.thing (aS.thing B _ _) (aW.thing _ _ _ _ _ _)).ge h hk
theorem ED.grown {B E:Nat} {first info cat:Int} {bodies:List (List UInt8)} {w:World} {S:Bl} (h:ED B E first info cat bodies w S) (s:List UInt8):∃ vb,w.cell? E=first/\w.cell? (zq E 1)=some vb/\(∀ o,w.frozen? (zq E o)=false)/\E < w.heap.size/\w.ownsRow B 9 1 vb bodies.length (gl bodies)/\vb.ownBlock≠some E/\
  ∀ (w1:World),Below w w w1->∀ v' w',w1.grownBy w' vb.ownBlock->w'.ownsRow B 9 1 v' (bodies.length+1) (gl bodies++[.string ⟨s.toArray⟩])->(v'.ownBlock=vb.ownBlock\/v'.ownBlock=some w1.heap.size)->
   ∃ S',ED B E first info cat (bodies++[s]) (w'.setCell (zq E 1) v') S'/\Mv S w S' (w'.setCell (zq E 1) v'):=by
 obtain ⟨vb,h⟩:=h;obtain ⟨S1,S3,hc,hb,o1,rfl⟩:=id h;have e1:S1=cC E:=hc.1;have e3:S3=ob vb:=hb.1;refine ⟨vb,hc.at 0 _ rfl,hc.at 1 _ rfl,hc.fz,hc.2.2.1,hb.2,fun e=>o1 E (by rw [e1];rfl) (by rw [e3];exact e),?_⟩;intro w1 hg1 v' w' hg ho hat;have hT:=ah.thing (aS.thing B E [.int .i64 first,vb,.int .i64 info,.int .i64 cat]) (aW.thing B 9 1 vb bodies.length (gl bodies));have h1:=hT.grow h hg1;obtain ⟨Sb,hb1,_,k1⟩:=ah.snd (aS.thing B E _) h1;obtain ⟨hr,hm⟩:=aW.moved (n':=bodies.length+1) hg ho hat;have eb:Sb=ob vb:=hb1.1;subst eb;obtain ⟨S',hs',hm'⟩:=k1 (aW B 9 1 v' (bodies.length+1) (gl bodies++[.string ⟨s.toArray⟩])) w' _ hr hm;obtain ⟨Sc,hc1,_,k2⟩:=hs'.fst (aW.thing B _ _ _ _ _);obtain ⟨hc2,hm2⟩:=hc1.set 1 v' (by simp);obtain ⟨S'',hs'',hm''⟩:=k2 _ _ _ hc2 hm2;refine ⟨S'',⟨v',?_⟩,((Mv.grow hg1 _).trans hm').trans hm''⟩;have e:gl (bodies++[s])=gl bodies++[.string ⟨s.toArray⟩]:=by simp [gl]
 rw [e,ZY];exact hs''
theorem nB (w:World) (B E:Nat) (first info cat:Int) (bodies:List (List UInt8)) (S:Bl) (s:List UInt8) (h:ED B E first info cat bodies w S) (hB:B<=w.heap.size) (h0:0<=first) (h1:first<=1000000000) (hn:bodies.length<=1000000):
  CP 171 #[zp E,.string ⟨s.toArray⟩] w fun e w'=>e=.returned (first+(bodies.length:Int):Int)/\∃ S',ED B E first info cat (bodies++[s]) w' S'/\Mv S w S' w':=by
 obtain ⟨vb,c0,c1,fz,hE,ow,ne,kb⟩:=h.grown s;obtain ⟨ad,cap,hform⟩:∃ ad cap,vb=.slice ad bodies.length cap:=by
  rcases ow.2 with ⟨hu,hz⟩ | ⟨gg,cap,cur,hu,_⟩
  ·exact ⟨none,0,by rw [hu,hz]⟩
  ·exact ⟨_,_,hu⟩
 subst hform;have f1:=fz 1;have HK:=ai kb;have HN:=ai (kh w E first ad bodies.length cap c0 c1 h0 h1 (by omega));clear kb fz;obtain ⟨L,hL⟩:∃ L,bodies.length=L:=⟨_,rfl⟩;rw [hL] at c1 ow ne HK HN hn ⊢;clear hL;go_enter func171,ntmps171
 go_wp2_with fail
 refine HN.out.mono ?_;rintro e w0 ⟨rfl,qn,rfl⟩;go_wp2_with (at_builtin;refine bQ rfl (.tmp 12) (.tmp 14) 47 rfl 9 (.string ⟨#[]⟩) 1 16 Tryz.infoStr rfl (by omega) underlying47 B _ L (gl bodies) rfl (show ((w.drewN qn).alloc _).ownsRow B 9 1 (.slice ad L cap) L (gl bodies) from (show (w.drewN qn).ownsRow B 9 1 (.slice ad L cap) L (gl bodies) from ow).alloc _) (by simp;omega) ⟨w,0,none⟩ 1 rfl [.string ⟨s.toArray⟩] rfl (qk (w.drewN qn) _ _) (by intro u hu;simp at hu;subst hu;rfl) (by omega) (by omega) ?_)
 intro v7 w7 hO7 hg7 hat7;have HX:=ai (HK.out _ (below_drewN ((ZT _ (w.drewN qn)).alloc (ZW _) _)) v7 w7 hg7 hO7 (by simpa using hat7));have hform7:∃ ad L cap,v7=.slice ad L cap:=by
  rcases hO7.2 with ⟨hu,_⟩ | ⟨gg,cap,cur,hu,_⟩
  ·exact ⟨_,_,_,hu⟩
  ·exact ⟨_,_,_,hu⟩
 obtain ⟨ad7,L7,cap7,hv7⟩:=hform7;rw [hv7] at HX ⊢;clear hv7 HK;have kb:=(hg7.block E (by simp;omega) (fun e=>ne e.symm)).trans (Zf (w.drewN qn) _ E hE);have k1:=(ZQ (a:=zq E 1) kb).trans c1;have kf1:=(ZH (a:=zq E 1) kb).trans f1;clear kb c1 f1 ow hO7 hg7 hat7 HN;go_wp2;go_ret;exact ⟨rfl,HX.out⟩
theorem mK (w:World):QE 84 #[.nilIface] w (0:Int):=by
 go_enter func84,ntmps84
 go_wp2;go_ret;exact ⟨rfl,rfl⟩
theorem mY (w:World) (t:TypeId) (v:Value):QE 84 #[.iface t v] w (4:Int):=by
 go_enter func84,ntmps84
 go_wp2;go_ret;exact ⟨rfl,rfl⟩
theorem dW (w:World) (n:Int):QE 79 #[n] w (.bool (decide (1<=n/\n<=14400000))):=by
 by_cases h1:1<=n
 ·by_cases h2:n<=14400000
  ·go_enter func79,ntmps79
   go_wp2;go_ret;exact ⟨by simp [h1,h2],rfl⟩
  ·go_enter func79,ntmps79
   go_wp2;go_ret;refine ⟨?_,rfl⟩
   first
    | (simp [h2];done)
    | (simp;omega)
 ·go_enter func79,ntmps79
  go_wp2;go_ret;refine ⟨?_,rfl⟩
  first
   | (simp [h1];done)
   | (simp;omega)
theorem jc (w:World) (s:ByteArray) (hs:s.size<=9223372036854775807):QE 82 #[s] w (.bool (decide (s.size<=100))):=by
 by_cases h:s.size<=100
 ·have h':(s.size:Int)<=100:=by omega
  go_enter func82,ntmps82
  go_wp2;go_ret;refine ⟨?_,rfl⟩
  first
   | (simp [h];done)
   | (simp;omega)
 ·have h':¬ (s.size:Int)<=100:=by omega
  go_enter func82,ntmps82
  go_wp2;go_ret;refine ⟨?_,rfl⟩
  first
   | (simp [h];done)
   | (simp;omega)
theorem gK (w:World) (Wb Rb T:Nat) (c0:w.cell? Wb=zp Rb) (r0:w.cell? Rb=zp T) (t2:w.cell? (zq T 2)=false):QD 47 #[zp Wb] w (.tuple #[zp Rb,oz]):=by
 have HQ:=ai (x9 w T false t2);go_enter func47,ntmps47
 go_wp2_with fail
 refine HQ.out.mono ?_;rintro e w1 ⟨rfl,rfl⟩;go_wp2;go_ret2;exact ⟨rfl,0,rfl⟩
theorem ke (w:World) (Wb Rb T:Nat) (c0:w.cell? Wb=zp Rb) (r0:w.cell? Rb=zp T) (t2:w.cell? (zq T 2)=false) (r2:w.cell? (zq Rb 2)=some (.pointer none)):QD 77 #[zp Wb] w (.tuple #[.pointer none,(2:Int)]):=by
 have HQ:=ai (gK w Wb Rb T c0 r0 t2);go_enter func77,ntmps77
 go_wp2_with fail
 refine HQ.out.mono ?_;rintro e w1 ⟨rfl,qn,rfl⟩;go_wp2;go_ret2;exact ⟨rfl,_,rfl⟩
theorem lR (w:World) (Wb Rb T Pg:Nat) (n:Int) (c0:w.cell? Wb=zp Rb) (r0:w.cell? Rb=zp T) (t2:w.cell? (zq T 2)=false) (r2:w.cell? (zq Rb 2)=zp Pg) (r3:w.cell? (zq Rb 3)=n) (hn:0 < n):QD 77 #[zp Wb] w (.tuple #[.pointer none,(2:Int)]):=by
 have HQ:=ai (gK w Wb Rb T c0 r0 t2);go_enter func77,ntmps77
 go_wp2_with fail
 refine HQ.out.mono ?_;rintro e w1 ⟨rfl,qn,rfl⟩;go_wp2;go_ret2;exact ⟨rfl,_,rfl⟩
theorem qp (w:World) (Wb Rb T Pg:Nat) (c0:w.cell? Wb=zp Rb) (r0:w.cell? Rb=zp T) (t2:w.cell? (zq T 2)=false) (r2:w.cell? (zq Rb 2)=zp Pg) (r3:w.cell? (zq Rb 3)=(0:Int)):QD 77 #[zp Wb] w (.tuple #[zp Rb,oz]):=by
 have HQ:=ai (gK w Wb Rb T c0 r0 t2);go_enter func77,ntmps77
 go_wp2_with fail
 refine HQ.out.mono ?_;rintro e w1 ⟨rfl,qn,rfl⟩;go_wp2;go_ret2;exact ⟨rfl,_,rfl⟩
section
variable {K D:World->Bl->List UInt8->Prop} {ok:List UInt8->Prop} {B M:Nat} {ty:TypeId} {q q':Value} {f:FuncId} {et:TypeId} {ev:Value}
def de (B Rb T Fb:Nat) (page:Value) (lack:Int) (title:ByteArray) (n:Nat) (ms:List Value):As:=fun w S=>∃ vm,ah (aS B Rb [.pointer (some ⟨T,0,none⟩),.pointer (some ⟨Fb,0,none⟩),page,.int .i64 lack,.string title,vm]) (aW B 98 2 vm n ms) w S
theorem de.thing (B Rb T Fb:Nat) (page:Value) (lack:Int) (title:ByteArray) (n:Nat) (ms:List Value):aJ B (de B Rb T Fb page lack title n ms) where
 keep:=by
  rintro w w' S ⟨vm,h⟩ hk hz;exact ⟨vm,(ah.thing (aS.thing _ _ _) (aW.thing _ _ _ _ _ _)).keep h hk hz⟩
 lt:=by
  rintro w S k ⟨vm,h⟩ hk;exact (ah.thing (aS.thing B _ _) (aW.thing _ _ _ _ _ _)).lt h hk
 ge:=by
  rintro w S k ⟨vm,h⟩ hk;exact (ah.thing (aS.thing B _ _) (aW.thing _ _ _ _ _ _)).ge h hk
theorem de.page {B Rb T Fb:Nat} {page:Value} {lack:Int} {title:ByteArray} {n:Nat} {ms:List Value} {w:World} {S:Bl} (h:de B Rb T Fb page lack title n ms w S) (p:Value):∃ S',de B Rb T Fb p lack title n ms (w.setCell (zq Rb 2) p) S'/\Mv S w S' (w.setCell (zq Rb 2) p):=by
 obtain ⟨vm,h⟩:=h;obtain ⟨S1,hc,_,k⟩:=h.fst (aW.thing B _ _ _ _ _);obtain ⟨hc2,hm2⟩:=hc.set 2 p (by simp);obtain ⟨S2,a,b⟩:=k _ _ _ hc2 hm2;exact ⟨S2,⟨vm,a⟩,b⟩
theorem de.read {B Rb T Fb:Nat} {page:Value} {lack:Int} {title:ByteArray} {n:Nat} {ms:List Value} {w:World} {S:Bl} (h:de B Rb T Fb page lack title n ms w S):w.cell? Rb=zp T/\w.cell? (zq Rb 1)=zp Fb/\w.cell? (zq Rb 2)=some page/\w.cell? (zq Rb 3)=lack/\w.cell? (zq Rb 4)=title/\(∀ o,w.frozen? (zq Rb o)=false)/\Rb < w.heap.size:=by
 obtain ⟨vm,S1,S2,hc,_⟩:=h;exact ⟨hc.at 0 _ rfl,hc.at 1 _ rfl,hc.at 2 _ rfl,hc.at 3 _ rfl,hc.at 4 _ rfl,hc.fz,hc.2.2.1⟩
theorem oB (w:World) (Rb Fb:Nat) (W H:Int) (G1:World->Nat->Prop) (G2:World->Prop) (Z:Ending->World->Prop) (r1:w.cell? (zq Rb 1)=zp Fb)
  (HB:Hid (CP 125 #[zp Fb,W,H] w fun e w'=>(∃ Pg,e=.returned (.tuple #[zp Pg,.nilIface])/\G1 w' Pg)\/(e=.returned (.tuple #[.pointer none,.iface et ev])/\G2 w')))
  (H1:Hid (∀ w1 Pg,G1 w1 Pg->w1.cell? (zq Rb 2)=some (.pointer none)/\w1.frozen? (zq Rb 2)=false/\Z (.returned (0:Int)) (w1.setCell (zq Rb 2) (zp Pg))))
  (H2:Hid (∀ w1,G2 w1->w1.cell? (zq Rb 2)=some (.pointer none)/\w1.frozen? (zq Rb 2)=false/\Z (.returned (4:Int)) (w1.setCell (zq Rb 2) (.pointer none)))):
  CP 81 #[zp Rb,W,H] w Z:=by
 go_enter func81,ntmps81
 go_wp2_with fail
 refine HB.out.mono ?_;rintro e w1 (⟨Pg,rfl,h1⟩ | ⟨rfl,h2⟩)
 ·obtain ⟨c2,f2,hz⟩:=H1.out w1 Pg h1;clear HB H1 H2;go_wp2
  first
   | exact hz
   | (go_ret;exact hz)
 ·obtain ⟨c2,f2,hz⟩:=H2.out w1 h2;clear HB H1 H2;go_wp2
  first
   | exact hz
   | (go_ret;exact hz)
end
section
variable {et:TypeId} {ev:Value}
theorem iq (w:World) (Rb Pg:Nat) (G1 G2:World->Prop) (Z:Ending->World->Prop) (r2:w.cell? (zq Rb 2)=zp Pg)
  (HB:Hid (CP 124 #[zp Pg] w fun e w'=>(e=.returned .nilIface/\G1 w')\/(e=.returned (.iface et ev)/\G2 w')))
  (H1:Hid (∀ w1,G1 w1->w1.cell? (zq Rb 2)=some (.pointer (some ⟨Pg,0,none⟩))/\w1.frozen? (zq Rb 2)=false/\Z (.returned (0:Int)) (w1.setCell (zq Rb 2) (.pointer none))))
  (H2:Hid (∀ w1,G2 w1->w1.cell? (zq Rb 2)=some (.pointer (some ⟨Pg,0,none⟩))/\w1.frozen? (zq Rb 2)=false/\Z (.returned (4:Int)) (w1.setCell (zq Rb 2) (.pointer none)))):
  CP 78 #[zp Rb] w Z:=by
 go_enter func78,ntmps78
 go_wp2_with fail
 refine HB.out.mono ?_;rintro e w1 (⟨rfl,h1⟩ | ⟨rfl,h2⟩)
 ·obtain ⟨c2,f2,hz⟩:=H1.out w1 h1;clear HB H1 H2;go_wp2
  first
   | exact hz
   | (go_ret;exact hz)
 ·obtain ⟨c2,f2,hz⟩:=H2.out w1 h2;clear HB H1 H2;go_wp2
  first
   | exact hz
   | (go_ret;exact hz)
theorem mB (w:World) (Wp:Value) (n:Int) (hn:¬ n=0) (HR:Hid (QD 77 #[Wp] w (.tuple #[.pointer none,n]))):
  QD 33 #[Wp] w n:=by
 go_enter func33,ntmps33
 go_wp2_with fail
 refine HR.out.mono ?_;rintro e w1 ⟨rfl,qn,rfl⟩;go_wp2;go_ret;exact ⟨rfl,_,rfl⟩
theorem jW (w:World) (Wp:Value) (Rb:Nat) (Z:Ending->World->Prop) (HR:Hid (QD 77 #[Wp] w (.tuple #[zp Rb,oz])))
  (HE:Hid (∀ qn,CP 78 #[zp Rb] (w.drewN qn) fun e w'=>∃ v,e=.returned v/\Z (.returned v) w')):
  CP 33 #[Wp] w Z:=by
 go_enter func33,ntmps33
 go_wp2_with fail
 refine HR.out.mono ?_;rintro e w1 ⟨rfl,qn,rfl⟩;have HX:=ai (HE.out qn);clear HE HR;go_wp2_with fail
 refine HX.out.mono ?_;rintro e w2 ⟨v,rfl,hZ⟩;go_wp2
 first
  | exact hZ
  | (go_ret;exact hZ)
theorem pC (w:World) (Wp:Value) (Rb:Nat) (r1:w.cell? (zq Rb 1)=some (.pointer none)) (HR:Hid (QD 47 #[Wp] w (.tuple #[zp Rb,oz]))):
  QD 38 #[Wp] w (2:Int):=by
 go_enter func38,ntmps38
 go_wp2_with fail
 refine HR.out.mono ?_;rintro e w1 ⟨rfl,qn,rfl⟩;go_wp2;go_ret;exact ⟨rfl,_,rfl⟩
theorem jD (w:World) (Wp:Value) (Rb Fb:Nat) (Z:Ending->World->Prop) (r1:w.cell? (zq Rb 1)=zp Fb) (HR:Hid (QD 47 #[Wp] w (.tuple #[zp Rb,oz])))
  (HE:Hid (∀ qn,CP 85 #[zp Fb] (w.drewN qn) fun e w'=>(e=.returned .nilIface/\Z (.returned (0:Int)) w')\/(e=.returned (.iface et ev)/\Z (.returned (4:Int)) w'))):
  CP 38 #[Wp] w Z:=by
 go_enter func38,ntmps38
 go_wp2_with fail
 refine HR.out.mono ?_;rintro e w1 ⟨rfl,qn,rfl⟩;have HX:=ai (HE.out qn);clear HE HR;go_wp2_with fail
 refine HX.out.mono ?_;rintro e w2 (⟨rfl,hz⟩ | ⟨rfl,hz⟩)
 ·go_wp2
  first
   | exact hz
   | (go_ret;exact hz)
 ·go_wp2
  first
   | exact hz
   | (go_ret;exact hz)
end
theorem Db (w:World) (Wp:Value) (Rb:Nat) (W H:Int) (Pg:Nat) (r2:w.cell? (zq Rb 2)=zp Pg) (HR:Hid (QD 47 #[Wp] w (.tuple #[zp Rb,oz]))):
  QD 34 #[Wp,W,H] w (2:Int):=by
 go_enter func34,ntmps34
 go_wp2_with fail
 refine HR.out.mono ?_;rintro e w1 ⟨rfl,qn,rfl⟩;go_wp2;go_ret;exact ⟨rfl,_,rfl⟩
theorem sa (w:World) (Wp:Value) (Rb:Nat) (W H:Int) (r1:w.cell? (zq Rb 1)=some (.pointer none)) (r2:w.cell? (zq Rb 2)=some (.pointer none)) (HR:Hid (QD 47 #[Wp] w (.tuple #[zp Rb,oz]))):
  QD 34 #[Wp,W,H] w (2:Int):=by
 go_enter func34,ntmps34
 go_wp2_with fail
 refine HR.out.mono ?_;rintro e w1 ⟨rfl,qn,rfl⟩;go_wp2;go_ret;exact ⟨rfl,_,rfl⟩
theorem wQ (w:World) (Wp:Value) (Rb:Nat) (W H:Int) (Fb:Nat) (r1:w.cell? (zq Rb 1)=zp Fb) (r2:w.cell? (zq Rb 2)=some (.pointer none)) (hW:decide (1<=W/\W<=14400000)=false) (HR:Hid (QD 47 #[Wp] w (.tuple #[zp Rb,oz]))):
  QD 34 #[Wp,W,H] w (1:Int):=by
 go_enter func34,ntmps34
 go_wp2_with fail
 refine HR.out.mono ?_;rintro e w1 ⟨rfl,qn,rfl⟩;go_wp2_with fail
 refine (dW _ W).mono ?_;rintro e w1 ⟨rfl,rfl⟩;rw [hW];go_wp2;go_ret;exact ⟨rfl,_,rfl⟩
theorem wl (w:World) (Wp:Value) (Rb:Nat) (W H:Int) (Fb:Nat) (r1:w.cell? (zq Rb 1)=zp Fb) (r2:w.cell? (zq Rb 2)=some (.pointer none)) (hW:decide (1<=W/\W<=14400000)=true) (hH:decide (1<=H/\H<=14400000)=false) (HR:Hid (QD 47 #[Wp] w (.tuple #[zp Rb,oz]))):
  QD 34 #[Wp,W,H] w (1:Int):=by
 go_enter func34,ntmps34
 go_wp2_with fail
 refine HR.out.mono ?_;rintro e w1 ⟨rfl,qn,rfl⟩;go_wp2_with fail
 refine (dW _ W).mono ?_;rintro e w1 ⟨rfl,rfl⟩;rw [hW];go_wp2_with fail
 refine (dW _ H).mono ?_;rintro e w1 ⟨rfl,rfl⟩;rw [hH];go_wp2;go_ret;exact ⟨rfl,_,rfl⟩
theorem sY (w:World) (Wp:Value) (Rb:Nat) (W H:Int) (Fb:Nat) (r1:w.cell? (zq Rb 1)=zp Fb) (r2:w.cell? (zq Rb 2)=some (.pointer none)) (n cap:Nat) (ad:Option Addr) (z2:w.cell? (zq Fb 2)=some (.slice ad n cap)) (hn:80<=n) (hn2:n<=1000) (hW:decide (1<=W/\W<=14400000)=true) (hH:decide (1<=H/\H<=14400000)=true) (HR:Hid (QD 47 #[Wp] w (.tuple #[zp Rb,oz]))):
  QD 34 #[Wp,W,H] w (3:Int):=by
 go_enter func34,ntmps34
 go_wp2_with fail
 refine HR.out.mono ?_;rintro e w1 ⟨rfl,qn,rfl⟩;go_wp2_with fail
 refine (dW _ W).mono ?_;rintro e w1 ⟨rfl,rfl⟩;rw [hW];go_wp2_with fail
 refine (dW _ H).mono ?_;rintro e w1 ⟨rfl,rfl⟩;rw [hH];go_wp2_with fail
 refine (kG (w.drewN qn) Fb n cap ad z2 (by omega)).mono ?_;rintro e w1 ⟨rfl,rfl⟩;go_wp2;go_ret;exact ⟨rfl,_,rfl⟩
theorem z' (w:World) (Wp:Value) (Rb:Nat) (W H:Int) (Fb:Nat) (r1:w.cell? (zq Rb 1)=zp Fb) (r2:w.cell? (zq Rb 2)=some (.pointer none)) (n cap:Nat) (ad:Option Addr) (z2:w.cell? (zq Fb 2)=some (.slice ad n cap)) (hn:n < 80) (hW:decide (1<=W/\W<=14400000)=true) (hH:decide (1<=H/\H<=14400000)=true) (Z:Ending->World->Prop) (HR:Hid (QD 47 #[Wp] w (.tuple #[zp Rb,oz])))
  (HE:Hid (∀ qn,CP 81 #[zp Rb,W,H] (w.drewN qn) fun e w'=>∃ v,e=.returned v/\Z (.returned v) w')):
  CP 34 #[Wp,W,H] w Z:=by
 go_enter func34,ntmps34
 go_wp2_with fail
 refine HR.out.mono ?_;rintro e w1 ⟨rfl,qn,rfl⟩;have HX:=ai (HE.out qn);clear HE HR;go_wp2_with fail
 refine (dW _ W).mono ?_;rintro e w1 ⟨rfl,rfl⟩;rw [hW];go_wp2_with fail
 refine (dW _ H).mono ?_;rintro e w1 ⟨rfl,rfl⟩;rw [hH];go_wp2_with fail
 refine (kG (w.drewN qn) Fb n cap ad z2 (by omega)).mono ?_;rintro e w1 ⟨rfl,rfl⟩;go_wp2_with fail
 refine HX.out.mono ?_;rintro e w2 ⟨v,rfl,hZ⟩;go_wp2
 first
  | exact hZ
  | (go_ret;exact hZ)
theorem qv (w:World) (s:ByteArray) (hs:s.size<=281474976710656):QB 83 #[s] w s:=by
 have HX:=ai (Tryz.stringslite_Clone s w hs);go_enter func83,ntmps83
 go_wp2_with fail
 refine HX.out.mono ?_;rintro e w1 ⟨rfl,hB⟩;go_wp2;go_ret;exact ⟨rfl,hB⟩
section
variable {Wp:Value} {Rb:Nat}
theorem pq (w:World) (s:ByteArray) (r1:w.cell? (zq Rb 1)=some (.pointer none)) (HR:Hid (QD 47 #[Wp] w (.tuple #[zp Rb,oz]))):
  QD 36 #[Wp,s] w (2:Int):=by
 go_enter func36,ntmps36
 go_wp2_with fail
 refine HR.out.mono ?_;rintro e w1 ⟨rfl,qn,rfl⟩;go_wp2;go_ret;exact ⟨rfl,_,rfl⟩
theorem wP (w:World) (s:ByteArray) (Fb:Nat) (hs:s.size<=9223372036854775807) (h1:decide (s.size<=100)=false) (r1:w.cell? (zq Rb 1)=zp Fb) (HR:Hid (QD 47 #[Wp] w (.tuple #[zp Rb,oz]))):
  QD 36 #[Wp,s] w (1:Int):=by
 go_enter func36,ntmps36
 go_wp2_with fail
 refine HR.out.mono ?_;rintro e w1 ⟨rfl,qn,rfl⟩;go_wp2_with fail
 refine (jc _ s hs).mono ?_;rintro e w1 ⟨rfl,rfl⟩;rw [h1];go_wp2;go_ret;exact ⟨rfl,_,rfl⟩
theorem xH (w:World) (s:ByteArray) (Fb:Nat) (old:ByteArray) (h1:decide (s.size<=100)=true) (r1:w.cell? (zq Rb 1)=zp Fb) (r4:w.cell? (zq Rb 4)=old) (f4:w.frozen? (zq Rb 4)=false) (hRb:Rb < w.heap.size) (HR:Hid (QD 47 #[Wp] w (.tuple #[zp Rb,oz]))):
  CP 36 #[Wp,s] w fun e w'=>e=.returned (0:Int)/\∃ w1,Below w w w1/\w'=w1.setCell (zq Rb 4) s:=by
 have hs:s.size<=100:=by simpa using h1
 go_enter func36,ntmps36
 go_wp2_with fail
 refine HR.out.mono ?_;rintro e w1 ⟨rfl,qn,rfl⟩;go_wp2_with fail
 refine (jc _ s (by omega)).mono ?_;rintro e w1 ⟨rfl,rfl⟩;rw [h1];go_wp2_with fail
 refine (qv (w.drewN qn) s (by omega)).mono ?_;rintro e w2 ⟨rfl,hB⟩;have k4:=(hB.cell (p:=zq Rb 4) hRb).trans r4;have kf4:=(hB.frozen (p:=zq Rb 4) hRb).trans f4;go_wp2;go_ret;exact ⟨rfl,w2,below_drewN hB,rfl⟩
end
theorem pY (w:World) (E:Nat) (n info cat:Int) (i1 e1 e2:List UInt8) (l1:i1.length<=30) (l2:e1.length<=200) (l3:e2.length<=200) (hE:E < w.heap.size) (c2:w.cell? (zq E 2)=info) (c3:w.cell? (zq E 3)=cat)
  (H1:Hid (∀ wx,af w wx->QB 120 #[n] wx (.string ⟨i1.toArray⟩)))
  (H2:Hid (∀ wx,af w wx->QB 181 #[.string ⟨#[47,82,111,111,116]⟩,cat] wx (.string ⟨e1.toArray⟩)))
  (H3:Hid (∀ wx,af w wx->QB 181 #[.string ⟨#[47,73,110,102,111]⟩,info] wx (.string ⟨e2.toArray⟩))):
  QB 141 #[zp E,n] w (.string ⟨([116,114,97,105,108,101,114,10,60,60,32,47,83,105,122,101,32]++i1++[32]++e1++e2++[62,62,10]).toArray⟩):=by
 have zi1:=ae i1;have ze1:=ae e1;have ze2:=ae e2;obtain ⟨s2,hs2⟩:∃ x,([116,114,97,105,108,101,114,10,60,60,32,47,83,105,122,101,32]:List UInt8)++i1=x:=⟨_,rfl⟩;have zs2:=ae s2;have ls2:s2.length=(([116,114,97,105,108,101,114,10,60,60,32,47,83,105,122,101,32]:List UInt8)).length+(i1).length:=by rw [<-hs2,ZY]
 (try simp only [ZX,ZR] at ls2)
 have Es2:=ai hs2;obtain ⟨s3,hs3⟩:∃ x,s2++([32]:List UInt8)=x:=⟨_,rfl⟩;have zs3:=ae s3;have ls3:s3.length=(s2).length+(([32]:List UInt8)).length:=by rw [<-hs3,ZY]
 (try simp only [ZX,ZR] at ls3)
 have Es3:=ai hs3;obtain ⟨s9,hs9⟩:∃ x,s3++e1=x:=⟨_,rfl⟩;have zs9:=ae s9;have ls9:s9.length=(s3).length+(e1).length:=by rw [<-hs9,ZY]
 (try simp only [ZX,ZR] at ls9)
 have Es9:=ai hs9;obtain ⟨s15,hs15⟩:∃ x,s9++e2=x:=⟨_,rfl⟩;have zs15:=ae s15;have ls15:s15.length=(s9).length+(e2).length:=by rw [<-hs15,ZY]
 (try simp only [ZX,ZR] at ls15)
 have Es15:=ai hs15;obtain ⟨s16,hs16⟩:∃ x,s15++([62,62,10]:List UInt8)=x:=⟨_,rfl⟩;have zs16:=ae s16;have ls16:s16.length=(s15).length+(([62,62,10]:List UInt8)).length:=by rw [<-hs16,ZY]
 (try simp only [ZX,ZR] at ls16)
 have Es16:=ai hs16;have HE:Hid ([116,114,97,105,108,101,114,10,60,60,32,47,83,105,122,101,32]++i1++[32]++e1++e2++[62,62,10]=s16):=by
  show _=_
  rw [hs2,hs3,hs9,hs15,hs16]
 rw [HE.out];clear hs2 hs3 hs9 hs15 hs16;go_enter func141,ntmps141
 go_wp2;refine ap 17 22 (ag [n,.string ⟨(i1).toArray⟩,.string ⟨(s2).toArray⟩,.string ⟨(s3).toArray⟩,zp E,zp E,zq E 3,cat,.string ⟨(e1).toArray⟩,.string ⟨(s9).toArray⟩,zp E,zp E,zq E 2,info,.string ⟨(e2).toArray⟩,.string ⟨(s15).toArray⟩,.string ⟨(s16).toArray⟩]) (by kernel_rfl) rfl (by kernel_rfl) aq ?_;simp only [TD];refine ⟨fun w1 hG hd=>?_,fun v0=>?_⟩
 ·go_wp2;exact RG
 refine ⟨fun w1 hG hd=>?_,fun v1=>?_⟩
 ·have d0:=hd ⟨0,.data⟩ (by simp) rfl;clear hd;simp [ag] at d0;subst d0;have HX:=ai (H1.out w1 hG);go_wp2_with fail
  refine HX.out.mono ?_;rintro e w2 ⟨rfl,hB2⟩;go_wp2;exact ⟨rfl,hB2⟩
 refine ⟨fun w1 hG hd=>?_,fun v2=>?_⟩
 ·have d1:=hd ⟨1,.data⟩ (by simp) rfl;clear hd;simp [ag] at d1;subst d1;go_wp2;exact ⟨by unfold ag;rw [show ([.int .i64 n,.string ⟨(i1).toArray⟩,.string ⟨(s2).toArray⟩,.string ⟨(s3).toArray⟩,.pointer (some ⟨E,0,none⟩),.pointer (some ⟨E,0,none⟩),.pointer (some ⟨E,3,none⟩),.int .i64 cat,.string ⟨(e1).toArray⟩,.string ⟨(s9).toArray⟩,.pointer (some ⟨E,0,none⟩),.pointer (some ⟨E,0,none⟩),.pointer (some ⟨E,2,none⟩),.int .i64 info,.string ⟨(e2).toArray⟩,.string ⟨(s15).toArray⟩,.string ⟨(s16).toArray⟩]:List Value).getD 2 undef=Value.string ⟨s2.toArray⟩ from rfl, <-Es2.out];exact congrArg Value.string (an (([116,114,97,105,108,101,114,10,60,60,32,47,83,105,122,101,32]:List UInt8)) (i1)),af.refl _⟩
 refine ⟨fun w1 hG hd=>?_,fun v3=>?_⟩
 ·have d2:=hd ⟨2,.data⟩ (by simp) rfl;clear hd;simp [ag] at d2;subst d2;go_wp2;exact ⟨by unfold ag;rw [show ([.int .i64 n,.string ⟨(i1).toArray⟩,.string ⟨(s2).toArray⟩,.string ⟨(s3).toArray⟩,.pointer (some ⟨E,0,none⟩),.pointer (some ⟨E,0,none⟩),.pointer (some ⟨E,3,none⟩),.int .i64 cat,.string ⟨(e1).toArray⟩,.string ⟨(s9).toArray⟩,.pointer (some ⟨E,0,none⟩),.pointer (some ⟨E,0,none⟩),.pointer (some ⟨E,2,none⟩),.int .i64 info,.string ⟨(e2).toArray⟩,.string ⟨(s15).toArray⟩,.string ⟨(s16).toArray⟩]:List Value).getD 3 undef=Value.string ⟨s3.toArray⟩ from rfl, <-Es3.out];exact congrArg Value.string (an (s2) (([32]:List UInt8))),af.refl _⟩
 refine ⟨fun w1 hG hd=>?_,fun v4=>?_⟩
 ·go_wp2;exact RG
 refine ⟨fun w1 hG hd=>?_,fun v5=>?_⟩
 ·have d4:=hd ⟨4,.data⟩ (by simp) rfl;clear hd;simp [ag] at d4;subst d4;go_wp2;exact RG
 refine ⟨fun w1 hG hd=>?_,fun v6=>?_⟩
 ·have d5:=hd ⟨5,.data⟩ (by simp) rfl;clear hd;simp [ag] at d5;subst d5;go_wp2;exact RG
 refine ⟨fun w1 hG hd=>?_,fun v7=>?_⟩
 ·have d6:=hd ⟨6,.data⟩ (by simp) rfl;clear hd;simp [ag] at d6;subst d6;have c:=(Zc hG (p:=zq E 3) hE).trans c3;go_wp2;exact RG
 refine ⟨fun w1 hG hd=>?_,fun v8=>?_⟩
 ·have d7:=hd ⟨7,.data⟩ (by simp) rfl;clear hd;simp [ag] at d7;subst d7;have HX:=ai (H2.out w1 hG);go_wp2_with fail
  refine HX.out.mono ?_;rintro e w2 ⟨rfl,hB2⟩;go_wp2;exact ⟨rfl,hB2⟩
 refine ⟨fun w1 hG hd=>?_,fun v9=>?_⟩
 ·have d3:=hd ⟨3,.data⟩ (by simp) rfl;have d8:=hd ⟨8,.data⟩ (by simp) rfl;clear hd;simp [ag] at d3 d8;subst d3 d8;go_wp2;exact ⟨by unfold ag;rw [show ([.int .i64 n,.string ⟨(i1).toArray⟩,.string ⟨(s2).toArray⟩,.string ⟨(s3).toArray⟩,.pointer (some ⟨E,0,none⟩),.pointer (some ⟨E,0,none⟩),.pointer (some ⟨E,3,none⟩),.int .i64 cat,.string ⟨(e1).toArray⟩,.string ⟨(s9).toArray⟩,.pointer (some ⟨E,0,none⟩),.pointer (some ⟨E,0,none⟩),.pointer (some ⟨E,2,none⟩),.int .i64 info,.string ⟨(e2).toArray⟩,.string ⟨(s15).toArray⟩,.string ⟨(s16).toArray⟩]:List Value).getD 9 undef=Value.string ⟨s9.toArray⟩ from rfl, <-Es9.out];exact congrArg Value.string (an (s3) (e1)),af.refl _⟩
 refine ⟨fun w1 hG hd=>?_,fun v10=>?_⟩
 ·go_wp2;exact RG
 refine ⟨fun w1 hG hd=>?_,fun v11=>?_⟩
 ·have d10:=hd ⟨10,.data⟩ (by simp) rfl;clear hd;simp [ag] at d10;subst d10;go_wp2;exact RG
 refine ⟨fun w1 hG hd=>?_,fun v12=>?_⟩
 ·have d11:=hd ⟨11,.data⟩ (by simp) rfl;clear hd;simp [ag] at d11;subst d11;go_wp2;exact RG
 refine ⟨fun w1 hG hd=>?_,fun v13=>?_⟩
 ·have d12:=hd ⟨12,.data⟩ (by simp) rfl;clear hd;simp [ag] at d12;subst d12;have c:=(Zc hG (p:=zq E 2) hE).trans c2;go_wp2;exact RG
 refine ⟨fun w1 hG hd=>?_,fun v14=>?_⟩
 ·have d13:=hd ⟨13,.data⟩ (by simp) rfl;clear hd;simp [ag] at d13;subst d13;have HX:=ai (H3.out w1 hG);go_wp2_with fail
  refine HX.out.mono ?_;rintro e w2 ⟨rfl,hB2⟩;go_wp2;exact ⟨rfl,hB2⟩
 refine ⟨fun w1 hG hd=>?_,fun v15=>?_⟩
 ·have d9:=hd ⟨9,.data⟩ (by simp) rfl;have d14:=hd ⟨14,.data⟩ (by simp) rfl;clear hd;simp [ag] at d9 d14;subst d9 d14;go_wp2;exact ⟨by unfold ag;rw [show ([.int .i64 n,.string ⟨(i1).toArray⟩,.string ⟨(s2).toArray⟩,.string ⟨(s3).toArray⟩,.pointer (some ⟨E,0,none⟩),.pointer (some ⟨E,0,none⟩),.pointer (some ⟨E,3,none⟩),.int .i64 cat,.string ⟨(e1).toArray⟩,.string ⟨(s9).toArray⟩,.pointer (some ⟨E,0,none⟩),.pointer (some ⟨E,0,none⟩),.pointer (some ⟨E,2,none⟩),.int .i64 info,.string ⟨(e2).toArray⟩,.string ⟨(s15).toArray⟩,.string ⟨(s16).toArray⟩]:List Value).getD 15 undef=Value.string ⟨s15.toArray⟩ from rfl, <-Es15.out];exact congrArg Value.string (an (s9) (e2)),af.refl _⟩
 refine ⟨fun w1 hG hd=>?_,fun v16=>?_⟩
 ·have d15:=hd ⟨15,.data⟩ (by simp) rfl;clear hd;simp [ag] at d15;subst d15;go_wp2;exact ⟨by unfold ag;rw [show ([.int .i64 n,.string ⟨(i1).toArray⟩,.string ⟨(s2).toArray⟩,.string ⟨(s3).toArray⟩,.pointer (some ⟨E,0,none⟩),.pointer (some ⟨E,0,none⟩),.pointer (some ⟨E,3,none⟩),.int .i64 cat,.string ⟨(e1).toArray⟩,.string ⟨(s9).toArray⟩,.pointer (some ⟨E,0,none⟩),.pointer (some ⟨E,0,none⟩),.pointer (some ⟨E,2,none⟩),.int .i64 info,.string ⟨(e2).toArray⟩,.string ⟨(s15).toArray⟩,.string ⟨(s16).toArray⟩]:List Value).getD 16 undef=Value.string ⟨s16.toArray⟩ from rfl, <-Es16.out];exact congrArg Value.string (an (s15) (([62,62,10]:List UInt8))),af.refl _⟩
 intro w1 hG hd;have da:=hd 16 (by omega);simp [ag] at da;subst da;have HG:=ai hG;clear hd hG H1 H2 H3;go_wp2;go_ret;exact ⟨rfl,HG.out⟩
end Go.Proofs.YtbklfkpjoinofaaGreatDoor
