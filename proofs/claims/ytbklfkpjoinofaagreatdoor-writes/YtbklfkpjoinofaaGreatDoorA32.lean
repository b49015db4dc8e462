import Derived.Test.YtbklfkpjoinofaaGreatDoorA31
set_option linter.all false
set_option maxRecDepth 100000
set_option maxHeartbeats 8000000
namespace Go.Proofs.YtbklfkpjoinofaaGreatDoor
open Go.RowKit Go.Proofs.Tryz
theorem tu (w:World) (B r c first o m N:Nat) (s:ByteArray) (Pn:Nat->Nat) (tt:Nat->ByteArray) (ms:Nat->List Value) (im:List UInt8) (G1:World->Prop) (J:Nat->Nat->World->Prop) (I:Nat->World->Prop) (Z:Ending->World->Prop) (hf:first<=100000) (ho:o<=100000) (hm0:1<=m) (hm1:m<=20) (hN:N<=1000) (him:im.length<=30) (hP0:Pn 0=0) (hPn:∀ i,i < m->Pn i<=Pn (i+1)/\Pn (i+1) < N) (htt:∀ i,i < m->1<=(tt i).size/\(tt i).size<=100)
  (H1:Hid (CP 115 #[zp r,.string ⟨#[60,60,32,47,84,121,112,101,32,47,79,117,116,108,105,110,101,115]⟩] w fun e w'=>e=.returned true/\G1 w'))
  (q0 qa qb qc:Nat)
  (H2:Hid (∀ w1,G1 w1->CP 117 #[zp r] w1 fun e w'=>e=.returned (o:Int)/\J 0 q0 w'))
  (F:Hid (∀ j q w1,J j q w1->w1.cell? r=some (.pointer (some ⟨c,0,none⟩))/\r < w1.heap.size/\w1.cell? (zq c 2)=some (.bool false)/\∃ ad cap,w1.cell? (zq r 2)=some (.slice ad N cap)))
  (FI:Hid (∀ i w1,I i w1->w1.cell? r=some (.pointer (some ⟨c,0,none⟩))/\w1.cell? (zq c 2)=some (.bool false)))
  (E:Hid (∀ j q w1 t,J j q w1->∀ w2,Below w1 w1 w2->au s q t->CP 114 #[zp c,.string ⟨t.toArray⟩] w2 fun e w'=>e=.returned (.tuple #[])/\J j (q+t.length) w'))
  (HR:Hid (∀ j q w1,J j q w1->∀ n:Nat,n<=1000000->∀ w2,Below w1 w1 w2->QB 74 #[(n:Int)] w2 (.string ⟨(aD (n:Int)).toArray⟩)))
  (HI:Hid (∀ j q w1,J j q w1->∀ w2,Below w1 w1 w2->QB 120 #[(m:Int)] w2 (.string ⟨im.toArray⟩)))
  (GA:Hid (au s q0 ([60,60,32,47,84,121,112,101,32,47,79,117,116,108,105,110,101,115,32,47,70,105,114,115,116,32]++aD ((o+1:Nat):Int)++[32,47,76,97,115,116,32])/\q0+([60,60,32,47,84,121,112,101,32,47,79,117,116,108,105,110,101,115,32,47,70,105,114,115,116,32]++aD ((o+1:Nat):Int)++[32,47,76,97,115,116,32]:List UInt8).length=qa))
  (HD0:Hid (∀ w1,J 0 qa w1->CP 121 #[zp c] w1 fun e w'=>e=.returned ((o+m:Nat):Int)/\J 0 qb w'))
  (GB:Hid (au s qb ([32,48,32,82,32,47,67,111,117,110,116,32]++im++[32,62,62,10,101,110,100,111,98,106,10])/\qb+([32,48,32,82,32,47,67,111,117,110,116,32]++im++[32,62,62,10,101,110,100,111,98,106,10]:List UInt8).length=qc))
  (HI0:Hid (∀ w1,J 0 qc w1->I 0 w1))
  (p1 p2 p3 p4 p5 p6 p7 p8 p9:Nat->Nat)
  (HO:Hid (∀ i w1,i < m->I i w1->∃ n,CP 117 #[zp r] w1 fun e w'=>e=.returned (.int .i64 n)/\J (i+1) (p1 i) w'))
  (g1:Hid (∀ i,i < m->au s (p1 i) ([60,60,32,47,84,105,116,108,101,32])/\p1 i+([60,60,32,47,84,105,116,108,101,32]:List UInt8).length=p2 i))
  (HQ:Hid (∀ i w1,i < m->J (i+1) (p2 i) w1->CP 122 #[zp c] w1 fun e w'=>e=.returned (.string (tt i))/\J (i+1) (p3 i) w'))
  (g3:Hid (∀ i,i < m->au s (p3 i) ([32,47,80,97,114,101,110,116,32]++aD (o:Int)++[32])/\p3 i+([32,47,80,97,114,101,110,116,32]++aD (o:Int)++[32]:List UInt8).length=p4 i))
  (g40:Hid (p4 0=p5 0))
  (g4:Hid (∀ i,i < m->0 < i->au s (p4 i) ([47,80,114,101,118,32]++aD ((o+i:Nat):Int)++[32])/\p4 i+([47,80,114,101,118,32]++aD ((o+i:Nat):Int)++[32]:List UInt8).length=p5 i))
  (g50:Hid (p5 (m - 1)=p6 (m - 1)))
  (g5:Hid (∀ i,i < m->i+1 < m->au s (p5 i) ([47,78,101,120,116,32]++aD ((o+i+2:Nat):Int)++[32])/\p5 i+([47,78,101,120,116,32]++aD ((o+i+2:Nat):Int)++[32]:List UInt8).length=p6 i))
  (g6:Hid (∀ i,i < m->au s (p6 i) ([47,68,101,115,116,32,91])/\p6 i+([47,68,101,115,116,32,91]:List UInt8).length=p7 i))
  (HDg:Hid (∀ i w1,i < m->J (i+1) (p7 i) w1->CP 121 #[zp c] w1 fun e w'=>e=.returned ((first+Pn (i+1):Nat):Int)/\J (i+1) (p8 i) w'))
  (g8:Hid (∀ i,i < m->au s (p8 i) ([32,48,32,82,32,47,70,105,116,93,32,62,62,10,101,110,100,111,98,106,10])/\p8 i+([32,48,32,82,32,47,70,105,116,93,32,62,62,10,101,110,100,111,98,106,10]:List UInt8).length=p9 i))
  (HA:Hid (∀ i w1,i < m->J (i+1) (p9 i) w1->B<=w1.heap.size/\∃ ad cap,w1.cell? (zq r 3)=some (.slice ad i cap)/\w1.ownsRow B 98 2 (.slice ad i cap) i (ms i)/\(Value.slice ad i cap).ownBlock≠some r/\w1.frozen? (zq r 3)=false/\∀ v w7,w1.grownBy w7 (Value.slice ad i cap).ownBlock->gq w1 (Value.slice ad i cap).ownBlock B 98 2 (i+1) (ms i++[.string (tt i),.int .i64 ((Pn (i+1):Nat):Int)]) v w7->I (i+1) (w7.setCell (zq r 3) v)))
  (HZ:Hid (∀ w1,I m w1->Z (.returned (o:Int)) w1)):
  CP 72 #[zp r,(first:Int)] w Z:=by
 have nl:∀ n:Nat,n<=1000000->(aD (n:Int)).length<=30:=by
  intro n hn;have:=av (n:Int) (by omega) (by omega);rw [aD,ZZ];simp only [ZY,ZW];omega
 have NL:=aa nl;clear nl;obtain ⟨na,hna⟩:∃ x,aD ((o+1:Nat):Int)=x:=⟨_,rfl⟩;have lna:na.length<=30:=by rw [<-hna];exact NL.out _ (by omega)
 rw [hna] at GA;go_enter func72,ntmps72
 go_wp2_with fail
 refine H1.out.mono ?_;rintro e w1 ⟨rfl,g⟩;go_wp2_with fail
 refine (H2.out w1 g).mono ?_;rintro e w2 ⟨rfl,gj⟩;clear g H1 H2;obtain ⟨a0,hr,_⟩:=F.out _ _ w2 gj;have HRF:=aa (HR.out _ _ w2 gj (o+1) (by omega));rw [hna] at HRF;clear hna;obtain ⟨x1a,hx1a⟩:∃ x,([60,60,32,47,84,121,112,101,32,47,79,117,116,108,105,110,101,115,32,47,70,105,114,115,116,32]:List UInt8)++na=x:=⟨_,rfl⟩;have A1a:=aa (show (⟨#[60,60,32,47,84,121,112,101,32,47,79,117,116,108,105,110,101,115,32,47,70,105,114,115,116,32]⟩:ByteArray)++⟨na.toArray⟩=⟨x1a.toArray⟩ by rw [<-hx1a];exact an _ _);have l1a:x1a.length<=100:=by rw [<-hx1a,ZZ];(try simp only [ZY,ZW]);omega
 have z1a:=ae x1a;obtain ⟨x2a,hx2a⟩:∃ x,(x1a:List UInt8)++[32,47,76,97,115,116,32]=x:=⟨_,rfl⟩;have A2a:=aa (show (⟨x1a.toArray⟩:ByteArray)++⟨#[32,47,76,97,115,116,32]⟩=⟨x2a.toArray⟩ by rw [<-hx2a];exact an _ _);have hTa:x2a=[60,60,32,47,84,121,112,101,32,47,79,117,116,108,105,110,101,115,32,47,70,105,114,115,116,32]++na++[32,47,76,97,115,116,32]:=by rw [<-hx2a, <-hx1a]
 have zma:=ae na;have HEA:=aa (fun wz hb=>E.out _ _ w2 x2a gj wz hb (by rw [hTa];exact GA.out.1));have hqa:q0+x2a.length=qa:=by rw [hTa];exact GA.out.2
 rw [hqa] at HEA;clear hqa hTa hx1a hx2a;go_wp2_with fail
 refine ap 9 _ (ag [zp r,zp r,zp r,zp c,(o:Int),((o+1:Nat):Int),.string ⟨na.toArray⟩,.string ⟨x1a.toArray⟩,.string ⟨x2a.toArray⟩]) (by kernel_rfl) rfl (by kernel_rfl) aq ?_;simp only [TD]
 iterate 9
  refine ⟨fun w1 hG hd=>?_,fun v=>?_⟩
  ·have c1:=(Zw hG (p:=r) hr).trans a0
   try (have d:=hd _ ⟨ZM _⟩ rfl;simp only [ag,GD] at d;subst d)
   clear hd;go_wp2_with fail
   first
    | exact RG
    | exact CS (by assumption)
    | (refine (HRF.out w1 hG).mono ?_;rintro e w2 ⟨rfl,hB2⟩;go_wp2;exact ⟨rfl,hB2⟩)
  simp only [TN]
 intro wB hG hd;have d3:=hd 3 (by omega);have d8:=hd 8 (by omega);simp only [ag,GD] at d3 d8;subst d3 d8;have HX:=aa (HEA.out wB hG);clear hd HEA A1a A2a z1a l1a zma hG HRF;go_wp2_with fail
 refine HX.out.mono ?_;rintro e w3 ⟨rfl,gj3⟩;clear HX gj a0 hr;obtain ⟨a0,hr,_⟩:=F.out _ _ w3 gj3;go_wp2_with fail
 refine (HD0.out w3 gj3).mono ?_;rintro e w4 ⟨rfl,gj4⟩;clear gj3 a0 hr;obtain ⟨a0,hr,_⟩:=F.out _ _ w4 gj4;have emo:((o+m:Nat):Int) - (o:Int)=(m:Int):=by omega
 have HII:=aa (HI.out _ _ w4 gj4);have lim:=him;obtain ⟨OM,hOM⟩:∃ k:Int,k=((o+m:Nat):Int):=⟨_,rfl⟩;have hOM2:OM<=200000:=by omega
 have hOM3:0<=OM:=by omega
 rw [<-hOM] at emo ⊢;clear hOM;obtain ⟨x1b,hx1b⟩:∃ x,([32,48,32,82,32,47,67,111,117,110,116,32]:List UInt8)++im=x:=⟨_,rfl⟩;have A1b:=aa (show (⟨#[32,48,32,82,32,47,67,111,117,110,116,32]⟩:ByteArray)++⟨im.toArray⟩=⟨x1b.toArray⟩ by rw [<-hx1b];exact an _ _);have l1b:x1b.length<=100:=by rw [<-hx1b,ZZ];(try simp only [ZY,ZW]);omega
 have z1b:=ae x1b;obtain ⟨x2b,hx2b⟩:∃ x,(x1b:List UInt8)++[32,62,62,10,101,110,100,111,98,106,10]=x:=⟨_,rfl⟩;have A2b:=aa (show (⟨x1b.toArray⟩:ByteArray)++⟨#[32,62,62,10,101,110,100,111,98,106,10]⟩=⟨x2b.toArray⟩ by rw [<-hx2b];exact an _ _);have hTb:x2b=[32,48,32,82,32,47,67,111,117,110,116,32]++im++[32,62,62,10,101,110,100,111,98,106,10]:=by rw [<-hx2b, <-hx1b]
 have zmb:=ae im;have HEA:=aa (fun wz hb=>E.out _ _ w4 x2b gj4 wz hb (by rw [hTb];exact GB.out.1));have hqb:qb+x2b.length=qc:=by rw [hTb];exact GB.out.2
 rw [hqb] at HEA;clear hqb hTb hx1b hx2b;go_wp2_with fail
 refine ap 8 _ (ag [zp r,zp r,zp r,zp c,(m:Int),.string ⟨im.toArray⟩,.string ⟨x1b.toArray⟩,.string ⟨x2b.toArray⟩]) (by kernel_rfl) rfl (by kernel_rfl) aq ?_;simp only [TD]
 iterate 8
  refine ⟨fun w1 hG hd=>?_,fun v=>?_⟩
  ·have c1:=(Zw hG (p:=r) hr).trans a0
   try (have d:=hd _ ⟨ZM _⟩ rfl;simp only [ag,GD] at d;subst d)
   clear hd;go_wp2_with fail
   first
    | exact RG
    | exact CS (by assumption)
    | (refine (HII.out w1 hG).mono ?_;rintro e w2 ⟨rfl,hB2⟩;go_wp2;exact ⟨rfl,hB2⟩)
  simp only [TN]
 intro wB hG hd;have d3:=hd 3 (by omega);have d7:=hd 7 (by omega);simp only [ag,GD] at d3 d7;subst d3 d7;have HX:=aa (HEA.out wB hG);clear hd HEA A1b A2b z1b l1b zmb hG HII;go_wp2_with fail
 refine HX.out.mono ?_;rintro e w5 ⟨rfl,gj5⟩;have gI:=HI0.out w5 gj5;clear HX gj4 gj5 a0 hr emo hOM2 hOM3 GA GB HD0 HI0 HI;have dm1:decide ((m:Int) < 1)=false:=by simp;omega
 have dm2:decide (20 < (m:Int))=false:=by simp;omega
 go_wp2_with fail
 go_loopg [9,10,11,12] (m+1) (fun gg old ix _ _ wr=>∃ k:Nat,k<=m/\m - k < gg/\ix=.int .i64 (k:Int)/\old=.int .i64 ((Pn k:Nat):Int)/\I k wr)
 case atStart=>exact ⟨0,by omega,by omega,rfl,by rw [hP0];rfl,gI⟩
 case round=>
  obtain ⟨k,hk,hgk,rfl,rfl,hI⟩:=hrel;clear gI;obtain ⟨a0,a2⟩:=FI.out k wr hI;by_cases hlt:k < m
  ·have d1:decide ((k:Int) < (m:Int))=true:=by simp;omega
   obtain ⟨n1,HOX⟩:=HO.out k wr hlt hI;have HOX:=aa HOX;clear hI;go_wp2_with fail
   refine HOX.out.mono ?_;rintro e u1 ⟨rfl,j1⟩;clear HOX a0 a2;obtain ⟨a0,hr,_⟩:=F.out _ _ u1 j1;have HX1:=aa (E.out _ _ u1 [60,60,32,47,84,105,116,108,101,32] j1 u1 (ZV _ _) (g1.out k hlt).1);rw [(g1.out k hlt).2] at HX1;go_wp2_with fail
   refine HX1.out.mono ?_;rintro e u2 ⟨rfl,j2⟩;clear HX1 j1 a0 hr;obtain ⟨a0,hr,_⟩:=F.out _ _ u2 j2;go_wp2_with fail
   refine (HQ.out k u2 hlt j2).mono ?_;rintro e u3 ⟨rfl,j3⟩;clear j2 a0 hr;obtain ⟨a0,hr,_⟩:=F.out _ _ u3 j3;have HRF:=aa (HR.out _ _ u3 j3 o (by omega));have g3k:=aa (g3.out k hlt);obtain ⟨np,hnp⟩:∃ x,aD (o:Int)=x:=⟨_,rfl⟩;have lnp:np.length<=30:=by rw [<-hnp];exact NL.out _ (by omega)
   rw [hnp] at HRF g3k;clear hnp;obtain ⟨tk,htk⟩:∃ x,tt k=x:=⟨_,rfl⟩;have htk2:=htt k hlt;rw [htk] at htk2 ⊢;obtain ⟨x1c,hx1c⟩:∃ x,([32,47,80,97,114,101,110,116,32]:List UInt8)++np=x:=⟨_,rfl⟩;have A1c:=aa (show (⟨#[32,47,80,97,114,101,110,116,32]⟩:ByteArray)++⟨np.toArray⟩=⟨x1c.toArray⟩ by rw [<-hx1c];exact an _ _);have l1c:x1c.length<=100:=by rw [<-hx1c,ZZ];(try simp only [ZY,ZW]);omega
   have z1c:=ae x1c;obtain ⟨x2c,hx2c⟩:∃ x,(x1c:List UInt8)++[32]=x:=⟨_,rfl⟩;have A2c:=aa (show (⟨x1c.toArray⟩:ByteArray)++⟨#[32]⟩=⟨x2c.toArray⟩ by rw [<-hx2c];exact an _ _);have hTc:x2c=[32,47,80,97,114,101,110,116,32]++np++[32]:=by rw [<-hx2c, <-hx1c]
   have zmc:=ae np;have HEA:=aa (fun wz hb=>E.out _ _ u3 x2c j3 wz hb (by rw [hTc];exact g3k.out.1));have hqc:p3 k+x2c.length=p4 k:=by rw [hTc];exact g3k.out.2
   rw [hqc] at HEA;clear hqc hTc hx1c hx2c;go_wp2_with fail
   refine ap 8 _ (ag [zp r,zp r,zp r,zp c,(o:Int),.string ⟨np.toArray⟩,.string ⟨x1c.toArray⟩,.string ⟨x2c.toArray⟩]) (by kernel_rfl) rfl (by kernel_rfl) aq ?_;simp only [TD]
   iterate 8
    refine ⟨fun w1 hG hd=>?_,fun v=>?_⟩
    ·have c1:=(Zw hG (p:=r) hr).trans a0
     try (have d:=hd _ ⟨ZM _⟩ rfl;simp only [ag,GD] at d;subst d)
     clear hd;go_wp2_with fail
     first
      | exact RG
      | exact CS (by assumption)
      | (refine (HRF.out w1 hG).mono ?_;rintro e w2 ⟨rfl,hB2⟩;go_wp2;exact ⟨rfl,hB2⟩)
    simp only [TN]
   intro wB hG hd;have d3:=hd 3 (by omega);have d7:=hd 7 (by omega);simp only [ag,GD] at d3 d7;subst d3 d7;have HX:=aa (HEA.out wB hG);clear hd HEA A1c A2c z1c l1c zmc hG HRF;go_wp2_with fail
   refine HX.out.mono ?_;rintro e u4 ⟨rfl,j4⟩;clear HX j3 a0 hr g3k lnp;obtain ⟨Pk,hPk⟩:∃ x,Pn k=x:=⟨_,rfl⟩;obtain ⟨Pq,hPq⟩:∃ x,Pn (k+1)=x:=⟨_,rfl⟩;obtain ⟨hp1,hp2⟩:=hPn k hlt;rw [hPk,hPq] at hp1;rw [hPq] at hp2;rw [hPk];clear hPk;have e1:((first+Pq:Nat):Int) - (first:Int)=(Pq:Int):=by omega
   have t1:decide ((Pq:Int) < (Pk:Int))=false:=by simp;omega
   have t1':¬ Pq < Pk:=by omega
   have t2:decide ((N:Int)<=(Pq:Int))=false:=by simp;omega
   have t2':¬ N<=Pq:=by omega
   have t3:decide ((tk.size:Int) < 1)=false:=by simp;omega
   have t4:decide (100 < (tk.size:Int))=false:=by simp;omega
   obtain ⟨FP,hFP⟩:∃ x:Int,x=((first+Pq:Nat):Int):=⟨_,rfl⟩;have hFP2:FP<=200000:=by omega
   have hFP3:0<=FP:=by omega
   rw [<-hFP] at e1;have HFP:=aa hFP;clear hFP;by_cases hk0:0 < k
   ·by_cases hk1:k+1 < m
    ·skip
     have d4:decide (0 < (k:Int))=true:=by simp;omega
     obtain ⟨a0,hr,_⟩:=F.out _ _ u4 j4;have HRF:=aa (HR.out _ _ u4 j4 (o+k) (by omega));have g4k:=aa (g4.out k hlt hk0);obtain ⟨nv,hnv⟩:∃ x,aD ((o+k:Nat):Int)=x:=⟨_,rfl⟩;have lnv:nv.length<=30:=by rw [<-hnv];exact NL.out _ (by omega)
     rw [hnv] at HRF g4k;clear hnv;obtain ⟨x1d,hx1d⟩:∃ x,([47,80,114,101,118,32]:List UInt8)++nv=x:=⟨_,rfl⟩;have A1d:=aa (show (⟨#[47,80,114,101,118,32]⟩:ByteArray)++⟨nv.toArray⟩=⟨x1d.toArray⟩ by rw [<-hx1d];exact an _ _);have l1d:x1d.length<=100:=by rw [<-hx1d,ZZ];(try simp only [ZY,ZW]);omega
     have z1d:=ae x1d;obtain ⟨x2d,hx2d⟩:∃ x,(x1d:List UInt8)++[32]=x:=⟨_,rfl⟩;have A2d:=aa (show (⟨x1d.toArray⟩:ByteArray)++⟨#[32]⟩=⟨x2d.toArray⟩ by rw [<-hx2d];exact an _ _);have hTd:x2d=[47,80,114,101,118,32]++nv++[32]:=by rw [<-hx2d, <-hx1d]
     have zmd:=ae nv;have HEA:=aa (fun wz hb=>E.out _ _ u4 x2d j4 wz hb (by rw [hTd];exact g4k.out.1));have hqd:p4 k+x2d.length=p5 k:=by rw [hTd];exact g4k.out.2
     rw [hqd] at HEA;clear hqd hTd hx1d hx2d;go_wp2_with fail
     refine ap 10 _ (ag [zp r,zp r,zp r,zp c,(o:Int),(k:Int),((o+k:Nat):Int),.string ⟨nv.toArray⟩,.string ⟨x1d.toArray⟩,.string ⟨x2d.toArray⟩]) (by kernel_rfl) rfl (by kernel_rfl) aq ?_;simp only [TD]
     iterate 10
      refine ⟨fun w1 hG hd=>?_,fun v=>?_⟩
      ·have c1:=(Zw hG (p:=r) hr).trans a0
       try (have d:=hd _ ⟨ZM _⟩ rfl;simp only [ag,GD] at d;subst d)
       try (have d:=hd _ ⟨.tail _ (.head _)⟩ rfl;simp only [ag,GD] at d;subst d)
       clear hd;go_wp2_with fail
       first
        | exact RG
        | exact CS (by assumption)
        | (refine (HRF.out w1 hG).mono ?_;rintro e w2 ⟨rfl,hB2⟩;go_wp2;exact ⟨rfl,hB2⟩)
      simp only [TN]
     intro wB hG hd;have d3:=hd 3 (by omega);have d9:=hd 9 (by omega);simp only [ag,GD] at d3 d9;subst d3 d9;have HX:=aa (HEA.out wB hG);clear hd HEA A1d A2d z1d l1d zmd hG HRF;go_wp2_with fail
     refine HX.out.mono ?_;rintro e u5 ⟨rfl,j5⟩;clear HX j4 a0 hr g4k lnv;have d5:decide ((k:Int)+1 < (m:Int))=true:=by simp;omega
     obtain ⟨a0,hr,_⟩:=F.out _ _ u5 j5;have HRF:=aa (HR.out _ _ u5 j5 (o+k+2) (by omega));have g5k:=aa (g5.out k hlt hk1);obtain ⟨nx,hnx⟩:∃ x,aD ((o+k+2:Nat):Int)=x:=⟨_,rfl⟩;have lnx:nx.length<=30:=by rw [<-hnx];exact NL.out _ (by omega)
     rw [hnx] at HRF g5k;clear hnx;obtain ⟨x1e,hx1e⟩:∃ x,([47,78,101,120,116,32]:List UInt8)++nx=x:=⟨_,rfl⟩;have A1e:=aa (show (⟨#[47,78,101,120,116,32]⟩:ByteArray)++⟨nx.toArray⟩=⟨x1e.toArray⟩ by rw [<-hx1e];exact an _ _);have l1e:x1e.length<=100:=by rw [<-hx1e,ZZ];(try simp only [ZY,ZW]);omega
     have z1e:=ae x1e;obtain ⟨x2e,hx2e⟩:∃ x,(x1e:List UInt8)++[32]=x:=⟨_,rfl⟩;have A2e:=aa (show (⟨x1e.toArray⟩:ByteArray)++⟨#[32]⟩=⟨x2e.toArray⟩ by rw [<-hx2e];exact an _ _);have hTe:x2e=[47,78,101,120,116,32]++nx++[32]:=by rw [<-hx2e, <-hx1e]
     have zme:=ae nx;have HEA:=aa (fun wz hb=>E.out _ _ u5 x2e j5 wz hb (by rw [hTe];exact g5k.out.1));have hqe:p5 k+x2e.length=p6 k:=by rw [hTe];exact g5k.out.2
     rw [hqe] at HEA;clear hqe hTe hx1e hx2e;go_wp2_with fail
     refine ap 11 _ (ag [zp r,zp r,zp r,zp c,(o:Int),(k:Int),((o+k:Nat):Int),((o+k+2:Nat):Int),.string ⟨nx.toArray⟩,.string ⟨x1e.toArray⟩,.string ⟨x2e.toArray⟩]) (by kernel_rfl) rfl (by kernel_rfl) aq ?_;simp only [TD]
     iterate 11
      refine ⟨fun w1 hG hd=>?_,fun v=>?_⟩
      ·have c1:=(Zw hG (p:=r) hr).trans a0
       try (have d:=hd _ ⟨ZM _⟩ rfl;simp only [ag,GD] at d;subst d)
       try (have d:=hd _ ⟨.tail _ (.head _)⟩ rfl;simp only [ag,GD] at d;subst d)
       clear hd;go_wp2_with fail
       first
        | exact RG
        | exact CS (by assumption)
        | (refine (HRF.out w1 hG).mono ?_;rintro e w2 ⟨rfl,hB2⟩;go_wp2;exact ⟨rfl,hB2⟩)
      simp only [TN]
     intro wB hG hd;have d3:=hd 3 (by omega);have d10:=hd 10 (by omega);simp only [ag,GD] at d3 d10;subst d3 d10;have HX:=aa (HEA.out wB hG);clear hd HEA A1e A2e z1e l1e zme hG HRF;go_wp2_with fail
     refine HX.out.mono ?_;rintro e u6 ⟨rfl,j6⟩;clear HX j5 a0 hr g5k lnx;obtain ⟨a0,hr,_⟩:=F.out _ _ u6 j6;have HX6:=aa (E.out _ _ u6 [47,68,101,115,116,32,91] j6 u6 (ZV _ _) (g6.out k hlt).1);rw [(g6.out k hlt).2] at HX6;go_wp2_with fail
     refine HX6.out.mono ?_;rintro e u7 ⟨rfl,j7⟩;clear HX6 j6 a0 hr;obtain ⟨a0,hr,_⟩:=F.out _ _ u7 j7;have HX7:=aa (HDg.out k u7 hlt j7);rw [hPq, <-HFP.out] at HX7;go_wp2_with fail
     refine HX7.out.mono ?_;rintro e u8 ⟨rfl,j8⟩;clear HX7 j7 a0 hr;obtain ⟨a0,hr,_⟩:=F.out _ _ u8 j8;have HX8:=aa (E.out _ _ u8 [32,48,32,82,32,47,70,105,116,93,32,62,62,10,101,110,100,111,98,106,10] j8 u8 (ZV _ _) (g8.out k hlt).1);rw [(g8.out k hlt).2] at HX8;go_wp2_with fail
     refine HX8.out.mono ?_;rintro e u9 ⟨rfl,j9⟩;clear HX8 j8 a0 hr;obtain ⟨a0,hr,_,ad2,cap2,a2⟩:=F.out _ _ u9 j9;obtain ⟨hB9,ad,cap,a3,ow,ne,f3,kA⟩:=HA.out k u9 hlt j9;have KA:=aa kA;rw [hPq] at KA;clear kA j9;go_wp2_with (at_builtin;refine bQ rfl (.tmp 175) (.tmp 179) 27 rfl 98 (.agg #[.string ⟨#[]⟩,oz]) 2 24 Tryz.infoMk rfl (by omega) underlying27 B _ k (ms k) rfl (ow.alloc _) (by simp;omega) ⟨u9,0,none⟩ 1 rfl [.string tk,.int .i64 (Pq:Int)] rfl (kK u9 #[tk,(Pq:Int)] _) (by intro u hu;simp at hu;rcases hu with rfl | rfl <;> rfl) (by omega) (by omega) ?_)
     intro v7 w7 hO7 hg7 hat7;have hG:u9.grownBy w7 (Value.slice ad k cap).ownBlock:=fE ((ZV _ u9).alloc (ZX _) _) hg7;have hA:gq u9 (Value.slice ad k cap).ownBlock B 98 2 (k+1) (ms k++[.string tk,.int .i64 (Pq:Int)]) v7 w7:=⟨hO7,hat7.elim .inl (fun e=>.inr ⟨_,e,by simp⟩)⟩;obtain ⟨ad7,cap7,hv7⟩:=hA.form;subst hv7;rw [<-htk] at hA;have HIn:=aa (KA.out _ w7 hG hA);have hb:=hG.block r hr (fun e=>ne e.symm);have k3:=(ZS (a:=zq r 3) hb).trans a3;have kf3:=(ZJ (a:=zq r 3) hb).trans f3;clear KA hA hG hg7 hO7 hat7 hb ow a0 a2 a3 f3 ne hr;go_wp2_with fail
     go_roundg (gk - 1)
     case measure=>omega
     case rel=>exact ⟨k+1,by omega,by omega,by congr 1,by rw [hPq],HIn.out⟩
    ·skip
     have d4:decide (0 < (k:Int))=true:=by simp;omega
     obtain ⟨a0,hr,_⟩:=F.out _ _ u4 j4;have HRF:=aa (HR.out _ _ u4 j4 (o+k) (by omega));have g4k:=aa (g4.out k hlt hk0);obtain ⟨nv,hnv⟩:∃ x,aD ((o+k:Nat):Int)=x:=⟨_,rfl⟩;have lnv:nv.length<=30:=by rw [<-hnv];exact NL.out _ (by omega)
     rw [hnv] at HRF g4k;clear hnv;obtain ⟨x1d,hx1d⟩:∃ x,([47,80,114,101,118,32]:List UInt8)++nv=x:=⟨_,rfl⟩;have A1d:=aa (show (⟨#[47,80,114,101,118,32]⟩:ByteArray)++⟨nv.toArray⟩=⟨x1d.toArray⟩ by rw [<-hx1d];exact an _ _);have l1d:x1d.length<=100:=by rw [<-hx1d,ZZ];(try simp only [ZY,ZW]);omega
     have z1d:=ae x1d;obtain ⟨x2d,hx2d⟩:∃ x,(x1d:List UInt8)++[32]=x:=⟨_,rfl⟩;have A2d:=aa (show (⟨x1d.toArray⟩:ByteArray)++⟨#[32]⟩=⟨x2d.toArray⟩ by rw [<-hx2d];exact an _ _);have hTd:x2d=[47,80,114,101,118,32]++nv++[32]:=by rw [<-hx2d, <-hx1d]
     have zmd:=ae nv;have HEA:=aa (fun wz hb=>E.out _ _ u4 x2d j4 wz hb (by rw [hTd];exact g4k.out.1));have hqd:p4 k+x2d.length=p5 k:=by rw [hTd];exact g4k.out.2
     rw [hqd] at HEA;clear hqd hTd hx1d hx2d;go_wp2_with fail
     refine ap 10 _ (ag [zp r,zp r,zp r,zp c,(o:Int),(k:Int),((o+k:Nat):Int),.string ⟨nv.toArray⟩,.string ⟨x1d.toArray⟩,.string ⟨x2d.toArray⟩]) (by kernel_rfl) rfl (by kernel_rfl) aq ?_;simp only [TD]
     iterate 10
      refine ⟨fun w1 hG hd=>?_,fun v=>?_⟩
      ·have c1:=(Zw hG (p:=r) hr).trans a0
       try (have d:=hd _ ⟨ZM _⟩ rfl;simp only [ag,GD] at d;subst d)
       try (have d:=hd _ ⟨.tail _ (.head _)⟩ rfl;simp only [ag,GD] at d;subst d)
       clear hd;go_wp2_with fail
       first
        | exact RG
        | exact CS (by assumption)
        | (refine (HRF.out w1 hG).mono ?_;rintro e w2 ⟨rfl,hB2⟩;go_wp2;exact ⟨rfl,hB2⟩)
      simp only [TN]
     intro wB hG hd;have d3:=hd 3 (by omega);have d9:=hd 9 (by omega);simp only [ag,GD] at d3 d9;subst d3 d9;have HX:=aa (HEA.out wB hG);clear hd HEA A1d A2d z1d l1d zmd hG HRF;go_wp2_with fail
     refine HX.out.mono ?_;rintro e u5 ⟨rfl,j5⟩;clear HX j4 a0 hr g4k lnv;have d5:decide ((k:Int)+1 < (m:Int))=false:=by simp;omega
     have d5':¬ k+1 < m:=by omega
     have hpe:p5 k=p6 k:=by rw [show k=m - 1 by omega];exact g50.out
     rw [hpe] at j5;obtain ⟨u6,hu6⟩:∃ u6,u5=u6:=⟨_,rfl⟩;rw [hu6] at j5 ⊢;clear hu6 hpe;have j6:=j5;clear j5;obtain ⟨a0,hr,_⟩:=F.out _ _ u6 j6;have HX6:=aa (E.out _ _ u6 [47,68,101,115,116,32,91] j6 u6 (ZV _ _) (g6.out k hlt).1);rw [(g6.out k hlt).2] at HX6;go_wp2_with fail
     refine HX6.out.mono ?_;rintro e u7 ⟨rfl,j7⟩;clear HX6 j6 a0 hr;obtain ⟨a0,hr,_⟩:=F.out _ _ u7 j7;have HX7:=aa (HDg.out k u7 hlt j7);rw [hPq, <-HFP.out] at HX7;go_wp2_with fail
     refine HX7.out.mono ?_;rintro e u8 ⟨rfl,j8⟩;clear HX7 j7 a0 hr;obtain ⟨a0,hr,_⟩:=F.out _ _ u8 j8;have HX8:=aa (E.out _ _ u8 [32,48,32,82,32,47,70,105,116,93,32,62,62,10,101,110,100,111,98,106,10] j8 u8 (ZV _ _) (g8.out k hlt).1);rw [(g8.out k hlt).2] at HX8;go_wp2_with fail
     refine HX8.out.mono ?_;rintro e u9 ⟨rfl,j9⟩;clear HX8 j8 a0 hr;obtain ⟨a0,hr,_,ad2,cap2,a2⟩:=F.out _ _ u9 j9;obtain ⟨hB9,ad,cap,a3,ow,ne,f3,kA⟩:=HA.out k u9 hlt j9;have KA:=aa kA;rw [hPq] at KA;clear kA j9;go_wp2_with (at_builtin;refine bQ rfl (.tmp 175) (.tmp 179) 27 rfl 98 (.agg #[.string ⟨#[]⟩,oz]) 2 24 Tryz.infoMk rfl (by omega) underlying27 B _ k (ms k) rfl (ow.alloc _) (by simp;omega) ⟨u9,0,none⟩ 1 rfl [.string tk,.int .i64 (Pq:Int)] rfl (kK u9 #[tk,(Pq:Int)] _) (by intro u hu;simp at hu;rcases hu with rfl | rfl <;> rfl) (by omega) (by omega) ?_)
     intro v7 w7 hO7 hg7 hat7;have hG:u9.grownBy w7 (Value.slice ad k cap).ownBlock:=fE ((ZV _ u9).alloc (ZX _) _) hg7;have hA:gq u9 (Value.slice ad k cap).ownBlock B 98 2 (k+1) (ms k++[.string tk,.int .i64 (Pq:Int)]) v7 w7:=⟨hO7,hat7.elim .inl (fun e=>.inr ⟨_,e,by simp⟩)⟩;obtain ⟨ad7,cap7,hv7⟩:=hA.form;subst hv7;rw [<-htk] at hA;have HIn:=aa (KA.out _ w7 hG hA);have hb:=hG.block r hr (fun e=>ne e.symm);have k3:=(ZS (a:=zq r 3) hb).trans a3;have kf3:=(ZJ (a:=zq r 3) hb).trans f3;clear KA hA hG hg7 hO7 hat7 hb ow a0 a2 a3 f3 ne hr;go_wp2_with fail
     go_roundg (gk - 1)
     case measure=>omega
     case rel=>exact ⟨k+1,by omega,by omega,by congr 1,by rw [hPq],HIn.out⟩
   ·by_cases hk1:k+1 < m
    ·skip
     have d4:decide (0 < (k:Int))=false:=by simp;omega
     have d4':¬ 0 < k:=by omega
     have hpe:p4 k=p5 k:=by rw [show k=0 by omega];exact g40.out
     rw [hpe] at j4;obtain ⟨u5,hu5⟩:∃ u5,u4=u5:=⟨_,rfl⟩;rw [hu5] at j4 ⊢;clear hu5 hpe;have j5:=j4;clear j4;have d5:decide ((k:Int)+1 < (m:Int))=true:=by simp;omega
     obtain ⟨a0,hr,_⟩:=F.out _ _ u5 j5;have HRF:=aa (HR.out _ _ u5 j5 (o+k+2) (by omega));have g5k:=aa (g5.out k hlt hk1);obtain ⟨nx,hnx⟩:∃ x,aD ((o+k+2:Nat):Int)=x:=⟨_,rfl⟩;have lnx:nx.length<=30:=by rw [<-hnx];exact NL.out _ (by omega)
     rw [hnx] at HRF g5k;clear hnx;obtain ⟨x1e,hx1e⟩:∃ x,([47,78,101,120,116,32]:List UInt8)++nx=x:=⟨_,rfl⟩;have A1e:=aa (show (⟨#[47,78,101,120,116,32]⟩:ByteArray)++⟨nx.toArray⟩=⟨x1e.toArray⟩ by rw [<-hx1e];exact an _ _);have l1e:x1e.length<=100:=by rw [<-hx1e,ZZ];(try simp only [ZY,ZW]);omega
     have z1e:=ae x1e;obtain ⟨x2e,hx2e⟩:∃ x,(x1e:List UInt8)++[32]=x:=⟨_,rfl⟩;have A2e:=aa (show (⟨x1e.toArray⟩:ByteArray)++⟨#[32]⟩=⟨x2e.toArray⟩ by rw [<-hx2e];exact an _ _);have hTe:x2e=[47,78,101,120,116,32]++nx++[32]:=by rw [<-hx2e, <-hx1e]
     have zme:=ae nx;have HEA:=aa (fun wz hb=>E.out _ _ u5 x2e j5 wz hb (by rw [hTe];exact g5k.out.1));have hqe:p5 k+x2e.length=p6 k:=by rw [hTe];exact g5k.out.2
     rw [hqe] at HEA;clear hqe hTe hx1e hx2e;go_wp2_with fail
     refine ap 11 _ (ag [zp r,zp r,zp r,zp c,(o:Int),(k:Int),((o+k:Nat):Int),((o+k+2:Nat):Int),.string ⟨nx.toArray⟩,.string ⟨x1e.toArray⟩,.string ⟨x2e.toArray⟩]) (by kernel_rfl) rfl (by kernel_rfl) aq ?_;simp only [TD]
     iterate 11
      refine ⟨fun w1 hG hd=>?_,fun v=>?_⟩
      ·have c1:=(Zw hG (p:=r) hr).trans a0
       try (have d:=hd _ ⟨ZM _⟩ rfl;simp only [ag,GD] at d;subst d)
       try (have d:=hd _ ⟨.tail _ (.head _)⟩ rfl;simp only [ag,GD] at d;subst d)
       clear hd;go_wp2_with fail
       first
        | exact RG
        | exact CS (by assumption)
        | (refine (HRF.out w1 hG).mono ?_;rintro e w2 ⟨rfl,hB2⟩;go_wp2;exact ⟨rfl,hB2⟩)
      simp only [TN]
     intro wB hG hd;have d3:=hd 3 (by omega);have d10:=hd 10 (by omega);simp only [ag,GD] at d3 d10;subst d3 d10;have HX:=aa (HEA.out wB hG);clear hd HEA A1e A2e z1e l1e zme hG HRF;go_wp2_with fail
     refine HX.out.mono ?_;rintro e u6 ⟨rfl,j6⟩;clear HX j5 a0 hr g5k lnx;obtain ⟨a0,hr,_⟩:=F.out _ _ u6 j6;have HX6:=aa (E.out _ _ u6 [47,68,101,115,116,32,91] j6 u6 (ZV _ _) (g6.out k hlt).1);rw [(g6.out k hlt).2] at HX6;go_wp2_with fail
     refine HX6.out.mono ?_;rintro e u7 ⟨rfl,j7⟩;clear HX6 j6 a0 hr;obtain ⟨a0,hr,_⟩:=F.out _ _ u7 j7;have HX7:=aa (HDg.out k u7 hlt j7);rw [hPq, <-HFP.out] at HX7;go_wp2_with fail
     refine HX7.out.mono ?_;rintro e u8 ⟨rfl,j8⟩;clear HX7 j7 a0 hr;obtain ⟨a0,hr,_⟩:=F.out _ _ u8 j8;have HX8:=aa (E.out _ _ u8 [32,48,32,82,32,47,70,105,116,93,32,62,62,10,101,110,100,111,98,106,10] j8 u8 (ZV _ _) (g8.out k hlt).1);rw [(g8.out k hlt).2] at HX8;go_wp2_with fail
     refine HX8.out.mono ?_;rintro e u9 ⟨rfl,j9⟩;clear HX8 j8 a0 hr;obtain ⟨a0,hr,_,ad2,cap2,a2⟩:=F.out _ _ u9 j9;obtain ⟨hB9,ad,cap,a3,ow,ne,f3,kA⟩:=HA.out k u9 hlt j9;have KA:=aa kA;rw [hPq] at KA;clear kA j9;go_wp2_with (at_builtin;refine bQ rfl (.tmp 175) (.tmp 179) 27 rfl 98 (.agg #[.string ⟨#[]⟩,oz]) 2 24 Tryz.infoMk rfl (by omega) underlying27 B _ k (ms k) rfl (ow.alloc _) (by simp;omega) ⟨u9,0,none⟩ 1 rfl [.string tk,.int .i64 (Pq:Int)] rfl (kK u9 #[tk,(Pq:Int)] _) (by intro u hu;simp at hu;rcases hu with rfl | rfl <;> rfl) (by omega) (by omega) ?_)
     intro v7 w7 hO7 hg7 hat7;have hG:u9.grownBy w7 (Value.slice ad k cap).ownBlock:=fE ((ZV _ u9).alloc (ZX _) _) hg7;have hA:gq u9 (Value.slice ad k cap).ownBlock B 98 2 (k+1) (ms k++[.string tk,.int .i64 (Pq:Int)]) v7 w7:=⟨hO7,hat7.elim .inl (fun e=>.inr ⟨_,e,by simp⟩)⟩;obtain ⟨ad7,cap7,hv7⟩:=hA.form;subst hv7;rw [<-htk] at hA;have HIn:=aa (KA.out _ w7 hG hA);have hb:=hG.block r hr (fun e=>ne e.symm);have k3:=(ZS (a:=zq r 3) hb).trans a3;have kf3:=(ZJ (a:=zq r 3) hb).trans f3;clear KA hA hG hg7 hO7 hat7 hb ow a0 a2 a3 f3 ne hr;go_wp2_with fail
     go_roundg (gk - 1)
     case measure=>omega
     case rel=>exact ⟨k+1,by omega,by omega,by congr 1,by rw [hPq],HIn.out⟩
    ·skip
     have d4:decide (0 < (k:Int))=false:=by simp;omega
     have d4':¬ 0 < k:=by omega
     have hpe:p4 k=p5 k:=by rw [show k=0 by omega];exact g40.out
     rw [hpe] at j4;obtain ⟨u5,hu5⟩:∃ u5,u4=u5:=⟨_,rfl⟩;rw [hu5] at j4 ⊢;clear hu5 hpe;have j5:=j4;clear j4;have d5:decide ((k:Int)+1 < (m:Int))=false:=by simp;omega
     have d5':¬ k+1 < m:=by omega
     have hpe:p5 k=p6 k:=by rw [show k=m - 1 by omega];exact g50.out
     rw [hpe] at j5;obtain ⟨u6,hu6⟩:∃ u6,u5=u6:=⟨_,rfl⟩;rw [hu6] at j5 ⊢;clear hu6 hpe;have j6:=j5;clear j5;obtain ⟨a0,hr,_⟩:=F.out _ _ u6 j6;have HX6:=aa (E.out _ _ u6 [47,68,101,115,116,32,91] j6 u6 (ZV _ _) (g6.out k hlt).1);rw [(g6.out k hlt).2] at HX6;go_wp2_with fail
     refine HX6.out.mono ?_;rintro e u7 ⟨rfl,j7⟩;clear HX6 j6 a0 hr;obtain ⟨a0,hr,_⟩:=F.out _ _ u7 j7;have HX7:=aa (HDg.out k u7 hlt j7);rw [hPq, <-HFP.out] at HX7;go_wp2_with fail
     refine HX7.out.mono ?_;rintro e u8 ⟨rfl,j8⟩;clear HX7 j7 a0 hr;obtain ⟨a0,hr,_⟩:=F.out _ _ u8 j8;have HX8:=aa (E.out _ _ u8 [32,48,32,82,32,47,70,105,116,93,32,62,62,10,101,110,100,111,98,106,10] j8 u8 (ZV _ _) (g8.out k hlt).1);rw [(g8.out k hlt).2] at HX8;go_wp2_with fail
     refine HX8.out.mono ?_;rintro e u9 ⟨rfl,j9⟩;clear HX8 j8 a0 hr;obtain ⟨a0,hr,_,ad2,cap2,a2⟩:=F.out _ _ u9 j9;obtain ⟨hB9,ad,cap,a3,ow,ne,f3,kA⟩:=HA.out k u9 hlt j9;have KA:=aa kA;rw [hPq] at KA;clear kA j9;go_wp2_with (at_builtin;refine bQ rfl (.tmp 175) (.tmp 179) 27 rfl 98 (.agg #[.string ⟨#[]⟩,oz]) 2 24 Tryz.infoMk rfl (by omega) underlying27 B _ k (ms k) rfl (ow.alloc _) (by simp;omega) ⟨u9,0,none⟩ 1 rfl [.string tk,.int .i64 (Pq:Int)] rfl (kK u9 #[tk,(Pq:Int)] _) (by intro u hu;simp at hu;rcases hu with rfl | rfl <;> rfl) (by omega) (by omega) ?_)
     intro v7 w7 hO7 hg7 hat7;have hG:u9.grownBy w7 (Value.slice ad k cap).ownBlock:=fE ((ZV _ u9).alloc (ZX _) _) hg7;have hA:gq u9 (Value.slice ad k cap).ownBlock B 98 2 (k+1) (ms k++[.string tk,.int .i64 (Pq:Int)]) v7 w7:=⟨hO7,hat7.elim .inl (fun e=>.inr ⟨_,e,by simp⟩)⟩;obtain ⟨ad7,cap7,hv7⟩:=hA.form;subst hv7;rw [<-htk] at hA;have HIn:=aa (KA.out _ w7 hG hA);have hb:=hG.block r hr (fun e=>ne e.symm);have k3:=(ZS (a:=zq r 3) hb).trans a3;have kf3:=(ZJ (a:=zq r 3) hb).trans f3;clear KA hA hG hg7 hO7 hat7 hb ow a0 a2 a3 f3 ne hr;go_wp2_with fail
     go_roundg (gk - 1)
     case measure=>omega
     case rel=>exact ⟨k+1,by omega,by omega,by congr 1,by rw [hPq],HIn.out⟩
  ·obtain rfl:k=m:=by omega
   have d1:decide ((k:Int) < (k:Int))=false:=by simp
   have hZ:=HZ.out wr hI;go_wp2_with fail
   first
    | exact hZ
    | (go_ret;exact hZ)
end Go.Proofs.YtbklfkpjoinofaaGreatDoor
