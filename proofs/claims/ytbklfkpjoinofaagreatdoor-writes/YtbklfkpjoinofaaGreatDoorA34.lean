import Derived.Test.YtbklfkpjoinofaaGreatDoorA12
set_option linter.all false
set_option maxRecDepth 100000
set_option maxHeartbeats 8000000
namespace Go.Proofs.YtbklfkpjoinofaaGreatDoor
open Go.RowKit Go.Proofs.Tryz
theorem yM (w:World) (K A X C D E Co Ro:Int) (t:ByteArray) (a b c d u:List UInt8) (la:a.length<=30) (lb:b.length<=30) (lc:c.length<=30) (ld:d.length<=30) (lu:u.length<=30) (qt:List UInt8) (lq:qt.length<=1000) (HQ:Hid (∀ wx,QE 162 #[t] wx (.string ⟨qt.toArray⟩)))
  (H1:Hid (∀ wx,Below w w wx->QB 161 #[A] wx (.string ⟨a.toArray⟩)))
  (H2:Hid (∀ wx,Below w w wx->QB 161 #[X] wx (.string ⟨b.toArray⟩)))
  (H3:Hid (∀ wx,Below w w wx->QB 161 #[C] wx (.string ⟨c.toArray⟩)))
  (H4:Hid (∀ wx,Below w w wx->QB 161 #[D] wx (.string ⟨d.toArray⟩)))
  (H5:Hid (∀ wx,Below w w wx->QB 161 #[E] wx (.string ⟨u.toArray⟩))):
  CP 112 #[.agg #[(1:Int),A,X,C,D,E,Co,Ro,t]] w fun e' w'=>e'=.returned (.string ⟨([66,84,32,47,70,49,32]++c++[32,84,102,32]++a++[32]++b++[32,84,100,32]++qt++[32,84,106,32,69,84,10]).toArray⟩)/\Below w w w':=by
 have za:=ae a;have zb:=ae b;have zc:=ae c;have zd:=ae d;have zu:=ae u;have bA:Below w w (w.alloc (.cells #[(1:Int),A,X,C,D,E,Co,Ro,t] 31)):=(ZV _ w).alloc (ZX _) _;have hOB0:(w.alloc (.cells #[(1:Int),A,X,C,D,E,Co,Ro,t] 31)).heap[w.heap.size]? =some (.cells #[(1:Int),A,X,C,D,E,Co,Ro,t] 31 (0,0)):=ZE w _;have hsz0:w.heap.size < (w.alloc (.cells #[(1:Int),A,X,C,D,E,Co,Ro,t] 31)).heap.size:=by simp
 go_enter func112,ntmps112
 go_wp2_with fail
 refine (H1.out _ bA).mono ?_;rintro e1 w1 ⟨rfl,g1⟩;have b1:=bA.trans (g1.mono (by simp));have k1:w1.heap[w.heap.size]? =some (.cells #[(1:Int),A,X,C,D,E,Co,Ro,t] 31 (0,0)):=(g1.block _ hsz0).trans hOB0;have s1:w.heap.size < w1.heap.size:=ZR hsz0 g1.size;clear bA g1 hOB0 hsz0;have q1:w1.cell? (zq w 2)=X:=by rw [ZL w1 w.heap.size 2 _ _ (0,0) k1];rfl
 go_wp2_with fail
 refine (H2.out _ b1).mono ?_;rintro e1 w2 ⟨rfl,g1⟩;have b2:=b1.trans (g1.mono b1.size);have k2:w2.heap[w.heap.size]? =some (.cells #[(1:Int),A,X,C,D,E,Co,Ro,t] 31 (0,0)):=(g1.block _ s1).trans k1;have s2:w.heap.size < w2.heap.size:=ZR s1 g1.size;clear g1 b1 k1 s1 q1;have q2:w2.cell? (zq w 3)=C:=by rw [ZL w2 w.heap.size 3 _ _ (0,0) k2];rfl
 go_wp2_with fail
 refine (H3.out _ b2).mono ?_;rintro e1 w3 ⟨rfl,g1⟩;have b3:=b2.trans (g1.mono b2.size);have k3:w3.heap[w.heap.size]? =some (.cells #[(1:Int),A,X,C,D,E,Co,Ro,t] 31 (0,0)):=(g1.block _ s2).trans k2;have s3:w.heap.size < w3.heap.size:=ZR s2 g1.size;clear g1 b2 k2 s2 q2;have q3:w3.cell? (zq w 4)=D:=by rw [ZL w3 w.heap.size 4 _ _ (0,0) k3];rfl
 go_wp2_with fail
 refine (H4.out _ b3).mono ?_;rintro e1 w4 ⟨rfl,g1⟩;have b4:=b3.trans (g1.mono b3.size);have k4:w4.heap[w.heap.size]? =some (.cells #[(1:Int),A,X,C,D,E,Co,Ro,t] 31 (0,0)):=(g1.block _ s3).trans k3;have s4:w.heap.size < w4.heap.size:=ZR s3 g1.size;clear g1 b3 k3 s3 q3;have q4:w4.cell? (zq w 5)=E:=by rw [ZL w4 w.heap.size 5 _ _ (0,0) k4];rfl
 go_wp2_with fail
 refine (H5.out _ b4).mono ?_;rintro e1 w5 ⟨rfl,g1⟩;have b5:=b4.trans (g1.mono b4.size);have k5:w5.heap[w.heap.size]? =some (.cells #[(1:Int),A,X,C,D,E,Co,Ro,t] 31 (0,0)):=(g1.block _ s4).trans k4;have s5:w.heap.size < w5.heap.size:=ZR s4 g1.size;clear g1 b4 k4 s4 q4;have q0:w5.cell? w=(1:Int):=by rw [ZL w5 w.heap.size 0 _ _ (0,0) k5];rfl
 have zqq:=ae qt;have q8:w5.cell? (zq w 8)=t:=by rw [ZL w5 w.heap.size 8 _ _ (0,0) k5];rfl
 have HB:=aa b5;clear b5 k5 s5 H1 H2 H3 H4 H5;go_wp2_with fail
 refine (HQ.out _).mono ?_;rintro e1 w6 ⟨rfl,rfl⟩;go_wp2_with fail
 go_ret;exact ⟨b8 (by simp),HB.out⟩
theorem yZ (w:World) (K A X C D E Co Ro:Int) (t:ByteArray) (a b c d u:List UInt8) (la:a.length<=30) (lb:b.length<=30) (lc:c.length<=30) (ld:d.length<=30) (lu:u.length<=30)
  (H1:Hid (∀ wx,Below w w wx->QB 161 #[A] wx (.string ⟨a.toArray⟩)))
  (H2:Hid (∀ wx,Below w w wx->QB 161 #[X] wx (.string ⟨b.toArray⟩)))
  (H3:Hid (∀ wx,Below w w wx->QB 161 #[C] wx (.string ⟨c.toArray⟩)))
  (H4:Hid (∀ wx,Below w w wx->QB 161 #[D] wx (.string ⟨d.toArray⟩)))
  (H5:Hid (∀ wx,Below w w wx->QB 161 #[E] wx (.string ⟨u.toArray⟩))):
  CP 112 #[.agg #[(2:Int),A,X,C,D,E,Co,Ro,t]] w fun e' w'=>e'=.returned (.string ⟨(u++[32,119,32]++a++[32]++b++[32,109,32]++c++[32]++d++[32,108,32,83,10]).toArray⟩)/\Below w w w':=by
 have za:=ae a;have zb:=ae b;have zc:=ae c;have zd:=ae d;have zu:=ae u;have bA:Below w w (w.alloc (.cells #[(2:Int),A,X,C,D,E,Co,Ro,t] 31)):=(ZV _ w).alloc (ZX _) _;have hOB0:(w.alloc (.cells #[(2:Int),A,X,C,D,E,Co,Ro,t] 31)).heap[w.heap.size]? =some (.cells #[(2:Int),A,X,C,D,E,Co,Ro,t] 31 (0,0)):=ZE w _;have hsz0:w.heap.size < (w.alloc (.cells #[(2:Int),A,X,C,D,E,Co,Ro,t] 31)).heap.size:=by simp
 go_enter func112,ntmps112
 go_wp2_with fail
 refine (H1.out _ bA).mono ?_;rintro e1 w1 ⟨rfl,g1⟩;have b1:=bA.trans (g1.mono (by simp));have k1:w1.heap[w.heap.size]? =some (.cells #[(2:Int),A,X,C,D,E,Co,Ro,t] 31 (0,0)):=(g1.block _ hsz0).trans hOB0;have s1:w.heap.size < w1.heap.size:=ZR hsz0 g1.size;clear bA g1 hOB0 hsz0;have q1:w1.cell? (zq w 2)=X:=by rw [ZL w1 w.heap.size 2 _ _ (0,0) k1];rfl
 go_wp2_with fail
 refine (H2.out _ b1).mono ?_;rintro e1 w2 ⟨rfl,g1⟩;have b2:=b1.trans (g1.mono b1.size);have k2:w2.heap[w.heap.size]? =some (.cells #[(2:Int),A,X,C,D,E,Co,Ro,t] 31 (0,0)):=(g1.block _ s1).trans k1;have s2:w.heap.size < w2.heap.size:=ZR s1 g1.size;clear g1 b1 k1 s1 q1;have q2:w2.cell? (zq w 3)=C:=by rw [ZL w2 w.heap.size 3 _ _ (0,0) k2];rfl
 go_wp2_with fail
 refine (H3.out _ b2).mono ?_;rintro e1 w3 ⟨rfl,g1⟩;have b3:=b2.trans (g1.mono b2.size);have k3:w3.heap[w.heap.size]? =some (.cells #[(2:Int),A,X,C,D,E,Co,Ro,t] 31 (0,0)):=(g1.block _ s2).trans k2;have s3:w.heap.size < w3.heap.size:=ZR s2 g1.size;clear g1 b2 k2 s2 q2;have q3:w3.cell? (zq w 4)=D:=by rw [ZL w3 w.heap.size 4 _ _ (0,0) k3];rfl
 go_wp2_with fail
 refine (H4.out _ b3).mono ?_;rintro e1 w4 ⟨rfl,g1⟩;have b4:=b3.trans (g1.mono b3.size);have k4:w4.heap[w.heap.size]? =some (.cells #[(2:Int),A,X,C,D,E,Co,Ro,t] 31 (0,0)):=(g1.block _ s3).trans k3;have s4:w.heap.size < w4.heap.size:=ZR s3 g1.size;clear g1 b3 k3 s3 q3;have q4:w4.cell? (zq w 5)=E:=by rw [ZL w4 w.heap.size 5 _ _ (0,0) k4];rfl
 go_wp2_with fail
 refine (H5.out _ b4).mono ?_;rintro e1 w5 ⟨rfl,g1⟩;have b5:=b4.trans (g1.mono b4.size);have k5:w5.heap[w.heap.size]? =some (.cells #[(2:Int),A,X,C,D,E,Co,Ro,t] 31 (0,0)):=(g1.block _ s4).trans k4;have s5:w.heap.size < w5.heap.size:=ZR s4 g1.size;clear g1 b4 k4 s4 q4;have q0:w5.cell? w=(2:Int):=by rw [ZL w5 w.heap.size 0 _ _ (0,0) k5];rfl
 have HB:=aa b5;clear b5 k5 s5 H1 H2 H3 H4 H5;go_wp2_with fail
 go_ret;exact ⟨b8 (by simp),HB.out⟩
theorem ye (w:World) (K A X C D E Co Ro:Int) (t:ByteArray) (a b c d u:List UInt8) (la:a.length<=30) (lb:b.length<=30) (lc:c.length<=30) (ld:d.length<=30) (lu:u.length<=30)
  (H1:Hid (∀ wx,Below w w wx->QB 161 #[A] wx (.string ⟨a.toArray⟩)))
  (H2:Hid (∀ wx,Below w w wx->QB 161 #[X] wx (.string ⟨b.toArray⟩)))
  (H3:Hid (∀ wx,Below w w wx->QB 161 #[C] wx (.string ⟨c.toArray⟩)))
  (H4:Hid (∀ wx,Below w w wx->QB 161 #[D] wx (.string ⟨d.toArray⟩)))
  (H5:Hid (∀ wx,Below w w wx->QB 161 #[E] wx (.string ⟨u.toArray⟩))):
  CP 112 #[.agg #[(3:Int),A,X,C,D,E,Co,Ro,t]] w fun e' w'=>e'=.returned (.string ⟨(u++[32,103,32]++a++[32]++b++[32]++c++[32]++d++[32,114,101,32,102,10]).toArray⟩)/\Below w w w':=by
 have za:=ae a;have zb:=ae b;have zc:=ae c;have zd:=ae d;have zu:=ae u;have bA:Below w w (w.alloc (.cells #[(3:Int),A,X,C,D,E,Co,Ro,t] 31)):=(ZV _ w).alloc (ZX _) _;have hOB0:(w.alloc (.cells #[(3:Int),A,X,C,D,E,Co,Ro,t] 31)).heap[w.heap.size]? =some (.cells #[(3:Int),A,X,C,D,E,Co,Ro,t] 31 (0,0)):=ZE w _;have hsz0:w.heap.size < (w.alloc (.cells #[(3:Int),A,X,C,D,E,Co,Ro,t] 31)).heap.size:=by simp
 go_enter func112,ntmps112
 go_wp2_with fail
 refine (H1.out _ bA).mono ?_;rintro e1 w1 ⟨rfl,g1⟩;have b1:=bA.trans (g1.mono (by simp));have k1:w1.heap[w.heap.size]? =some (.cells #[(3:Int),A,X,C,D,E,Co,Ro,t] 31 (0,0)):=(g1.block _ hsz0).trans hOB0;have s1:w.heap.size < w1.heap.size:=ZR hsz0 g1.size;clear bA g1 hOB0 hsz0;have q1:w1.cell? (zq w 2)=X:=by rw [ZL w1 w.heap.size 2 _ _ (0,0) k1];rfl
 go_wp2_with fail
 refine (H2.out _ b1).mono ?_;rintro e1 w2 ⟨rfl,g1⟩;have b2:=b1.trans (g1.mono b1.size);have k2:w2.heap[w.heap.size]? =some (.cells #[(3:Int),A,X,C,D,E,Co,Ro,t] 31 (0,0)):=(g1.block _ s1).trans k1;have s2:w.heap.size < w2.heap.size:=ZR s1 g1.size;clear g1 b1 k1 s1 q1;have q2:w2.cell? (zq w 3)=C:=by rw [ZL w2 w.heap.size 3 _ _ (0,0) k2];rfl
 go_wp2_with fail
 refine (H3.out _ b2).mono ?_;rintro e1 w3 ⟨rfl,g1⟩;have b3:=b2.trans (g1.mono b2.size);have k3:w3.heap[w.heap.size]? =some (.cells #[(3:Int),A,X,C,D,E,Co,Ro,t] 31 (0,0)):=(g1.block _ s2).trans k2;have s3:w.heap.size < w3.heap.size:=ZR s2 g1.size;clear g1 b2 k2 s2 q2;have q3:w3.cell? (zq w 4)=D:=by rw [ZL w3 w.heap.size 4 _ _ (0,0) k3];rfl
 go_wp2_with fail
 refine (H4.out _ b3).mono ?_;rintro e1 w4 ⟨rfl,g1⟩;have b4:=b3.trans (g1.mono b3.size);have k4:w4.heap[w.heap.size]? =some (.cells #[(3:Int),A,X,C,D,E,Co,Ro,t] 31 (0,0)):=(g1.block _ s3).trans k3;have s4:w.heap.size < w4.heap.size:=ZR s3 g1.size;clear g1 b3 k3 s3 q3;have q4:w4.cell? (zq w 5)=E:=by rw [ZL w4 w.heap.size 5 _ _ (0,0) k4];rfl
 go_wp2_with fail
 refine (H5.out _ b4).mono ?_;rintro e1 w5 ⟨rfl,g1⟩;have b5:=b4.trans (g1.mono b4.size);have k5:w5.heap[w.heap.size]? =some (.cells #[(3:Int),A,X,C,D,E,Co,Ro,t] 31 (0,0)):=(g1.block _ s4).trans k4;have s5:w.heap.size < w5.heap.size:=ZR s4 g1.size;clear g1 b4 k4 s4 q4;have q0:w5.cell? w=(3:Int):=by rw [ZL w5 w.heap.size 0 _ _ (0,0) k5];rfl
 have HB:=aa b5;clear b5 k5 s5 H1 H2 H3 H4 H5;go_wp2_with fail
 go_ret;exact ⟨b8 (by simp),HB.out⟩
theorem xj (w:World) (K A X C D E Co Ro:Int) (t:ByteArray) (a b c d u:List UInt8) (la:a.length<=30) (lb:b.length<=30) (lc:c.length<=30) (ld:d.length<=30) (lu:u.length<=30) (ic ir:List UInt8) (lic:ic.length<=30) (lir:ir.length<=30) (hk1:¬ K=1) (hk2:¬ K=2) (hk3:¬ K=3) (ht:t.size<=4096) (HC:Hid (∀ wx,Below w w wx->QB 120 #[Co] wx (.string ⟨ic.toArray⟩))) (HR:Hid (∀ wx,Below w w wx->QB 120 #[Ro] wx (.string ⟨ir.toArray⟩)))
  (H1:Hid (∀ wx,Below w w wx->QB 161 #[A] wx (.string ⟨a.toArray⟩)))
  (H2:Hid (∀ wx,Below w w wx->QB 161 #[X] wx (.string ⟨b.toArray⟩)))
  (H3:Hid (∀ wx,Below w w wx->QB 161 #[C] wx (.string ⟨c.toArray⟩)))
  (H4:Hid (∀ wx,Below w w wx->QB 161 #[D] wx (.string ⟨d.toArray⟩)))
  (H5:Hid (∀ wx,Below w w wx->QB 161 #[E] wx (.string ⟨u.toArray⟩))):
  CP 112 #[.agg #[K,A,X,C,D,E,Co,Ro,t]] w fun e' w'=>e'=.returned (.string ⟨([113,32]++c++[32,48,32,48,32]++d++[32]++a++[32]++b++[32,99,109,32,66,73,32,47,87,32]++ic++[32,47,72,32]++ir++[32,47,67,83,32,47,71,32,47,66,80,67,32,56,32,73,68,32]++t.data.toList++[10,69,73,32,81,10]).toArray⟩)/\Below w w w':=by
 have za:=ae a;have zb:=ae b;have zc:=ae c;have zd:=ae d;have zu:=ae u;have bA:Below w w (w.alloc (.cells #[K,A,X,C,D,E,Co,Ro,t] 31)):=(ZV _ w).alloc (ZX _) _;have hOB0:(w.alloc (.cells #[K,A,X,C,D,E,Co,Ro,t] 31)).heap[w.heap.size]? =some (.cells #[K,A,X,C,D,E,Co,Ro,t] 31 (0,0)):=ZE w _;have hsz0:w.heap.size < (w.alloc (.cells #[K,A,X,C,D,E,Co,Ro,t] 31)).heap.size:=by simp
 go_enter func112,ntmps112
 go_wp2_with fail
 refine (H1.out _ bA).mono ?_;rintro e1 w1 ⟨rfl,g1⟩;have b1:=bA.trans (g1.mono (by simp));have k1:w1.heap[w.heap.size]? =some (.cells #[K,A,X,C,D,E,Co,Ro,t] 31 (0,0)):=(g1.block _ hsz0).trans hOB0;have s1:w.heap.size < w1.heap.size:=ZR hsz0 g1.size;clear bA g1 hOB0 hsz0;have q1:w1.cell? (zq w 2)=X:=by rw [ZL w1 w.heap.size 2 _ _ (0,0) k1];rfl
 go_wp2_with fail
 refine (H2.out _ b1).mono ?_;rintro e1 w2 ⟨rfl,g1⟩;have b2:=b1.trans (g1.mono b1.size);have k2:w2.heap[w.heap.size]? =some (.cells #[K,A,X,C,D,E,Co,Ro,t] 31 (0,0)):=(g1.block _ s1).trans k1;have s2:w.heap.size < w2.heap.size:=ZR s1 g1.size;clear g1 b1 k1 s1 q1;have q2:w2.cell? (zq w 3)=C:=by rw [ZL w2 w.heap.size 3 _ _ (0,0) k2];rfl
 go_wp2_with fail
 refine (H3.out _ b2).mono ?_;rintro e1 w3 ⟨rfl,g1⟩;have b3:=b2.trans (g1.mono b2.size);have k3:w3.heap[w.heap.size]? =some (.cells #[K,A,X,C,D,E,Co,Ro,t] 31 (0,0)):=(g1.block _ s2).trans k2;have s3:w.heap.size < w3.heap.size:=ZR s2 g1.size;clear g1 b2 k2 s2 q2;have q3:w3.cell? (zq w 4)=D:=by rw [ZL w3 w.heap.size 4 _ _ (0,0) k3];rfl
 go_wp2_with fail
 refine (H4.out _ b3).mono ?_;rintro e1 w4 ⟨rfl,g1⟩;have b4:=b3.trans (g1.mono b3.size);have k4:w4.heap[w.heap.size]? =some (.cells #[K,A,X,C,D,E,Co,Ro,t] 31 (0,0)):=(g1.block _ s3).trans k3;have s4:w.heap.size < w4.heap.size:=ZR s3 g1.size;clear g1 b3 k3 s3 q3;have q4:w4.cell? (zq w 5)=E:=by rw [ZL w4 w.heap.size 5 _ _ (0,0) k4];rfl
 go_wp2_with fail
 refine (H5.out _ b4).mono ?_;rintro e1 w5 ⟨rfl,g1⟩;have b5:=b4.trans (g1.mono b4.size);have k5:w5.heap[w.heap.size]? =some (.cells #[K,A,X,C,D,E,Co,Ro,t] 31 (0,0)):=(g1.block _ s4).trans k4;have s5:w.heap.size < w5.heap.size:=ZR s4 g1.size;clear g1 b4 k4 s4 q4;have q0:w5.cell? w=K:=by rw [ZL w5 w.heap.size 0 _ _ (0,0) k5];rfl
 have zic:=ae ic;have zir:=ae ir;obtain ⟨x1,hx1⟩:∃ x,([113,32]:List UInt8)++c=x:=⟨_,rfl⟩;have Ax1:=aa (show (⟨#[113,32]⟩:ByteArray)++⟨c.toArray⟩=⟨x1.toArray⟩ by rw [<-hx1];exact an _ _);have lx1:x1.length<=32:=by rw [<-hx1];simp only [ZZ,ZY,ZW];omega
 have zx1:=ae x1;obtain ⟨x2,hx2⟩:∃ x,(x1:List UInt8)++[32,48,32,48,32]=x:=⟨_,rfl⟩;have Ax2:=aa (show (⟨x1.toArray⟩:ByteArray)++⟨#[32,48,32,48,32]⟩=⟨x2.toArray⟩ by rw [<-hx2];exact an _ _);have lx2:x2.length<=37:=by rw [<-hx2];simp only [ZZ,ZY,ZW];omega
 have zx2:=ae x2;obtain ⟨x4,hx4⟩:∃ x,(x2:List UInt8)++d=x:=⟨_,rfl⟩;have Ax4:=aa (show (⟨x2.toArray⟩:ByteArray)++⟨d.toArray⟩=⟨x4.toArray⟩ by rw [<-hx4];exact an _ _);have lx4:x4.length<=67:=by rw [<-hx4];simp only [ZZ,ZY,ZW];omega
 have zx4:=ae x4;obtain ⟨x5,hx5⟩:∃ x,(x4:List UInt8)++[32]=x:=⟨_,rfl⟩;have Ax5:=aa (show (⟨x4.toArray⟩:ByteArray)++⟨#[32]⟩=⟨x5.toArray⟩ by rw [<-hx5];exact an _ _);have lx5:x5.length<=68:=by rw [<-hx5];simp only [ZZ,ZY,ZW];omega
 have zx5:=ae x5;obtain ⟨x7,hx7⟩:∃ x,(x5:List UInt8)++a=x:=⟨_,rfl⟩;have Ax7:=aa (show (⟨x5.toArray⟩:ByteArray)++⟨a.toArray⟩=⟨x7.toArray⟩ by rw [<-hx7];exact an _ _);have lx7:x7.length<=98:=by rw [<-hx7];simp only [ZZ,ZY,ZW];omega
 have zx7:=ae x7;obtain ⟨x8,hx8⟩:∃ x,(x7:List UInt8)++[32]=x:=⟨_,rfl⟩;have Ax8:=aa (show (⟨x7.toArray⟩:ByteArray)++⟨#[32]⟩=⟨x8.toArray⟩ by rw [<-hx8];exact an _ _);have lx8:x8.length<=99:=by rw [<-hx8];simp only [ZZ,ZY,ZW];omega
 have zx8:=ae x8;obtain ⟨x10,hx10⟩:∃ x,(x8:List UInt8)++b=x:=⟨_,rfl⟩;have Ax10:=aa (show (⟨x8.toArray⟩:ByteArray)++⟨b.toArray⟩=⟨x10.toArray⟩ by rw [<-hx10];exact an _ _);have lx10:x10.length<=129:=by rw [<-hx10];simp only [ZZ,ZY,ZW];omega
 have zx10:=ae x10;obtain ⟨x11,hx11⟩:∃ x,(x10:List UInt8)++[32,99,109,32,66,73,32,47,87,32]=x:=⟨_,rfl⟩;have Ax11:=aa (show (⟨x10.toArray⟩:ByteArray)++⟨#[32,99,109,32,66,73,32,47,87,32]⟩=⟨x11.toArray⟩ by rw [<-hx11];exact an _ _);have lx11:x11.length<=139:=by rw [<-hx11];simp only [ZZ,ZY,ZW];omega
 have zx11:=ae x11;obtain ⟨x15,hx15⟩:∃ x,(x11:List UInt8)++ic=x:=⟨_,rfl⟩;have Ax15:=aa (show (⟨x11.toArray⟩:ByteArray)++⟨ic.toArray⟩=⟨x15.toArray⟩ by rw [<-hx15];exact an _ _);have lx15:x15.length<=169:=by rw [<-hx15];simp only [ZZ,ZY,ZW];omega
 have zx15:=ae x15;obtain ⟨x16,hx16⟩:∃ x,(x15:List UInt8)++[32,47,72,32]=x:=⟨_,rfl⟩;have Ax16:=aa (show (⟨x15.toArray⟩:ByteArray)++⟨#[32,47,72,32]⟩=⟨x16.toArray⟩ by rw [<-hx16];exact an _ _);have lx16:x16.length<=173:=by rw [<-hx16];simp only [ZZ,ZY,ZW];omega
 have zx16:=ae x16;obtain ⟨x20,hx20⟩:∃ x,(x16:List UInt8)++ir=x:=⟨_,rfl⟩;have Ax20:=aa (show (⟨x16.toArray⟩:ByteArray)++⟨ir.toArray⟩=⟨x20.toArray⟩ by rw [<-hx20];exact an _ _);have lx20:x20.length<=203:=by rw [<-hx20];simp only [ZZ,ZY,ZW];omega
 have zx20:=ae x20;obtain ⟨x21,hx21⟩:∃ x,(x20:List UInt8)++[32,47,67,83,32,47,71,32,47,66,80,67,32,56,32,73,68,32]=x:=⟨_,rfl⟩;have Ax21:=aa (show (⟨x20.toArray⟩:ByteArray)++⟨#[32,47,67,83,32,47,71,32,47,66,80,67,32,56,32,73,68,32]⟩=⟨x21.toArray⟩ by rw [<-hx21];exact an _ _);have lx21:x21.length<=221:=by rw [<-hx21];simp only [ZZ,ZY,ZW];omega
 have zx21:=ae x21;obtain ⟨x24,hx24⟩:∃ x,(x21:List UInt8)++t.data.toList=x:=⟨_,rfl⟩;have Ax24:=aa (show (⟨x21.toArray⟩:ByteArray)++t=⟨x24.toArray⟩ by rw [<-hx24];exact zP _ _);have lx24:x24.length<=4317:=by rw [<-hx24];simp only [ZZ,ZY,ZW];rw [aP];omega
 have zx24:=ae x24;obtain ⟨x25,hx25⟩:∃ x,(x24:List UInt8)++[10,69,73,32,81,10]=x:=⟨_,rfl⟩;have Ax25:=aa (show (⟨x24.toArray⟩:ByteArray)++⟨#[10,69,73,32,81,10]⟩=⟨x25.toArray⟩ by rw [<-hx25];exact an _ _);have lx25:x25.length<=4323:=by rw [<-hx25];simp only [ZZ,ZY,ZW];omega
 have zx25:=ae x25;have HE:=aa (show x25=[113,32]++c++[32,48,32,48,32]++d++[32]++a++[32]++b++[32,99,109,32,66,73,32,47,87,32]++ic++[32,47,72,32]++ir++[32,47,67,83,32,47,71,32,47,66,80,67,32,56,32,73,68,32]++t.data.toList++[10,69,73,32,81,10] by rw [<-hx25, <-hx24, <-hx21, <-hx20, <-hx16, <-hx15, <-hx11, <-hx10, <-hx8, <-hx7, <-hx5, <-hx4, <-hx2, <-hx1]);have HOB:Hid (∀ (w1:World),af w5 w1->w1.heap[w.heap.size]? =some (.cells #[K,A,X,C,D,E,Co,Ro,t] 31 (0,0))):=fun w1 hG=>(hG.block w.heap.size s5).trans k5
 have HB9:Hid (∀ (w1:World),af w5 w1->Below w w w1):=fun w1 hG=>b5.trans (hG.mono b5.size)
 clear b5 k5 s5 H1 H2 H3 H4 H5 hx1 hx2 hx4 hx5 hx7 hx8 hx10 hx11 hx15 hx16 hx20 hx21 hx24 hx25;go_wp2_with fail
 refine ap 26 _ (ag [.string ⟨c.toArray⟩,.string ⟨x1.toArray⟩,.string ⟨x2.toArray⟩,.string ⟨d.toArray⟩,.string ⟨x4.toArray⟩,.string ⟨x5.toArray⟩,.string ⟨a.toArray⟩,.string ⟨x7.toArray⟩,.string ⟨x8.toArray⟩,.string ⟨b.toArray⟩,.string ⟨x10.toArray⟩,.string ⟨x11.toArray⟩,zq w.heap.size 6,Co,.string ⟨ic.toArray⟩,.string ⟨x15.toArray⟩,.string ⟨x16.toArray⟩,zq w.heap.size 7,Ro,.string ⟨ir.toArray⟩,.string ⟨x20.toArray⟩,.string ⟨x21.toArray⟩,zq w.heap.size 8,t,.string ⟨x24.toArray⟩,.string ⟨x25.toArray⟩]) (by kernel_rfl) rfl (by kernel_rfl) aq ?_;simp only [TD]
 iterate 26
  refine ⟨fun w1 hG hd=>?_,fun v=>?_⟩
  ·have c1:=ZL w1 w.heap.size 6 _ _ (0,0) (HOB.out _ hG);simp at c1;have c2:=ZL w1 w.heap.size 7 _ _ (0,0) (HOB.out _ hG);simp at c2;have c3:=ZL w1 w.heap.size 8 _ _ (0,0) (HOB.out _ hG);simp at c3
   try (have d:=hd _ ⟨ZM _⟩ rfl;simp only [ag,GD] at d;subst d)
   try (have d:=hd _ ⟨.tail _ (.head _)⟩ rfl;simp only [ag,GD] at d;subst d)
   clear hd;go_wp2_with fail
   first
    | exact RG
    | exact CS (by assumption)
    | ((first | with_reducible refine (HC.out w1 (HB9.out w1 hG)).mono ?_ | with_reducible refine (HR.out w1 (HB9.out w1 hG)).mono ?_);rintro e w2 ⟨rfl,hB2⟩;go_wp2_with fail;exact ⟨rfl,hB2⟩)
  simp only [TN]
 intro w6 hG hd;have d25:=hd 25 (by omega);simp only [ag,GD] at d25;subst d25;have HB:=aa (HB9.out w6 hG);clear hd HOB HB9 hG HC HR;go_wp2_with fail
 go_ret;rw [HE.out];exact ⟨rfl,HB.out⟩
end Go.Proofs.YtbklfkpjoinofaaGreatDoor
