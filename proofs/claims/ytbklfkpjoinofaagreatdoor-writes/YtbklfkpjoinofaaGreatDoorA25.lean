import Derived.Test.YtbklfkpjoinofaaGreatDoorA12
import Derived.Test.YtbklfkpjoinofaaGreatDoorA13
import Derived.Test.YtbklfkpjoinofaaGreatDoorA24
set_option linter.all false
set_option maxRecDepth 100000
set_option maxHeartbeats 8000000
namespace Go.Proofs.YtbklfkpjoinofaaGreatDoor
open Go.RowKit Go.Proofs.Tryz
theorem dC (w:World) (X Y W H C R:Int) (h0:0<=C) (h1:C<=64) (h2:0<=R) (h3:R<=64):QB 89 #[.agg #[X,Y,W,H,C,R]] w (C*R:Int):=by
 have hm1:C*R<=64*64:=XY (by omega) (by omega) (by omega) (by omega);have hm0:0<=C*R:=XI (by omega) (by omega);go_enter func89,ntmps89
 go_wp2;go_ret;exact ⟨rfl,(ZV _ w).alloc (ZX _) _⟩
theorem yH (w:World) (C n:Nat) (s:ByteArray) (c0:w.cell? C=some .nilIface) (c1:w.cell? (zq C 1)=n) (f1:w.frozen? (zq C 1)=false) (hn:n<=1000000000) (hs:s.size<=1000000000):
  CP 128 #[zp C,s] w fun e w'=>e=.returned .nilIface/\w'=w.setCell (zq C 1) ((n:Int)+(s.size:Int):Int):=by
 go_enter func128,ntmps128
 go_wp2;go_ret;exact ⟨rfl,rfl⟩
theorem wX (w:World) (T:TypeId) (x:Value) (f:FuncId) (n:Int) (hn:∀ wx,(nilAhead 465 T x "Write").run prog wx=.ok (some false) wx) (hm:∀ wx,(method 465 T x "Write").run prog wx=.ok (f,x) wx) (he:∀ args wx,(callFunc f args).run prog wx=.ok (.enter f args) wx)
  (HW:Hid (CP f #[x,.iface 162 (zp w)] (w.alloc (.cells #[.nilIface,oz] 208)) fun e w'=>∃ v,e=.returned v/\w'.cell? (zq w 1)=some (.int .i64 n)/\Below w w w')):
  QB 88 #[.iface T x] w n:=by
 have HN:=aa (nk w);go_enter func88,ntmps88
 go_wp2_with fail
 refine HN.out.mono ?_;rintro e w1 ⟨rfl,rfl⟩;go_wp2_with fail
 refine HW.out.mono ?_;rintro e w2 ⟨v,rfl,c1,hB⟩;have HQ:=aa (eE w2 w.heap.size n c1);clear HW HN;go_wp2_with fail
 refine HQ.out.mono ?_;rintro e w3 ⟨rfl,rfl⟩;go_wp2;go_ret;exact ⟨rfl,hB⟩
theorem qP (w:World) (X Y W H C R:Int) (s:ByteArray) (HF:Hid (∀ wx,QB 130 #[.agg #[X,Y,W,H,C,R]] wx false)):
  QB 354 #[.agg #[X,Y,W,H,C,R,s]] w false:=by
 have HC:=aa (fun (w1:World) (hG:af (w.alloc (Obj.cells #[X,Y,W,H,C,R,s] 135)) w1)=>fD (vs:=[.int .i64 X,.int .i64 Y,.int .i64 W,.int .i64 H,.int .i64 C,.int .i64 R,.string s]) hG);go_enter func354,ntmps354
 go_wp2_with fail
 refine ap 12 _ (ag [zp w.heap.size,.agg #[X,Y,W,H,C,R],false,false,undef,undef,undef,undef,undef,undef,undef,false]) (by kernel_rfl) rfl (by kernel_rfl) aq ?_;simp only [TD];refine ⟨fun w1 hG hd=>?_,fun v0=>?_⟩
 ·clear hd;go_wp2;exact RG
 simp only [TN];refine ⟨fun w1 hG hd=>?_,fun v1=>?_⟩
 ·have d0:=hd ⟨0,.data⟩ (by simp) rfl;simp only [ag,GD] at d0;clear hd;subst d0;obtain ⟨_,hsz,cs⟩:=HC.out w1 hG;have c0:=cs 0 _ rfl;have c1:=cs 1 _ rfl;have c2:=cs 2 _ rfl;have c3:=cs 3 _ rfl;have c4:=cs 4 _ rfl;have c5:=cs 5 _ rfl;have c6:=cs 6 _ rfl;go_wp2;exact RG
 simp only [TN]
 iterate 10
  refine ⟨fun w1 hG hd=>?_,fun v=>?_⟩
  ·try (have d:=hd _ ⟨ZM _⟩ rfl;simp only [ag,GD] at d;subst d)
   try (have d:=hd _ ⟨.tail _ (.head _)⟩ rfl;simp only [ag,GD] at d;subst d)
   try (have d:=hd _ ⟨.tail _ (.tail _ (.head _))⟩ rfl;simp only [ag,GD] at d;subst d)
   clear hd;go_wp2_with fail
   first
    | exact RG
    | ((with_reducible refine (HF.out w1).mono ?_);rintro e w2 ⟨rfl,hB2⟩;go_wp2;exact ⟨rfl,hB2⟩)
  simp only [TN]
 intro w1 hG hd;have d11:=hd 11 (by omega);simp only [ag,GD] at d11;subst d11;obtain ⟨hGw,_⟩:=HC.out w1 hG;have HGw:=aa hGw;clear hd HC hG hGw;go_wp2;go_ret;exact ⟨rfl,HGw.out⟩
theorem r_ (w:World) (X Y W H C R:Int) (s:ByteArray) (HF:Hid (∀ wx,QB 130 #[.agg #[X,Y,W,H,C,R]] wx true)) (hs:s.size<=9223372036854775807) (h0:0<=C) (h1:C<=64) (h2:0<=R) (h3:R<=64) (he:(s.size:Int)=C*R):
  QB 354 #[.agg #[X,Y,W,H,C,R,s]] w true:=by
 have HC:=aa (fun (w1:World) (hG:af (w.alloc (Obj.cells #[X,Y,W,H,C,R,s] 135)) w1)=>fD (vs:=[.int .i64 X,.int .i64 Y,.int .i64 W,.int .i64 H,.int .i64 C,.int .i64 R,.string s]) hG);have HY:=aa (fun wx=>dC wx X Y W H C R h0 h1 h2 h3);go_enter func354,ntmps354
 go_wp2_with fail
 refine ap 12 _ (ag [zp w.heap.size,.agg #[X,Y,W,H,C,R],true,true,zq w.heap.size 6,s,(s.size:Int),zp w.heap.size,.agg #[X,Y,W,H,C,R],(C*R:Int),true,true]) (by kernel_rfl) rfl (by kernel_rfl) aq ?_;simp only [TD];refine ⟨fun w1 hG hd=>?_,fun v0=>?_⟩
 ·clear hd;go_wp2;exact RG
 simp only [TN];refine ⟨fun w1 hG hd=>?_,fun v1=>?_⟩
 ·have d0:=hd ⟨0,.data⟩ (by simp) rfl;simp only [ag,GD] at d0;clear hd;subst d0;obtain ⟨_,hsz,cs⟩:=HC.out w1 hG;have c0:=cs 0 _ rfl;have c1:=cs 1 _ rfl;have c2:=cs 2 _ rfl;have c3:=cs 3 _ rfl;have c4:=cs 4 _ rfl;have c5:=cs 5 _ rfl;have c6:=cs 6 _ rfl;go_wp2;exact RG
 simp only [TN]
 iterate 3
  refine ⟨fun w1 hG hd=>?_,fun v=>?_⟩
  ·try (have d:=hd _ ⟨ZM _⟩ rfl;simp only [ag,GD] at d;subst d)
   clear hd;go_wp2_with fail
   first
    | exact RG
    | ((with_reducible refine (HF.out w1).mono ?_);rintro e w2 ⟨rfl,hB2⟩;go_wp2;exact ⟨rfl,hB2⟩)
  simp only [TN]
 refine ⟨fun w1 hG hd=>?_,fun v5=>?_⟩
 ·have d4:=hd ⟨4,.data⟩ (by simp) rfl;have d3:=hd ⟨3,.guard⟩ (by simp) rfl;simp only [ag,GD] at d4 d3;clear hd;subst d4 d3;obtain ⟨_,hsz,cs⟩:=HC.out w1 hG;have c0:=cs 0 _ rfl;have c1:=cs 1 _ rfl;have c2:=cs 2 _ rfl;have c3:=cs 3 _ rfl;have c4:=cs 4 _ rfl;have c5:=cs 5 _ rfl;have c6:=cs 6 _ rfl;go_wp2;exact RG
 simp only [TN]
 iterate 2
  refine ⟨fun w1 hG hd=>?_,fun v=>?_⟩
  ·try (have d:=hd _ ⟨ZM _⟩ rfl;simp only [ag,GD] at d;subst d)
   try (have d:=hd _ ⟨.tail _ (.head _)⟩ rfl;simp only [ag,GD] at d;subst d)
   clear hd;go_wp2;exact RG
  simp only [TN]
 refine ⟨fun w1 hG hd=>?_,fun v8=>?_⟩
 ·have d7:=hd ⟨7,.data⟩ (by simp) rfl;have d3:=hd ⟨3,.guard⟩ (by simp) rfl;simp only [ag,GD] at d7 d3;clear hd;subst d7 d3;obtain ⟨_,hsz,cs⟩:=HC.out w1 hG;have c0:=cs 0 _ rfl;have c1:=cs 1 _ rfl;have c2:=cs 2 _ rfl;have c3:=cs 3 _ rfl;have c4:=cs 4 _ rfl;have c5:=cs 5 _ rfl;have c6:=cs 6 _ rfl;go_wp2;exact RG
 simp only [TN]
 iterate 3
  refine ⟨fun w1 hG hd=>?_,fun v=>?_⟩
  ·try (have d:=hd _ ⟨ZM _⟩ rfl;simp only [ag,GD] at d;subst d)
   try (have d:=hd _ ⟨.tail _ (.head _)⟩ rfl;simp only [ag,GD] at d;subst d)
   try (have d:=hd _ ⟨.tail _ (.tail _ (.head _))⟩ rfl;simp only [ag,GD] at d;subst d)
   clear hd;go_wp2_with fail
   first
    | exact RG
    | ((with_reducible refine (HY.out w1).mono ?_);rintro e w2 ⟨rfl,hB2⟩;go_wp2;exact ⟨rfl,hB2⟩)
  simp only [TN]
 intro w1 hG hd;have d11:=hd 11 (by omega);simp only [ag,GD] at d11;subst d11;obtain ⟨hGw,_⟩:=HC.out w1 hG;have HGw:=aa hGw;clear hd HC hG hGw;go_wp2;go_ret;exact ⟨rfl,HGw.out⟩
theorem rt (w:World) (X Y W H C R:Int) (s:ByteArray) (HF:Hid (∀ wx,QB 130 #[.agg #[X,Y,W,H,C,R]] wx true)) (hs:s.size<=9223372036854775807) (h0:0<=C) (h1:C<=64) (h2:0<=R) (h3:R<=64) (he:¬ (s.size:Int)=C*R):
  QB 354 #[.agg #[X,Y,W,H,C,R,s]] w false:=by
 have HC:=aa (fun (w1:World) (hG:af (w.alloc (Obj.cells #[X,Y,W,H,C,R,s] 135)) w1)=>fD (vs:=[.int .i64 X,.int .i64 Y,.int .i64 W,.int .i64 H,.int .i64 C,.int .i64 R,.string s]) hG);have HY:=aa (fun wx=>dC wx X Y W H C R h0 h1 h2 h3);have heb:((s.size:Int)==C*R)=false:=by simpa using he
 go_enter func354,ntmps354
 go_wp2_with fail
 refine ap 12 _ (ag [zp w.heap.size,.agg #[X,Y,W,H,C,R],true,true,zq w.heap.size 6,s,(s.size:Int),zp w.heap.size,.agg #[X,Y,W,H,C,R],(C*R:Int),false,false]) (by kernel_rfl) rfl (by kernel_rfl) aq ?_;simp only [TD];refine ⟨fun w1 hG hd=>?_,fun v0=>?_⟩
 ·clear hd;go_wp2;exact RG
 simp only [TN];refine ⟨fun w1 hG hd=>?_,fun v1=>?_⟩
 ·have d0:=hd ⟨0,.data⟩ (by simp) rfl;simp only [ag,GD] at d0;clear hd;subst d0;obtain ⟨_,hsz,cs⟩:=HC.out w1 hG;have c0:=cs 0 _ rfl;have c1:=cs 1 _ rfl;have c2:=cs 2 _ rfl;have c3:=cs 3 _ rfl;have c4:=cs 4 _ rfl;have c5:=cs 5 _ rfl;have c6:=cs 6 _ rfl;go_wp2;exact RG
 simp only [TN]
 iterate 3
  refine ⟨fun w1 hG hd=>?_,fun v=>?_⟩
  ·try (have d:=hd _ ⟨ZM _⟩ rfl;simp only [ag,GD] at d;subst d)
   clear hd;go_wp2_with fail
   first
    | exact RG
    | ((with_reducible refine (HF.out w1).mono ?_);rintro e w2 ⟨rfl,hB2⟩;go_wp2;exact ⟨rfl,hB2⟩)
  simp only [TN]
 refine ⟨fun w1 hG hd=>?_,fun v5=>?_⟩
 ·have d4:=hd ⟨4,.data⟩ (by simp) rfl;have d3:=hd ⟨3,.guard⟩ (by simp) rfl;simp only [ag,GD] at d4 d3;clear hd;subst d4 d3;obtain ⟨_,hsz,cs⟩:=HC.out w1 hG;have c0:=cs 0 _ rfl;have c1:=cs 1 _ rfl;have c2:=cs 2 _ rfl;have c3:=cs 3 _ rfl;have c4:=cs 4 _ rfl;have c5:=cs 5 _ rfl;have c6:=cs 6 _ rfl;go_wp2;exact RG
 simp only [TN]
 iterate 2
  refine ⟨fun w1 hG hd=>?_,fun v=>?_⟩
  ·try (have d:=hd _ ⟨ZM _⟩ rfl;simp only [ag,GD] at d;subst d)
   try (have d:=hd _ ⟨.tail _ (.head _)⟩ rfl;simp only [ag,GD] at d;subst d)
   clear hd;go_wp2;exact RG
  simp only [TN]
 refine ⟨fun w1 hG hd=>?_,fun v8=>?_⟩
 ·have d7:=hd ⟨7,.data⟩ (by simp) rfl;have d3:=hd ⟨3,.guard⟩ (by simp) rfl;simp only [ag,GD] at d7 d3;clear hd;subst d7 d3;obtain ⟨_,hsz,cs⟩:=HC.out w1 hG;have c0:=cs 0 _ rfl;have c1:=cs 1 _ rfl;have c2:=cs 2 _ rfl;have c3:=cs 3 _ rfl;have c4:=cs 4 _ rfl;have c5:=cs 5 _ rfl;have c6:=cs 6 _ rfl;go_wp2;exact RG
 simp only [TN]
 iterate 3
  refine ⟨fun w1 hG hd=>?_,fun v=>?_⟩
  ·try (have d:=hd _ ⟨ZM _⟩ rfl;simp only [ag,GD] at d;subst d)
   try (have d:=hd _ ⟨.tail _ (.head _)⟩ rfl;simp only [ag,GD] at d;subst d)
   try (have d:=hd _ ⟨.tail _ (.tail _ (.head _))⟩ rfl;simp only [ag,GD] at d;subst d)
   clear hd;go_wp2_with fail
   first
    | exact RG
    | ((with_reducible refine (HY.out w1).mono ?_);rintro e w2 ⟨rfl,hB2⟩;go_wp2;exact ⟨rfl,hB2⟩)
  simp only [TN]
 intro w1 hG hd;have d11:=hd 11 (by omega);simp only [ag,GD] at d11;subst d11;obtain ⟨hGw,_⟩:=HC.out w1 hG;have HGw:=aa hGw;clear hd HC hG hGw;go_wp2;go_ret;exact ⟨rfl,HGw.out⟩
theorem dP {P:Program} {fn:Func} {p u:Tmp} {ty:TypeId} (h:fn.results=#[.cell p ty,.tmp u]) (tmps:Array Value) (w:World) (g:Nat) (t:TypeId) (cs:Array Value) (fr:Nat×Nat) (d:TypeDesc)
  (hp:tmps.getD p undef=.pointer (some ⟨g,0,none⟩)) (hg:w.heap[g]? =some (.cells cs t fr))
  (hu:P.underlying ty=some d) (hd:(match d with | .struct _ | .array _ _=>true | _=>false)=true) (hi:(P.info? ty).map (·.size)=some cs.size):
  (results fn tmps).run P w=.ok (.tuple #[.agg cs,tmps.getD u undef]) w:=by
 have hp':tmps[p]?.getD undef=.pointer (some ⟨g,0,none⟩):=by simpa using hp
 rw [results_cell_tmp h,hp];simp [asAddr,run_loadVar_row w g t ty cs fr d hg hu hd hi]
theorem r9 (w:World) (K A B C D E Co Ro:Int) (s:ByteArray) (HF:Hid (∀ wx,QB 130 #[.agg #[A,B,C,D,Co,Ro]] wx false)):
  QB 87 #[.agg #[K,A,B,C,D,E,Co,Ro,s]] w (.tuple #[.agg #[(0:Int),(0:Int),(0:Int),(0:Int),(0:Int),(0:Int)],false]):=by
 have HO:=aa (fun wx=>iJ wx K A B C D E Co Ro s);have HP:=aa (fun wx=>fx wx A B C D Co Ro);go_enter func87,ntmps87
 go_wp2_with fail
 refine (HO.out _).mono ?_;rintro e w0 ⟨rfl,hB1⟩;have hz0:w.heap.size+2<=w0.heap.size:=by have:=hB1.size;simpa using this
 obtain ⟨w1h,hw1h⟩:∃ k,k=w0.heap.size:=⟨_,rfl⟩;have e0:w0.heap[w.heap.size]? =some (.cells #[K,A,B,C,D,E,Co,Ro,s] 31 (0,0)):=(hB1.block w.heap.size (by first | (simp;done) | (simp;omega))).trans ((ZC _ _ w.heap.size (by first | (simp;done) | (simp;omega))).trans (ZE w _));have e1:w0.heap[w.heap.size+1]? =some (.cells #[oz,oz,oz,oz,oz,oz] 130 (0,0)):=(hB1.block (w.heap.size+1) (by first | (simp;done) | (simp;omega))).trans (YE w _ _);have b0:Below w w w0:=(((ZV _ w).alloc (ZX _) _).alloc (by first | (simp;done) | (simp;omega)) _).trans (hB1.mono (by first | (simp;done) | (simp;omega)));have HFB:Hid (∀ (w1:World),af (w0.alloc (Obj.cells #[A,B,C,D,Co,Ro] 130)) w1->w1.heap[w1h]? =some (.cells #[A,B,C,D,Co,Ro] 130 (0,0))):=fun w1 hG=>by rw [hw1h];exact (hG.block w0.heap.size (by first | (simp;done) | (simp;omega))).trans (ZE w0 _)
 have HOB:=aa (fun (w1:World) (hG:af (w0.alloc (Obj.cells #[A,B,C,D,Co,Ro] 130)) w1)=>((hG.block w.heap.size (by first | (simp;done) | (simp;omega))).trans (ZC _ _ w.heap.size (by omega))).trans e0);have HRB:=aa (fun (w1:World) (hG:af (w0.alloc (Obj.cells #[A,B,C,D,Co,Ro] 130)) w1)=>((hG.block (w.heap.size+1) (by first | (simp;done) | (simp;omega))).trans (ZC _ _ (w.heap.size+1) (by omega))).trans e1);have HG0:=aa (fun (w1:World) (hG:af (w0.alloc (Obj.cells #[A,B,C,D,Co,Ro] 130)) w1)=>b0.trans ((((ZV _ w0).alloc (ZX _) _).trans (hG.mono (by first | (simp;done) | (simp;omega)))).mono (by omega)));clear hB1 e0 e1 b0;go_wp2_with fail
 rw [<-hw1h];refine ap 8 _ (ag [.agg #[A,B,C,D,Co,Ro],false,true,true,undef,undef,undef,undef]) (by kernel_rfl) rfl (by kernel_rfl) aq ?_;simp only [TD];refine ⟨fun w1 hG hd=>?_,fun v0=>?_⟩
 ·clear hd;refine cy rfl 130 (.tmp 4) rfl w1h rfl 130 _ (0,0) _ (HFB.out _ hG) underlying130 rfl (by kernel_rfl) ?_;refine Zq ?_;exact ⟨rfl,rfl,rfl,af.refl _⟩
 simp only [TN]
 iterate 7
  refine ⟨fun w1 hG hd=>?_,fun v=>?_⟩
  ·try (have d:=hd _ ⟨ZM _⟩ rfl;simp only [ag,GD] at d;subst d)
   try (have d:=hd _ ⟨.tail _ (.head _)⟩ rfl;simp only [ag,GD] at d;subst d)
   try (have d:=hd _ ⟨.tail _ (.tail _ (.head _))⟩ rfl;simp only [ag,GD] at d;subst d)
   clear hd;go_wp2_with fail
   first
    | exact RG
    | ((with_reducible refine (HF.out w1).mono ?_);rintro e w2 ⟨rfl,hB2⟩;go_wp2;exact ⟨rfl,hB2⟩)
  simp only [TN]
 intro w1 hG hd;have d3:=hd 3 (by omega);have d7:=hd 7 (by omega);simp only [ag,GD] at d3 d7;subst d3 d7;have HRR:=aa (HRB.out w1 hG);have HFF:=aa (HFB.out w1 hG);have HGG:=aa (HG0.out w1 hG);have HR1:=aa (Yt _ (w.heap.size+1) _ #[oz,oz,oz,oz,oz,oz] _ _ HRR.out);have hzz:=hG.size;clear hd HFB HOB HRB HG0 HP HO HF hG;go_wp2_with (first
  | (refine Zu rfl 130 (.tmp 4) rfl w1h rfl 130 _ (0,0) _ HFF.out underlying130 rfl (by kernel_rfl) ?_)
  | (refine YM rfl 130 (.tmp 2) _ rfl (w.heap.size+1) _ rfl rfl _ _ HRR.out (by kernel_rfl) rfl (by kernel_rfl) ?_))
 refine Zb (dP rfl _ _ (w.heap.size+1) 130 _ (0,0) _ rfl HR1.out underlying130 rfl (by kernel_rfl)) rfl ?_;refine ⟨rfl,?_⟩;have hb:=HGG.out;exact {os:=hb.os,tape:=hb.tape,output:=hb.output,size:=by have:=hb.size;simpa using this,block:=fun k hk=>by rw [c_ _ _ _ _ (by omega)];exact hb.block k hk}
theorem fP (w:World) (K A B C D E Co Ro:Int) (s:ByteArray) (HF:Hid (∀ wx,QB 130 #[.agg #[A,B,C,D,Co,Ro]] wx true)) (b:Bool) (hb:b=false/\K=4/\E=0/\s=⟨#[]⟩\/b=true/\(¬ K=4\/¬ E=0\/¬ s.toList=[])):
  QB 87 #[.agg #[K,A,B,C,D,E,Co,Ro,s]] w (bif b then .tuple #[.agg #[(0:Int),(0:Int),(0:Int),(0:Int),(0:Int),(0:Int)],false] else .tuple #[.agg #[A,B,C,D,Co,Ro],true]):=by
 have HO:=aa (fun wx=>iJ wx K A B C D E Co Ro s);have HP:=aa (fun wx=>fx wx A B C D Co Ro);go_enter func87,ntmps87
 go_wp2_with fail
 refine (HO.out _).mono ?_;rintro e w0 ⟨rfl,hB1⟩;have hz0:w.heap.size+2<=w0.heap.size:=by have:=hB1.size;simpa using this
 obtain ⟨w1h,hw1h⟩:∃ k,k=w0.heap.size:=⟨_,rfl⟩;have e0:w0.heap[w.heap.size]? =some (.cells #[K,A,B,C,D,E,Co,Ro,s] 31 (0,0)):=(hB1.block w.heap.size (by first | (simp;done) | (simp;omega))).trans ((ZC _ _ w.heap.size (by first | (simp;done) | (simp;omega))).trans (ZE w _));have e1:w0.heap[w.heap.size+1]? =some (.cells #[oz,oz,oz,oz,oz,oz] 130 (0,0)):=(hB1.block (w.heap.size+1) (by first | (simp;done) | (simp;omega))).trans (YE w _ _);have b0:Below w w w0:=(((ZV _ w).alloc (ZX _) _).alloc (by first | (simp;done) | (simp;omega)) _).trans (hB1.mono (by first | (simp;done) | (simp;omega)));have HFB:Hid (∀ (w1:World),af (w0.alloc (Obj.cells #[A,B,C,D,Co,Ro] 130)) w1->w1.heap[w1h]? =some (.cells #[A,B,C,D,Co,Ro] 130 (0,0))):=fun w1 hG=>by rw [hw1h];exact (hG.block w0.heap.size (by first | (simp;done) | (simp;omega))).trans (ZE w0 _)
 have HOB:=aa (fun (w1:World) (hG:af (w0.alloc (Obj.cells #[A,B,C,D,Co,Ro] 130)) w1)=>((hG.block w.heap.size (by first | (simp;done) | (simp;omega))).trans (ZC _ _ w.heap.size (by omega))).trans e0);have HRB:=aa (fun (w1:World) (hG:af (w0.alloc (Obj.cells #[A,B,C,D,Co,Ro] 130)) w1)=>((hG.block (w.heap.size+1) (by first | (simp;done) | (simp;omega))).trans (ZC _ _ (w.heap.size+1) (by omega))).trans e1);have HG0:=aa (fun (w1:World) (hG:af (w0.alloc (Obj.cells #[A,B,C,D,Co,Ro] 130)) w1)=>b0.trans ((((ZV _ w0).alloc (ZX _) _).trans (hG.mono (by first | (simp;done) | (simp;omega)))).mono (by omega)));clear hB1 e0 e1 b0;go_wp2_with fail
 rw [<-hw1h];refine ap 8 _ (ag [.agg #[A,B,C,D,Co,Ro],true,false,false,.agg #[A,B,C,D,Co,Ro],.agg #[(4:Int),A,B,C,D,(0:Int),Co,Ro,.string ⟨#[]⟩],.agg #[K,A,B,C,D,E,Co,Ro,s],b]) (by kernel_rfl) rfl (by kernel_rfl) aq ?_;simp only [TD];refine ⟨fun w1 hG hd=>?_,fun v0=>?_⟩
 ·clear hd;refine cy rfl 130 (.tmp 4) rfl w1h rfl 130 _ (0,0) _ (HFB.out _ hG) underlying130 rfl (by kernel_rfl) ?_;refine Zq ?_;exact ⟨rfl,rfl,rfl,af.refl _⟩
 simp only [TN]
 iterate 3
  refine ⟨fun w1 hG hd=>?_,fun v=>?_⟩
  ·try (have d:=hd _ ⟨ZM _⟩ rfl;simp only [ag,GD] at d;subst d)
   clear hd;go_wp2_with fail
   first
    | exact RG
    | ((with_reducible refine (HF.out w1).mono ?_);rintro e w2 ⟨rfl,hB2⟩;go_wp2;exact ⟨rfl,hB2⟩)
  simp only [TN]
 refine ⟨fun w1 hG hd=>?_,fun v4=>?_⟩
 ·have d3:=hd ⟨3,.guard⟩ (by simp) rfl;simp only [ag,GD] at d3;clear hd;subst d3;refine cy rfl 130 (.tmp 4) rfl w1h rfl 130 _ (0,0) _ (HFB.out _ hG) underlying130 rfl (by kernel_rfl) ?_;refine Zq ?_;exact ⟨rfl,rfl,rfl,af.refl _⟩
 simp only [TN];refine ⟨fun w1 hG hd=>?_,fun v5=>?_⟩
 ·have d4:=hd ⟨4,.data⟩ (by simp) rfl;have d3:=hd ⟨3,.guard⟩ (by simp) rfl;simp only [ag,GD] at d4 d3;clear hd;subst d4 d3;have HX:=aa (HP.out w1);go_wp2_with fail
  refine HX.out.mono ?_;rintro e w2 ⟨rfl,hB2⟩;go_wp2;exact ⟨rfl,hB2⟩
 simp only [TN];refine ⟨fun w1 hG hd=>?_,fun v6=>?_⟩
 ·have d3:=hd ⟨3,.guard⟩ (by simp) rfl;simp only [ag,GD] at d3;clear hd;subst d3;refine cy rfl 31 (.tmp 1) rfl w.heap.size rfl 31 _ (0,0) _ (HOB.out _ hG) underlying31 rfl (by kernel_rfl) ?_;refine Zq ?_;exact ⟨rfl,rfl,rfl,af.refl _⟩
 simp only [TN];refine ⟨fun w1 hG hd=>?_,fun v7=>?_⟩
 ·have d5:=hd ⟨5,.data⟩ (by simp) rfl;have d6:=hd ⟨6,.data⟩ (by simp) rfl;have d3:=hd ⟨3,.guard⟩ (by simp) rfl;simp only [ag,GD] at d5 d6 d3;clear hd;subst d5 d6 d3;rcases hb with ⟨rfl,rfl,rfl,rfl⟩ | ⟨rfl,h | h | h⟩ <;> (go_wp2 <;> exact RG)
 simp only [TN];intro w1 hG hd;have d3:=hd 3 (by omega);have d7:=hd 7 (by omega);simp only [ag,GD] at d3 d7;subst d3 d7;have HRR:=aa (HRB.out w1 hG);have HFF:=aa (HFB.out w1 hG);have HGG:=aa (HG0.out w1 hG);have hzz:=hG.size;clear hd HFB HOB HRB HG0 HP HO HF hG hb
 cases b
 have HR1:=aa (Yt _ (w.heap.size+1) _ #[A,B,C,D,Co,Ro] _ _ HRR.out)
 rotate_left
 have HR1:=aa (Yt _ (w.heap.size+1) _ #[oz,oz,oz,oz,oz,oz] _ _ HRR.out)
 all_goals
  go_wp2_with (first
   | (refine Zu rfl 130 (.tmp 4) rfl w1h rfl 130 _ (0,0) _ HFF.out underlying130 rfl (by kernel_rfl) ?_)
   | (refine YM rfl 130 (.tmp 2) _ rfl (w.heap.size+1) _ rfl rfl _ _ HRR.out (by kernel_rfl) rfl (by kernel_rfl) ?_))
  refine Zb (dP rfl _ _ (w.heap.size+1) 130 _ (0,0) _ rfl HR1.out underlying130 rfl (by kernel_rfl)) rfl ?_;refine ⟨rfl,?_⟩;have hb:=HGG.out;exact {os:=hb.os,tape:=hb.tape,output:=hb.output,size:=by have:=hb.size;simpa using this,block:=fun k hk=>by rw [c_ _ _ _ _ (by omega)];exact hb.block k hk}
theorem j0 (w:World) (A B C D E Co Ro:Int) (s:ByteArray) (HF:Hid (∀ wx,QB 354 #[.agg #[A,B,C,D,Co,Ro,s]] wx false)):
  QB 93 #[.agg #[(4:Int),A,B,C,D,E,Co,Ro,s]] w (.tuple #[.nilIface,false]):=by
 have hm:=fun w=>uN #[A,B,C,D,Co,Ro,s] w
 have HO:=aa (fun wx=>kq wx A B C D E Co Ro s);have HP:=aa (fun wx=>lC wx A B C D E Co Ro s);have HC:=aa (fun (w1:World) (hG:af (w.alloc (Obj.cells #[(4:Int),A,B,C,D,E,Co,Ro,s] 31)) w1)=>(hG.block w.heap.size (by simp)).trans (ZE w (Obj.cells #[(4:Int),A,B,C,D,E,Co,Ro,s] 31)));have HG0:=aa (fun (w1:World) (hG:af (w.alloc (Obj.cells #[(4:Int),A,B,C,D,E,Co,Ro,s] 31)) w1)=>af.trans (aN w _) hG);go_enter func93,ntmps93
 go_wp2_with fail
 refine (HO.out _).mono ?_;rintro e w1 ⟨rfl,hB1⟩;go_wp2;refine ap 12 21 (ag [.iface 135 (.agg #[A,B,C,D,Co,Ro,s]),false,false,.iface 135 (.agg #[A,B,C,D,Co,Ro,s]),false,true,true,true,undef,undef,undef,undef]) (by kernel_rfl) rfl (by kernel_rfl) aq ?_;simp only [TD]
 iterate 12
  refine ⟨fun w1 hG hd=>?_,fun v=>?_⟩
  ·try (have d:=hd _ ⟨ZM _⟩ rfl;simp only [ag,GD] at d;subst d)
   try (have d:=hd _ ⟨.tail _ (.head _)⟩ rfl;simp only [ag,GD] at d;subst d)
   try (have d:=hd _ ⟨.tail _ (.tail _ (.head _))⟩ rfl;simp only [ag,GD] at d;subst d)
   clear hd;go_wp2_with fail
   first
    | exact RG
    | ((with_reducible refine (HF.out w1).mono ?_);rintro e w2 ⟨rfl,hB2⟩;go_wp2;exact ⟨rfl,hB2⟩)
  simp only [TN]
 intro w2 hG hd;have d4:=hd 4 (by omega);have d7:=hd 7 (by omega);have d11:=hd 11 (by omega);simp only [ag,GD] at d4 d7 d11;subst d4 d7 d11;have HG:=aa (HG0.out w2 (af.trans hB1 hG));clear hd HC HG0 HF HP HO hG hB1;go_wp2;go_ret2;exact ⟨rfl,HG.out⟩
theorem kj (w:World) (A B C D E Co Ro:Int) (s:ByteArray) (b:Bool) (hb:b=false/\E=0\/b=true/\(¬ E=0)) (HF:Hid (∀ wx,QB 354 #[.agg #[A,B,C,D,Co,Ro,s]] wx true)):
  QB 93 #[.agg #[(4:Int),A,B,C,D,E,Co,Ro,s]] w (bif b then .tuple #[.nilIface,false] else .tuple #[.iface 135 (.agg #[A,B,C,D,Co,Ro,s]),true]):=by
 have hm:=fun w=>uN #[A,B,C,D,Co,Ro,s] w
 have HO:=aa (fun wx=>kq wx A B C D E Co Ro s);have HP:=aa (fun wx=>lC wx A B C D E Co Ro s);have HC:=aa (fun (w1:World) (hG:af (w.alloc (Obj.cells #[(4:Int),A,B,C,D,E,Co,Ro,s] 31)) w1)=>(hG.block w.heap.size (by simp)).trans (ZE w (Obj.cells #[(4:Int),A,B,C,D,E,Co,Ro,s] 31)));have HG0:=aa (fun (w1:World) (hG:af (w.alloc (Obj.cells #[(4:Int),A,B,C,D,E,Co,Ro,s] 31)) w1)=>af.trans (aN w _) hG);go_enter func93,ntmps93
 go_wp2_with fail
 refine (HO.out _).mono ?_;rintro e w1 ⟨rfl,hB1⟩;go_wp2;refine ap 12 21 (ag [.iface 135 (.agg #[A,B,C,D,Co,Ro,s]),false,false,.iface 135 (.agg #[A,B,C,D,Co,Ro,s]),true,false,false,false,.iface 135 (.agg #[A,B,C,D,Co,Ro,s]),.agg #[(4:Int),A,B,C,D,(0:Int),Co,Ro,s],.agg #[(4:Int),A,B,C,D,E,Co,Ro,s],b]) (by kernel_rfl) rfl (by kernel_rfl) aq ?_;simp only [TD]
 iterate 10
  refine ⟨fun w1 hG hd=>?_,fun v=>?_⟩
  ·try (have d:=hd _ ⟨ZM _⟩ rfl;simp only [ag,GD] at d;subst d)
   try (have d:=hd _ ⟨.tail _ (.head _)⟩ rfl;simp only [ag,GD] at d;subst d)
   clear hd;go_wp2_with fail
   first
    | exact RG
    | ((first | with_reducible refine (HF.out w1).mono ?_ | with_reducible refine (HP.out w1).mono ?_);rintro e w2 ⟨rfl,hB2⟩;go_wp2;exact ⟨rfl,hB2⟩)
  simp only [TN]
 refine ⟨fun w2 hG hd=>?_,fun v10=>?_⟩
 ·have d7:=hd ⟨7,.guard⟩ (by simp) rfl;simp only [ag,GD] at d7;clear hd;subst d7;have kO:=HC.out w2 (af.trans hB1 hG);refine cy rfl 31 (.tmp 1) rfl w.heap.size rfl 31 _ (0,0) _ kO underlying31 rfl (by kernel_rfl) ?_;refine Zq ?_;exact ⟨rfl,rfl,rfl,af.refl _⟩
 simp only [TN];refine ⟨fun w2 hG hd=>?_,fun v11=>?_⟩
 ·have d9:=hd ⟨9,.data⟩ (by simp) rfl;have d10:=hd ⟨10,.data⟩ (by simp) rfl;have d7:=hd ⟨7,.guard⟩ (by simp) rfl;simp only [ag,GD] at d9 d10 d7;clear hd;subst d9 d10 d7;rcases hb with ⟨rfl,rfl⟩ | ⟨rfl,h⟩ <;> (go_wp2 <;> exact RG)
 simp only [TN];intro w2 hG hd;have d4:=hd 4 (by omega);have d7:=hd 7 (by omega);have d11:=hd 11 (by omega);simp only [ag,GD] at d4 d7 d11;subst d4 d7 d11;have HG:=aa (HG0.out w2 (af.trans hB1 hG));clear hd HC HG0 HF HP HO hG hB1 hb
 cases b <;> (go_wp2;go_ret2;exact ⟨rfl,HG.out⟩)
theorem vP (w:World) (K A B C D E Co Ro:Int) (s:ByteArray) (h1:¬ K=1) (h2:¬ K=2) (h3:¬ K=3) (h4:¬ K=4):
  QB 93 #[.agg #[K,A,B,C,D,E,Co,Ro,s]] w (.tuple #[.nilIface,false]):=by
 have HO:=aa (fun wx=>qM wx K A B C D E Co Ro s h1 h2 h3 h4);have HG0:=aa (fun (w1:World) (hG:af (w.alloc (Obj.cells #[K,A,B,C,D,E,Co,Ro,s] 31)) w1)=>af.trans (aN w _) hG);go_enter func93,ntmps93
 go_wp2_with fail
 refine (HO.out _).mono ?_;rintro e w0 ⟨rfl,hB1⟩;go_wp2;refine ap 12 _ (ag [.nilIface,true,true,undef,undef,undef,true,true,undef,undef,undef,undef]) (by kernel_rfl) rfl (by kernel_rfl) aq ?_;simp only [TD]
 iterate 12
  refine ⟨fun w1 hG hd=>?_,fun v=>?_⟩
  ·try (have d:=hd _ ⟨ZM _⟩ rfl;simp only [ag,GD] at d;subst d)
   try (have d:=hd _ ⟨.tail _ (.head _)⟩ rfl;simp only [ag,GD] at d;subst d)
   try (have d:=hd _ ⟨.tail _ (.tail _ (.head _))⟩ rfl;simp only [ag,GD] at d;subst d)
   clear hd;go_wp2;exact RG
  simp only [TN]
 intro w2 hG hd;have d7:=hd 7 (by omega);have d11:=hd 11 (by omega);simp only [ag,GD] at d7 d11;subst d7 d11;have HG:=aa (HG0.out w2 (af.trans hB1 hG));clear hd HG0 HO hG hB1;go_wp2;go_ret2;exact ⟨rfl,HG.out⟩
def lm (o:bj):Value:=
 if o.k=1 then .iface 215 (.agg #[o.a,o.b,o.c,o.s])
 else if o.k=2 then .iface 217 (.agg #[o.a,o.b,o.c,o.d,o.e])
 else if o.k=3 then .iface 219 (.agg #[o.a,o.b,o.c,o.d,o.e])
 else .iface 135 (.agg #[o.a,o.b,o.c,o.d,o.co,o.ro,o.s])
theorem ff (s:ByteArray):s.toList=[]↔s.size=0:=by
 rw [Yy];constructor
 ·intro e;have:=congrArg List.length e;simpa using this
 ·intro e;have:s.data.toList.length=0:=by simpa using e
  exact Zh this
theorem fV (s:ByteArray) (h:s.size=0):s=⟨#[]⟩:=by
 apply Zj;apply YF;have:s.data.toList.length=0:=by simpa using h
 simpa using Zh this
theorem pQ (l x:Int):br l [x]=decide (bG x l 14400000):=by rw [Bool.eq_iff_iff];simp only [br,List.all_cons,List.all_nil,Bool.and_true,Zi,Zt];exact Iff.rfl
theorem iQ (l x y:Int):br l [x,y]=(decide (bG x l 14400000)&&decide (bG y l 14400000)):=by rw [Bool.eq_iff_iff];simp only [br,List.all_cons,List.all_nil,Bool.and_true,Zi,Zt];exact Iff.rfl
theorem xk (l x y z:Int):br l [x,y,z]=(decide (bG x l 14400000)&&(decide (bG y l 14400000)&&decide (bG z l 14400000))):=by rw [Bool.eq_iff_iff];simp only [br,List.all_cons,List.all_nil,Bool.and_true,Zi,Zt];exact Iff.rfl
theorem yV (l x y z u:Int):br l [x,y,z,u]=(decide (bG x l 14400000)&&(decide (bG y l 14400000)&&(decide (bG z l 14400000)&&decide (bG u l 14400000)))):=by rw [Bool.eq_iff_iff];simp only [br,List.all_cons,List.all_nil,Bool.and_true,Zi,Zt];exact Iff.rfl
theorem yj (w:World) (o:bj) (hs:o.s.size<=9223372036854775807):
  QB 93 #[o.val] w (.tuple #[if o.is then lm o else .nilIface,.bool (decide o.is)]):=by
 obtain ⟨K,A,B,C,D,E,Co,Ro,s⟩:=o;have no:∀ {f:Prop},¬ (bj.mk K A B C D E Co Ro s).is->(QB 93 #[(bj.mk K A B C D E Co Ro s).val] w (.tuple #[.nilIface,false]))->QB 93 #[(bj.mk K A B C D E Co Ro s).val] w (.tuple #[if (bj.mk K A B C D E Co Ro s).is then lm (bj.mk K A B C D E Co Ro s) else .nilIface,.bool (decide (bj.mk K A B C D E Co Ro s).is)]):=by
  intro _ h g;rw [ZU h,Zf h];exact g
 by_cases k1:K=1
 ·subst k1;by_cases hf:(br (-14400000) [A,B]&&br 1 [C]&&decide (s.size<=100))=true
  ·have HF:Hid (∀ wx,QB 357 #[.agg #[A,B,C,s]] wx true):=fun wx=>by have:=kB wx A B C s hs;rw [hf] at this;exact this
   by_cases hD:D=0
   ·by_cases hE:E=0
    ·by_cases hCo:Co=0
     ·by_cases hRo:Ro=0
      ·subst hD hE hCo hRo;have his:(bj.mk 1 A B C 0 0 0 0 s).is:=by
        simp only [iQ,pQ,Zi,Zt] at hf;exact ⟨hf.1.1.1,hf.1.1.2,.inl ⟨rfl,hf.1.2,rfl,rfl,rfl,rfl,hf.2⟩⟩
       rw [ZO his,YR his];exact eR w A B C 0 0 0 0 s false (.inl ⟨rfl,rfl,rfl,rfl,rfl⟩) HF
      ·exact no (f:=True) (fun h=>by rcases h.2.2 with h | h | h | h <;> simp at h;exact hRo h.2.2.2.2.1) (eR w A B C D E Co Ro s true (.inr ⟨rfl,.inr (.inr (.inr hRo))⟩) HF)
     ·exact no (f:=True) (fun h=>by rcases h.2.2 with h | h | h | h <;> simp at h;exact hCo h.2.2.2.1) (eR w A B C D E Co Ro s true (.inr ⟨rfl,.inr (.inr (.inl hCo))⟩) HF)
    ·exact no (f:=True) (fun h=>by rcases h.2.2 with h | h | h | h <;> simp at h;exact hE h.2.2.1) (eR w A B C D E Co Ro s true (.inr ⟨rfl,.inr (.inl hE)⟩) HF)
   ·exact no (f:=True) (fun h=>by rcases h.2.2 with h | h | h | h <;> simp at h;exact hD h.2.1) (eR w A B C D E Co Ro s true (.inr ⟨rfl,.inl hD⟩) HF)
  ·have hf2:(br (-14400000) [A,B]&&br 1 [C]&&decide (s.size<=100))=false:=by simpa using hf
   refine no (f:=True) (fun h=>hf ?_) (qY w A B C D E Co Ro s (fun wx=>by have:=kB wx A B C s hs;rw [hf2] at this;exact this));obtain ⟨ha,hb,h⟩:=h;rcases h with h | h | h | h <;> simp at h
   simp only [iQ,pQ,Zi,Zt];exact ⟨⟨⟨ha,hb⟩,h.1⟩,h.2.2.2.2.2⟩
 ·by_cases k2:K=2
  ·subst k2;by_cases hf:(br (-14400000) [A,B,C,D]&&br 0 [E])=true
   ·have HF:Hid (∀ wx,QB 359 #[.agg #[A,B,C,D,E]] wx true):=fun wx=>by have:=ku wx A B C D E;rw [hf] at this;exact this
    by_cases hCo:Co=0
    ·by_cases hRo:Ro=0
     ·by_cases hss:s.size=0
      ·subst hCo hRo;have he:=fV s hss;subst he;have his:(bj.mk 2 A B C D E 0 0 ⟨#[]⟩).is:=by
        simp only [yV,pQ,Zi,Zt] at hf;exact ⟨hf.1.1,hf.1.2.1,.inr (.inl ⟨rfl,hf.1.2.2.1,hf.1.2.2.2,hf.2,rfl,rfl,rfl⟩)⟩
       rw [ZO his,YR his];exact fI w A B C D E 0 0 ⟨#[]⟩ false (.inl ⟨rfl,rfl,rfl,rfl⟩) HF
      ·exact no (f:=True) (fun h=>by rcases h.2.2 with h | h | h | h <;> simp at h;exact hss (by rw [h.2.2.2.2.2];rfl)) (fI w A B C D E Co Ro s true (.inr ⟨rfl,.inr (.inr (fun e=>hss ((ff s).1 e)))⟩) HF)
     ·exact no (f:=True) (fun h=>by rcases h.2.2 with h | h | h | h <;> simp at h;exact hRo h.2.2.2.2.1) (fI w A B C D E Co Ro s true (.inr ⟨rfl,.inr (.inl hRo)⟩) HF)
    ·exact no (f:=True) (fun h=>by rcases h.2.2 with h | h | h | h <;> simp at h;exact hCo h.2.2.2.1) (fI w A B C D E Co Ro s true (.inr ⟨rfl,.inl hCo⟩) HF)
   ·have hf2:(br (-14400000) [A,B,C,D]&&br 0 [E])=false:=by simpa using hf
    refine no (f:=True) (fun h=>hf ?_) (qR w A B C D E Co Ro s (fun wx=>by have:=ku wx A B C D E;rw [hf2] at this;exact this));obtain ⟨ha,hb,h⟩:=h;rcases h with h | h | h | h <;> simp at h
    simp only [yV,pQ,Zi,Zt];exact ⟨⟨ha,hb,h.1,h.2.1⟩,h.2.2.1⟩
  ·by_cases k3:K=3
   ·subst k3;by_cases hf:(br (-14400000) [A,B]&&br 0 [C,D,E]&&decide (E<=1000))=true
    ·have HF:Hid (∀ wx,QB 361 #[.agg #[A,B,C,D,E]] wx true):=fun wx=>by have:=jV wx A B C D E;rw [hf] at this;exact this
     by_cases hCo:Co=0
     ·by_cases hRo:Ro=0
      ·by_cases hss:s.size=0
       ·subst hCo hRo;have he:=fV s hss;subst he;have his:(bj.mk 3 A B C D E 0 0 ⟨#[]⟩).is:=by
         simp only [iQ,xk,Zi,Zt] at hf;exact ⟨hf.1.1.1,hf.1.1.2,.inr (.inr (.inl ⟨rfl,hf.1.2.1,hf.1.2.2.1,⟨hf.1.2.2.2.1,hf.2⟩,rfl,rfl,rfl⟩))⟩
        rw [ZO his,YR his];exact fF w A B C D E 0 0 ⟨#[]⟩ false (.inl ⟨rfl,rfl,rfl,rfl⟩) HF
       ·exact no (f:=True) (fun h=>by rcases h.2.2 with h | h | h | h <;> simp at h;exact hss (by rw [h.2.2.2.2.2];rfl)) (fF w A B C D E Co Ro s true (.inr ⟨rfl,.inr (.inr (fun e=>hss ((ff s).1 e)))⟩) HF)
      ·exact no (f:=True) (fun h=>by rcases h.2.2 with h | h | h | h <;> simp at h;exact hRo h.2.2.2.2.1) (fF w A B C D E Co Ro s true (.inr ⟨rfl,.inr (.inl hRo)⟩) HF)
     ·exact no (f:=True) (fun h=>by rcases h.2.2 with h | h | h | h <;> simp at h;exact hCo h.2.2.2.1) (fF w A B C D E Co Ro s true (.inr ⟨rfl,.inl hCo⟩) HF)
    ·have hf2:(br (-14400000) [A,B]&&br 0 [C,D,E]&&decide (E<=1000))=false:=by simpa using hf
     refine no (f:=True) (fun h=>hf ?_) (rT w A B C D E Co Ro s (fun wx=>by have:=jV wx A B C D E;rw [hf2] at this;exact this));obtain ⟨ha,hb,h⟩:=h;rcases h with h | h | h | h <;> simp at h
     simp only [iQ,xk,Zi,Zt];have h4:=h.2.2.1;unfold bG at h4;exact ⟨⟨⟨ha,hb⟩,h.1,h.2.1,⟨h4.1,by omega⟩⟩,h4.2⟩
   ·by_cases k4:K=4
    ·subst k4;by_cases hf:(br (-14400000) [A,B]&&br 1 [C,D]&&(decide (1<=Co)&&decide (Co<=64))&&(decide (1<=Ro)&&decide (Ro<=64)))=true
     ·have HR:Hid (∀ wx,QB 130 #[.agg #[A,B,C,D,Co,Ro]] wx true):=fun wx=>by have:=eJ wx A B C D Co Ro;rw [hf] at this;exact this
      have hf9:=hf;simp only [iQ,Zi,Zt] at hf9;by_cases hsz:(s.size:Int)=Co*Ro
      ·have HF:Hid (∀ wx,QB 354 #[.agg #[A,B,C,D,Co,Ro,s]] wx true):=fun wx=>r_ wx A B C D Co Ro s HR hs (by omega) (by omega) (by omega) (by omega) hsz
       by_cases hE:E=0
       ·subst hE;have his:(bj.mk 4 A B C D 0 Co Ro s).is:=⟨hf9.1.1.1.1,hf9.1.1.1.2,.inr (.inr (.inr ⟨rfl,hf9.1.1.2.1,hf9.1.1.2.2,hf9.1.2,hf9.2,rfl,hsz⟩))⟩;rw [ZO his,YR his];exact kj w A B C D 0 Co Ro s false (.inl ⟨rfl,rfl⟩) HF
       ·exact no (f:=True) (fun h=>by rcases h.2.2 with h | h | h | h <;> simp at h;exact hE h.2.2.2.2.1) (kj w A B C D E Co Ro s true (.inr ⟨rfl,hE⟩) HF)
      ·refine no (f:=True) (fun h=>by rcases h.2.2 with h | h | h | h <;> simp at h;exact hsz h.2.2.2.2.2) (j0 w A B C D E Co Ro s (fun wx=>rt wx A B C D Co Ro s HR hs (by omega) (by omega) (by omega) (by omega) hsz))
     ·have hf2:(br (-14400000) [A,B]&&br 1 [C,D]&&(decide (1<=Co)&&decide (Co<=64))&&(decide (1<=Ro)&&decide (Ro<=64)))=false:=by simpa using hf
      refine no (f:=True) (fun h=>hf ?_) (j0 w A B C D E Co Ro s (fun wx=>qP wx A B C D Co Ro s (fun wx=>by have:=eJ wx A B C D Co Ro;rw [hf2] at this;exact this)));obtain ⟨ha,hb,h⟩:=h;rcases h with h | h | h | h <;> simp at h
      simp only [iQ,Zi,Zt];exact ⟨⟨⟨⟨ha,hb⟩,h.1,h.2.1⟩,h.2.2.1⟩,h.2.2.2.1⟩
    ·exact no (f:=True) (fun h=>by rcases h.2.2 with h | h | h | h <;> exact absurd h.1 (by assumption)) (vP w K A B C D E Co Ro s k1 k2 k3 k4)
def bj.isFrame (o:bj):Prop:=o.k=4/\o.s.size=0/\o.e=0/\bG o.a (-14400000) 14400000/\bG o.b (-14400000) 14400000/\bG o.c 1 14400000/\bG o.d 1 14400000/\bG o.co 1 64/\bG o.ro 1 64
instance (o:bj):Decidable o.isFrame:=inferInstanceAs (Decidable (_/\_))
def AT (o:bj):Value:=.agg #[o.a,o.b,o.c,o.d,o.co,o.ro]
theorem oJ (w:World) (o:bj):
  QB 87 #[o.val] w (.tuple #[if o.isFrame then AT o else .agg #[(0:Int),(0:Int),(0:Int),(0:Int),(0:Int),(0:Int)],.bool (decide o.isFrame)]):=by
 obtain ⟨K,A,B,C,D,E,Co,Ro,s⟩:=o;by_cases hf:(br (-14400000) [A,B]&&br 1 [C,D]&&(decide (1<=Co)&&decide (Co<=64))&&(decide (1<=Ro)&&decide (Ro<=64)))=true
 ·have HR:Hid (∀ wx,QB 130 #[.agg #[A,B,C,D,Co,Ro]] wx true):=fun wx=>by have:=eJ wx A B C D Co Ro;rw [hf] at this;exact this
  have hf9:=hf;simp only [iQ,Zi,Zt] at hf9;by_cases hK:K=4
  ·by_cases hE:E=0
   ·by_cases hss:s.size=0
    ·subst hK hE;have he:=fV s hss;subst he;have his:(bj.mk 4 A B C D 0 Co Ro ⟨#[]⟩).isFrame:=⟨rfl,rfl,rfl,hf9.1.1.1.1,hf9.1.1.1.2,hf9.1.1.2.1,hf9.1.1.2.2,hf9.1.2,hf9.2⟩;rw [ZO his,YR his];exact fP w 4 A B C D 0 Co Ro ⟨#[]⟩ HR false (.inl ⟨rfl,rfl,rfl,rfl⟩)
    ·have hn:¬ (bj.mk K A B C D E Co Ro s).isFrame:=fun h=>hss h.2.1
     rw [ZU hn,Zf hn];exact fP w K A B C D E Co Ro s HR true (.inr ⟨rfl,.inr (.inr (fun e=>hss ((ff s).1 e)))⟩)
   ·have hn:¬ (bj.mk K A B C D E Co Ro s).isFrame:=fun h=>hE h.2.2.1
    rw [ZU hn,Zf hn];exact fP w K A B C D E Co Ro s HR true (.inr ⟨rfl,.inr (.inl hE)⟩)
  ·have hn:¬ (bj.mk K A B C D E Co Ro s).isFrame:=fun h=>hK h.1
   rw [ZU hn,Zf hn];exact fP w K A B C D E Co Ro s HR true (.inr ⟨rfl,.inl hK⟩)
 ·have hf2:(br (-14400000) [A,B]&&br 1 [C,D]&&(decide (1<=Co)&&decide (Co<=64))&&(decide (1<=Ro)&&decide (Ro<=64)))=false:=by simpa using hf
  have hn:¬ (bj.mk K A B C D E Co Ro s).isFrame:=by
   rintro ⟨_,_,_,h4,h5,h6,h7,h8,h9⟩;refine hf ?_;simp only [iQ,Zi,Zt];exact ⟨⟨⟨⟨h4,h5⟩,h6,h7⟩,h8⟩,h9⟩
  rw [ZU hn,Zf hn];exact r9 w K A B C D E Co Ro s (fun wx=>by have:=eJ wx A B C D Co Ro;rw [hf2] at this;exact this)
theorem vY (w:World) (x:Value) (yb:Nat) (hx1:x.oneCell'=true) (k n On W H K A X C D E Co Ro:Int) (t s:ByteArray) (op cl:Bool) (G:World->Prop) (h8:¬ (n=0/\(k=8\/(k=7/\op=false)))) (h9:¬ (n=0/\k=9)) (h10:¬ (k=10/\cl=true))
  (HC:Hid (∀ wx,Below w w wx->CP 28 #[.agg #[x,zp yb],.agg #[k,On,W,H,K,A,X,C,D,E,Co,Ro,t,s]] wx fun e w'=>e=.returned (.tuple #[n,n])/\G w'/\aM w wx w'))
  (FG:Hid (∀ w1,G w1->w1.cell? (zq yb 3)=some (.bool op)/\w1.cell? (zq yb 15)=some (.bool cl))):
  CP 12 #[.agg #[x,zp yb],.agg #[k,On,W,H,K,A,X,C,D,E,Co,Ro,t,s]] w fun e w'=>e=.returned true/\G w':=by
 obtain ⟨wa,hwa⟩:∃ wa,wa=(w.alloc (.cells #[x,zp yb] 35)).alloc (.cells #[.int .i64 k,On,W,H,K,A,X,C,D,E,Co,Ro,t,s] 38):=⟨_,rfl⟩;obtain ⟨pb,hpbe⟩:∃ k,k=w.heap.size:=⟨_,rfl⟩;obtain ⟨sb,hsbe⟩:∃ k,k=w.heap.size+1:=⟨_,rfl⟩;have bA:Below w w wa:=by rw [hwa];exact ((ZV _ w).alloc (ZX _) _).alloc (by simp) _
 have zA:wa.heap.size=w.heap.size+2:=by rw [hwa];simp
 have KP:Hid (wa.heap[pb]? =some (.cells #[x,zp yb] 35 (0,0))):=by rw [hwa,hpbe];exact (ZC _ _ w.heap.size (by simp)).trans (ZE w _)
 have KS:Hid (wa.heap[sb]? =some (.cells #[k,On,W,H,K,A,X,C,D,E,Co,Ro,t,s] 38 (0,0))):=by rw [hwa,hsbe];exact YE w _ _
 have HCC:=aa (HC.out wa bA);have hpb:w.heap.size<=pb:=by omega
 have hsb:w.heap.size<=sb:=by omega
 have hpl:pb < wa.heap.size:=by omega
 have hsl:sb < wa.heap.size:=by omega
 have HWA:=aa hwa;have HPB:=aa hpbe;have HSB:=aa hsbe;clear hwa bA HC;go_enter func12,ntmps12
 clear hpbe hsbe zA;go_wp2_with (first
  | (rw [<-HWA.out, <-HSB.out, <-HPB.out];refine Zu rfl 35 (.tmp 2) rfl pb rfl 35 _ (0,0) _ KP.out underlying35 rfl (by kernel_rfl) ?_)
  | (refine Zu rfl 38 (.tmp 3) rfl sb rfl 38 _ (0,0) _ KS.out underlying38 rfl (by kernel_rfl) ?_))
 refine HCC.out.mono ?_;rintro e w1 ⟨rfl,g,hk⟩;have kp:w1.heap[pb]? =some (.cells #[x,zp yb] 35 (0,0)):=(hk.2 pb hpb hpl).trans KP.out;have ks:w1.heap[sb]? =some (.cells #[k,On,W,H,K,A,X,C,D,E,Co,Ro,t,s] 38 (0,0)):=(hk.2 sb hsb hsl).trans KS.out;have p0:w1.cell? pb=some x:=by rw [ZL w1 pb 0 _ _ (0,0) kp];rfl
 have p1:w1.cell? (zq pb 1)=zp yb:=by rw [ZL w1 pb 1 _ _ (0,0) kp];rfl
 have s0:w1.cell? sb=k:=by rw [ZL w1 sb 0 _ _ (0,0) ks];rfl
 obtain ⟨y3,y15⟩:=FG.out w1 g;have KPP:=aa kp;have zk:=hk.1;clear kp ks hk HCC HWA KP KS;by_cases hn:n=0
 ·have k8:¬ k=8:=fun e=>h8 ⟨hn,.inl e⟩
  have k9:¬ k=9:=fun e=>h9 ⟨hn,e⟩
  subst hn;by_cases k7:k=7
  ·have hop:op=true:=by
    cases op with
    | true=>rfl
    | false=>exact absurd ⟨rfl,.inr ⟨k7,rfl⟩⟩ h8
   subst hop;have k10:¬ k=10:=by omega
   clear h8 h9 h10;go_wp2_with fail
   first
    | (go_ret;exact ⟨rfl,g⟩)
    | exact ⟨rfl,g⟩
  ·by_cases k10:k=10
   ·have hcl:cl=false:=by
     cases cl with
     | false=>rfl
     | true=>exact absurd ⟨k10,rfl⟩ h10
    subst hcl;clear h8 h9 h10;go_wp2_with fail
    first
     | (go_ret;exact ⟨rfl,g⟩)
     | exact ⟨rfl,g⟩
   ·clear h8 h9 h10;go_wp2_with fail
    first
     | (go_ret;exact ⟨rfl,g⟩)
     | exact ⟨rfl,g⟩
 ·by_cases k10:k=10
  ·have hcl:cl=false:=by
    cases cl with
    | false=>rfl
    | true=>exact absurd ⟨k10,rfl⟩ h10
   subst hcl;clear h8 h9 h10;go_wp2_with fail
   first
    | (go_ret;exact ⟨rfl,g⟩)
    | exact ⟨rfl,g⟩
  ·clear h8 h9 h10;go_wp2_with fail
   first
    | (go_ret;exact ⟨rfl,g⟩)
    | exact ⟨rfl,g⟩
theorem sD (w:World) (x:Value) (yb:Nat) (hx1:x.oneCell'=true) (k n On W H K A X C D E Co Ro:Int) (t s:ByteArray) (op cl:Bool) (G:World->Prop) (Z:Ending->World->Prop) (hn:n=0) (hk8:k=8\/(k=7/\op=false)) (HB:Hid (∀ w1,G w1->CP 29 #[.agg #[x,zp yb]] w1 fun e w'=>e=.returned true/\Z (.returned true) w'))
  (HC:Hid (∀ wx,Below w w wx->CP 28 #[.agg #[x,zp yb],.agg #[k,On,W,H,K,A,X,C,D,E,Co,Ro,t,s]] wx fun e w'=>e=.returned (.tuple #[n,n])/\G w'/\aM w wx w'))
  (FG:Hid (∀ w1,G w1->w1.cell? (zq yb 3)=some (.bool op)/\w1.cell? (zq yb 15)=some (.bool cl))):
  CP 12 #[.agg #[x,zp yb],.agg #[k,On,W,H,K,A,X,C,D,E,Co,Ro,t,s]] w Z:=by
 subst hn;obtain ⟨wa,hwa⟩:∃ wa,wa=(w.alloc (.cells #[x,zp yb] 35)).alloc (.cells #[.int .i64 k,On,W,H,K,A,X,C,D,E,Co,Ro,t,s] 38):=⟨_,rfl⟩;obtain ⟨pb,hpbe⟩:∃ k,k=w.heap.size:=⟨_,rfl⟩;obtain ⟨sb,hsbe⟩:∃ k,k=w.heap.size+1:=⟨_,rfl⟩;have bA:Below w w wa:=by rw [hwa];exact ((ZV _ w).alloc (ZX _) _).alloc (by simp) _
 have zA:wa.heap.size=w.heap.size+2:=by rw [hwa];simp
 have KP:Hid (wa.heap[pb]? =some (.cells #[x,zp yb] 35 (0,0))):=by rw [hwa,hpbe];exact (ZC _ _ w.heap.size (by simp)).trans (ZE w _)
 have KS:Hid (wa.heap[sb]? =some (.cells #[k,On,W,H,K,A,X,C,D,E,Co,Ro,t,s] 38 (0,0))):=by rw [hwa,hsbe];exact YE w _ _
 have HCC:=aa (HC.out wa bA);have hpb:w.heap.size<=pb:=by omega
 have hsb:w.heap.size<=sb:=by omega
 have hpl:pb < wa.heap.size:=by omega
 have hsl:sb < wa.heap.size:=by omega
 have HWA:=aa hwa;have HPB:=aa hpbe;have HSB:=aa hsbe;clear hwa bA HC;go_enter func12,ntmps12
 clear hpbe hsbe zA;go_wp2_with (first
  | (rw [<-HWA.out, <-HSB.out, <-HPB.out];refine Zu rfl 35 (.tmp 2) rfl pb rfl 35 _ (0,0) _ KP.out underlying35 rfl (by kernel_rfl) ?_)
  | (refine Zu rfl 38 (.tmp 3) rfl sb rfl 38 _ (0,0) _ KS.out underlying38 rfl (by kernel_rfl) ?_))
 refine HCC.out.mono ?_;rintro e w1 ⟨rfl,g,hk⟩;have kp:w1.heap[pb]? =some (.cells #[x,zp yb] 35 (0,0)):=(hk.2 pb hpb hpl).trans KP.out;have ks:w1.heap[sb]? =some (.cells #[k,On,W,H,K,A,X,C,D,E,Co,Ro,t,s] 38 (0,0)):=(hk.2 sb hsb hsl).trans KS.out;have p0:w1.cell? pb=some x:=by rw [ZL w1 pb 0 _ _ (0,0) kp];rfl
 have p1:w1.cell? (zq pb 1)=zp yb:=by rw [ZL w1 pb 1 _ _ (0,0) kp];rfl
 have s0:w1.cell? sb=k:=by rw [ZL w1 sb 0 _ _ (0,0) ks];rfl
 obtain ⟨y3,y15⟩:=FG.out w1 g;have KPP:=aa kp;have zk:=hk.1;clear kp ks hk HCC HWA KP KS;have HX:=aa (HB.out w1 g);rcases hk8 with hk8 | ⟨hk8,hop⟩
 ·go_wp2_with fail
  refine HX.out.mono ?_;rintro e w2 ⟨rfl,hZ⟩;go_wp2_with fail
  first
   | (go_ret;exact hZ)
   | exact hZ
 ·subst hop;go_wp2_with fail
  refine HX.out.mono ?_;rintro e w2 ⟨rfl,hZ⟩;go_wp2_with fail
  first
   | (go_ret;exact hZ)
   | exact hZ
theorem t7 (w:World) (x:Value) (yb:Nat) (hx1:x.oneCell'=true) (k n On W H K A X C D E Co Ro:Int) (t s:ByteArray) (op cl:Bool) (G:World->Prop) (Z:Ending->World->Prop) (hn:n=0) (hybl:yb < w.heap.size)
  (HG:Hid (∀ w1,G w1->∃ (bs ti:ByteArray) (up um:Value),Hid (QE 20 #[x] w1 bs)/\Hid (CP 30 #[bs] w1 fun e w'=>∃ vp vm:Value,e=.returned (.tuple #[.agg #[ti,vp,vm],oz])/\vp.oneCell'=true/\vm.oneCell'=true/\w'.rangeAt yb 0 [.string ti,up,um]/\yb < w'.heap.size/\aM w w1 w'/\∀ wx,Below w' w' wx->CP 31 #[.agg #[ti,vp,vm],.agg #[ti,up,um]] wx fun e w9=>e=.returned true/\Z (.returned true) w9)))
  (HC:Hid (∀ wx,Below w w wx->CP 28 #[.agg #[x,zp yb],.agg #[(9:Int),On,W,H,K,A,X,C,D,E,Co,Ro,t,s]] wx fun e w'=>e=.returned (.tuple #[n,n])/\G w'/\aM w wx w'))
  (FG:Hid (∀ w1,G w1->w1.cell? (zq yb 3)=some (.bool op)/\w1.cell? (zq yb 15)=some (.bool cl))):
  CP 12 #[.agg #[x,zp yb],.agg #[(9:Int),On,W,H,K,A,X,C,D,E,Co,Ro,t,s]] w Z:=by
 obtain ⟨wa,hwa⟩:∃ wa,wa=(w.alloc (.cells #[x,zp yb] 35)).alloc (.cells #[(9:Int),On,W,H,K,A,X,C,D,E,Co,Ro,t,s] 38):=⟨_,rfl⟩;obtain ⟨pb,hpbe⟩:∃ k,k=w.heap.size:=⟨_,rfl⟩;obtain ⟨sb,hsbe⟩:∃ k,k=w.heap.size+1:=⟨_,rfl⟩;have bA:Below w w wa:=by rw [hwa];exact ((ZV _ w).alloc (ZX _) _).alloc (by simp) _
 have zA:wa.heap.size=w.heap.size+2:=by rw [hwa];simp
 have KP:Hid (wa.heap[pb]? =some (.cells #[x,zp yb] 35 (0,0))):=by rw [hwa,hpbe];exact (ZC _ _ w.heap.size (by simp)).trans (ZE w _)
 have KS:Hid (wa.heap[sb]? =some (.cells #[(9:Int),On,W,H,K,A,X,C,D,E,Co,Ro,t,s] 38 (0,0))):=by rw [hwa,hsbe];exact YE w _ _
 have HCC:=aa (HC.out wa bA);have hpb:w.heap.size<=pb:=by omega
 have hsb:w.heap.size<=sb:=by omega
 have hpl:pb < wa.heap.size:=by omega
 have hsl:sb < wa.heap.size:=by omega
 have HWA:=aa hwa;have HPB:=aa hpbe;have HSB:=aa hsbe;clear hwa bA HC;go_enter func12,ntmps12
 clear hpbe hsbe zA;go_wp2_with (first
  | (rw [<-HWA.out, <-HSB.out, <-HPB.out];refine Zu rfl 35 (.tmp 2) rfl pb rfl 35 _ (0,0) _ KP.out underlying35 rfl (by kernel_rfl) ?_)
  | (refine Zu rfl 38 (.tmp 3) rfl sb rfl 38 _ (0,0) _ KS.out underlying38 rfl (by kernel_rfl) ?_))
 refine HCC.out.mono ?_;rintro e w1 ⟨rfl,g,hk⟩;have kp:w1.heap[pb]? =some (.cells #[x,zp yb] 35 (0,0)):=(hk.2 pb hpb hpl).trans KP.out;have ks:w1.heap[sb]? =some (.cells #[(9:Int),On,W,H,K,A,X,C,D,E,Co,Ro,t,s] 38 (0,0)):=(hk.2 sb hsb hsl).trans KS.out;have p0:w1.cell? pb=some x:=by rw [ZL w1 pb 0 _ _ (0,0) kp];rfl
 have p1:w1.cell? (zq pb 1)=zp yb:=by rw [ZL w1 pb 1 _ _ (0,0) kp];rfl
 have s0:w1.cell? sb=(9:Int):=by rw [ZL w1 sb 0 _ _ (0,0) ks];rfl
 obtain ⟨y3,y15⟩:=FG.out w1 g;have KPP:=aa kp;have zk:=hk.1;clear kp ks hk HCC HWA KP KS;obtain ⟨bs,ti,up,um,HY1,HR1⟩:=HG.out w1 g;clear g HG;subst hn;go_wp2_with fail
 refine HY1.out.mono ?_;rintro e w2 ⟨rfl,rfl⟩;go_wp2_with fail
 refine HR1.out.mono ?_;rintro e w3 ⟨vp,vm,rfl,hvp,hvm,ry,hyb3,hk3,hsm⟩;have HSM:=aa hsm;clear hsm;have p13:w3.cell? (zq pb 1)=zp yb:=by
  have e9:w3.heap[pb]? =_:=(hk3.2 pb hpb (by omega)).trans KPP.out;rw [ZL w3 pb 1 _ _ (0,0) e9];rfl
 have hpb3:pb < w3.heap.size:=ZR (by omega) hk3.1;obtain ⟨db,hdbe⟩:∃ k,k=w3.heap.size:=⟨_,rfl⟩;obtain ⟨w4,hw4⟩:∃ x,x=(w3.alloc (.cells #[.string ⟨#[]⟩,.slice none 0 0,.slice none 0 0] 29)).setRow w3.heap.size #[ti,vp,vm]:=⟨_,rfl⟩;have KDB:Hid (w4.heap[db]? =some (.cells #[ti,vp,vm] 29 (0,0))):=by rw [hw4,hdbe];exact Yt _ w3.heap.size _ _ _ _ (ZE w3 _)
 have hdb:db < w4.heap.size:=by rw [hw4,hdbe];simp
 have b4:Below w3 w3 w4:=by
  rw [hw4];exact {os:=rfl,tape:=rfl,output:=rfl,size:=by simp,block:=fun k hk=>by rw [c_ _ _ _ _ (by omega)];exact ZC w3 _ k hk}
 have p19:w4.cell? (zq pb 1)=zp yb:=(b4.cell (p:=zq pb 1) hpb3).trans p13;have hpb9:pb < w4.heap.size:=ZR hpb3 b4.size;have hyb9:yb < w4.heap.size:=ZR hyb3 b4.size;have RY:Hid (_:Prop):=fun j u hj=>(ZS (a:=zq yb (0+j)) (b4.block yb hyb3)).trans (ry j u hj)
 have HS:=aa (fun wx (hG:af w4 wx)=>HSM.out wx (b4.trans (hG.mono b4.size)));have HV:Hid ((#[ti,vp,vm]:Array Value).all (·.oneCell')=true):=all_oneCell_toArray (cs:=[.string ti,vp,vm]) (by intro v hv;simp only [YJ,XV,or_false] at hv;rcases hv with rfl | rfl | rfl;exact rfl;exact hvp;exact hvm);have HW4:=aa hw4;have HDB:=aa hdbe;clear hw4 hdbe ry hk3 p13 HY1 HR1 b4 HSM;go_wp2_with (refine YM rfl 29 (.tmp 7) _ rfl w3.heap.size _ rfl rfl _ _ (ZE _ _) (by kernel_rfl) rfl HV.out ?_;rw [<-HW4.out, <-HDB.out];clear HW4)
 refine ap 6 _ (ag [.agg #[ti,vp,vm],zq pb 1,zp yb,zp yb,zp yb,.agg #[ti,up,um]]) (by kernel_rfl) rfl (by kernel_rfl) aq ?_;simp only [TD];refine ⟨fun w1 hG hd=>?_,fun v0=>?_⟩
 ·clear hd;refine Zu rfl 29 (.tmp 7) rfl db rfl 29 _ (0,0) _ ((hG.block db hdb).trans KDB.out) underlying29 rfl (by kernel_rfl) ?_;refine Zq ?_;exact ⟨rfl,rfl,rfl,af.refl _⟩
 simp only [TN]
 iterate 4
  refine ⟨fun w1 hG hd=>?_,fun v=>?_⟩
  ·have c1:=(hG.cell (p:=zq pb 1) hpb9).trans p19
   try (have d:=hd _ ⟨ZM _⟩ rfl;simp only [ag,GD] at d;subst d)
   clear hd;go_wp2;exact RG
  simp only [TN]
 refine ⟨fun w1 hG hd=>?_,fun v5=>?_⟩
 ·have d4:=hd ⟨4,.data⟩ (by simp) rfl;simp only [ag,GD] at d4;clear hd;subst d4;refine wpList_load_mid rfl 29 (.tmp 62) rfl yb 0 rfl [.string ti,up,um] _ (fun j u hj=>(ZS (a:=zq yb (0+j)) (hG.block yb hyb9)).trans (RY.out j u hj)) underlying29 rfl (by kernel_rfl) ?_;refine Zq ?_;exact ⟨rfl,rfl,rfl,af.refl _⟩
 simp only [TN];intro w5 hG hd;have d0:=hd 0 (by omega);have d5:=hd 5 (by omega);simp only [ag,GD] at d0 d5;subst d0 d5;have HX:=aa (HS.out w5 hG);clear hd hG HS KDB RY;go_wp2_with fail
 refine HX.out.mono ?_;rintro e w6 ⟨rfl,hZ⟩;clear HX;go_wp2_with fail
 first
  | (go_ret;exact hZ)
  | exact hZ
theorem qy (w:World) (x:Value) (yb:Nat) (hx1:x.oneCell'=true) (k n On W H K A X C D E Co Ro:Int) (t s:ByteArray) (op cl:Bool) (G:World->Prop) (Z:Ending->World->Prop) (hn:n=0) (hcl:cl=true) (hybl:yb < w.heap.size)
  (HG:Hid (∀ w1,G w1->∃ (bs ti:ByteArray) (up um:Value),Hid (QE 20 #[x] w1 bs)/\Hid (CP 30 #[bs] w1 fun e w'=>∃ vp vm:Value,e=.returned (.tuple #[.agg #[ti,vp,vm],oz])/\vp.oneCell'=true/\vm.oneCell'=true/\w'.rangeAt yb 0 [.string ti,up,um]/\yb < w'.heap.size/\aM w w1 w'/\∀ wx,Below w' w' wx->CP 31 #[.agg #[ti,vp,vm],.agg #[ti,up,um]] wx fun e w9=>e=.returned true/\Z (.returned true) w9)))
  (HC:Hid (∀ wx,Below w w wx->CP 28 #[.agg #[x,zp yb],.agg #[(10:Int),On,W,H,K,A,X,C,D,E,Co,Ro,t,s]] wx fun e w'=>e=.returned (.tuple #[n,n])/\G w'/\aM w wx w'))
  (FG:Hid (∀ w1,G w1->w1.cell? (zq yb 3)=some (.bool op)/\w1.cell? (zq yb 15)=some (.bool cl))):
  CP 12 #[.agg #[x,zp yb],.agg #[(10:Int),On,W,H,K,A,X,C,D,E,Co,Ro,t,s]] w Z:=by
 obtain ⟨wa,hwa⟩:∃ wa,wa=(w.alloc (.cells #[x,zp yb] 35)).alloc (.cells #[(10:Int),On,W,H,K,A,X,C,D,E,Co,Ro,t,s] 38):=⟨_,rfl⟩;obtain ⟨pb,hpbe⟩:∃ k,k=w.heap.size:=⟨_,rfl⟩;obtain ⟨sb,hsbe⟩:∃ k,k=w.heap.size+1:=⟨_,rfl⟩;have bA:Below w w wa:=by rw [hwa];exact ((ZV _ w).alloc (ZX _) _).alloc (by simp) _
 have zA:wa.heap.size=w.heap.size+2:=by rw [hwa];simp
 have KP:Hid (wa.heap[pb]? =some (.cells #[x,zp yb] 35 (0,0))):=by rw [hwa,hpbe];exact (ZC _ _ w.heap.size (by simp)).trans (ZE w _)
 have KS:Hid (wa.heap[sb]? =some (.cells #[(10:Int),On,W,H,K,A,X,C,D,E,Co,Ro,t,s] 38 (0,0))):=by rw [hwa,hsbe];exact YE w _ _
 have HCC:=aa (HC.out wa bA);have hpb:w.heap.size<=pb:=by omega
 have hsb:w.heap.size<=sb:=by omega
 have hpl:pb < wa.heap.size:=by omega
 have hsl:sb < wa.heap.size:=by omega
 have HWA:=aa hwa;have HPB:=aa hpbe;have HSB:=aa hsbe;clear hwa bA HC;go_enter func12,ntmps12
 clear hpbe hsbe zA;go_wp2_with (first
  | (rw [<-HWA.out, <-HSB.out, <-HPB.out];refine Zu rfl 35 (.tmp 2) rfl pb rfl 35 _ (0,0) _ KP.out underlying35 rfl (by kernel_rfl) ?_)
  | (refine Zu rfl 38 (.tmp 3) rfl sb rfl 38 _ (0,0) _ KS.out underlying38 rfl (by kernel_rfl) ?_))
 refine HCC.out.mono ?_;rintro e w1 ⟨rfl,g,hk⟩;have kp:w1.heap[pb]? =some (.cells #[x,zp yb] 35 (0,0)):=(hk.2 pb hpb hpl).trans KP.out;have ks:w1.heap[sb]? =some (.cells #[(10:Int),On,W,H,K,A,X,C,D,E,Co,Ro,t,s] 38 (0,0)):=(hk.2 sb hsb hsl).trans KS.out;have p0:w1.cell? pb=some x:=by rw [ZL w1 pb 0 _ _ (0,0) kp];rfl
 have p1:w1.cell? (zq pb 1)=zp yb:=by rw [ZL w1 pb 1 _ _ (0,0) kp];rfl
 have s0:w1.cell? sb=(10:Int):=by rw [ZL w1 sb 0 _ _ (0,0) ks];rfl
 obtain ⟨y3,y15⟩:=FG.out w1 g;have KPP:=aa kp;have zk:=hk.1;clear kp ks hk HCC HWA KP KS;obtain ⟨bs,ti,up,um,HY1,HR1⟩:=HG.out w1 g;clear g HG;subst hn hcl;go_wp2_with fail
 refine HY1.out.mono ?_;rintro e w2 ⟨rfl,rfl⟩;go_wp2_with fail
 refine HR1.out.mono ?_;rintro e w3 ⟨vp,vm,rfl,hvp,hvm,ry,hyb3,hk3,hsm⟩;have HSM:=aa hsm;clear hsm;have p13:w3.cell? (zq pb 1)=zp yb:=by
  have e9:w3.heap[pb]? =_:=(hk3.2 pb hpb (by omega)).trans KPP.out;rw [ZL w3 pb 1 _ _ (0,0) e9];rfl
 have hpb3:pb < w3.heap.size:=ZR (by omega) hk3.1;obtain ⟨db,hdbe⟩:∃ k,k=w3.heap.size:=⟨_,rfl⟩;obtain ⟨w4,hw4⟩:∃ x,x=(w3.alloc (.cells #[.string ⟨#[]⟩,.slice none 0 0,.slice none 0 0] 29)).setRow w3.heap.size #[ti,vp,vm]:=⟨_,rfl⟩;have KDB:Hid (w4.heap[db]? =some (.cells #[ti,vp,vm] 29 (0,0))):=by rw [hw4,hdbe];exact Yt _ w3.heap.size _ _ _ _ (ZE w3 _)
 have hdb:db < w4.heap.size:=by rw [hw4,hdbe];simp
 have b4:Below w3 w3 w4:=by
  rw [hw4];exact {os:=rfl,tape:=rfl,output:=rfl,size:=by simp,block:=fun k hk=>by rw [c_ _ _ _ _ (by omega)];exact ZC w3 _ k hk}
 have p19:w4.cell? (zq pb 1)=zp yb:=(b4.cell (p:=zq pb 1) hpb3).trans p13;have hpb9:pb < w4.heap.size:=ZR hpb3 b4.size;have hyb9:yb < w4.heap.size:=ZR hyb3 b4.size;have RY:Hid (_:Prop):=fun j u hj=>(ZS (a:=zq yb (0+j)) (b4.block yb hyb3)).trans (ry j u hj)
 have HS:=aa (fun wx (hG:af w4 wx)=>HSM.out wx (b4.trans (hG.mono b4.size)));have HV:Hid ((#[ti,vp,vm]:Array Value).all (·.oneCell')=true):=all_oneCell_toArray (cs:=[.string ti,vp,vm]) (by intro v hv;simp only [YJ,XV,or_false] at hv;rcases hv with rfl | rfl | rfl;exact rfl;exact hvp;exact hvm);have HW4:=aa hw4;have HDB:=aa hdbe;clear hw4 hdbe ry hk3 p13 HY1 HR1 b4 HSM;go_wp2_with (refine YM rfl 29 (.tmp 10) _ rfl w3.heap.size _ rfl rfl _ _ (ZE _ _) (by kernel_rfl) rfl HV.out ?_;rw [<-HW4.out, <-HDB.out];clear HW4)
 refine ap 6 _ (ag [.agg #[ti,vp,vm],zq pb 1,zp yb,zp yb,zp yb,.agg #[ti,up,um]]) (by kernel_rfl) rfl (by kernel_rfl) aq ?_;simp only [TD];refine ⟨fun w1 hG hd=>?_,fun v0=>?_⟩
 ·clear hd;refine Zu rfl 29 (.tmp 10) rfl db rfl 29 _ (0,0) _ ((hG.block db hdb).trans KDB.out) underlying29 rfl (by kernel_rfl) ?_;refine Zq ?_;exact ⟨rfl,rfl,rfl,af.refl _⟩
 simp only [TN]
 iterate 4
  refine ⟨fun w1 hG hd=>?_,fun v=>?_⟩
  ·have c1:=(hG.cell (p:=zq pb 1) hpb9).trans p19
   try (have d:=hd _ ⟨ZM _⟩ rfl;simp only [ag,GD] at d;subst d)
   clear hd;go_wp2;exact RG
  simp only [TN]
 refine ⟨fun w1 hG hd=>?_,fun v5=>?_⟩
 ·have d4:=hd ⟨4,.data⟩ (by simp) rfl;simp only [ag,GD] at d4;clear hd;subst d4;refine wpList_load_mid rfl 29 (.tmp 91) rfl yb 0 rfl [.string ti,up,um] _ (fun j u hj=>(ZS (a:=zq yb (0+j)) (hG.block yb hyb9)).trans (RY.out j u hj)) underlying29 rfl (by kernel_rfl) ?_;refine Zq ?_;exact ⟨rfl,rfl,rfl,af.refl _⟩
 simp only [TN];intro w5 hG hd;have d0:=hd 0 (by omega);have d5:=hd 5 (by omega);simp only [ag,GD] at d0 d5;subst d0 d5;have HX:=aa (HS.out w5 hG);clear hd hG HS KDB RY;go_wp2_with fail
 refine HX.out.mono ?_;rintro e w6 ⟨rfl,hZ⟩;clear HX;go_wp2_with fail
 first
  | (go_ret;exact hZ)
  | exact hZ
theorem yw (w:World) (x y:Value) (hx1:x.oneCell'=true) (hy1:y.oneCell'=true) (k On W H K A X C D E Co Ro:Int) (t s:ByteArray) (hk:k < 1\/9 < k):
  CP 28 #[.agg #[x,y],.agg #[k,On,W,H,K,A,X,C,D,E,Co,Ro,t,s]] w fun e w'=>e=.returned (.tuple #[oz,oz])/\af w w':=by
 obtain ⟨wa,hwa⟩:∃ wa,wa=(w.alloc (.cells #[x,y] 35)).alloc (.cells #[.int .i64 k,On,W,H,K,A,X,C,D,E,Co,Ro,t,s] 38):=⟨_,rfl⟩;obtain ⟨sb,hsbe⟩:∃ k,k=w.heap.size+1:=⟨_,rfl⟩;have HA:Hid (af w wa):=by show af _ _;rw [hwa];exact ((ZV _ w).alloc (ZX _) _).alloc (by simp) _
 have c0:wa.cell? sb=k:=by
  have h:wa.heap[sb]? =some (.cells #[k,On,W,H,K,A,X,C,D,E,Co,Ro,t,s] 38 (0,0)):=by rw [hwa,hsbe];exact YE w _ _
  rw [ZL wa sb 0 _ _ (0,0) h];rfl
 have n1:¬ k=1:=by omega
 have n2:¬ k=2:=by omega
 have n3:¬ k=3:=by omega
 have n4:¬ k=4:=by omega
 have n5:¬ k=5:=by omega
 have n6:¬ k=6:=by omega
 have n7:¬ k=7:=by omega
 have n8:¬ k=8:=by omega
 have n9:¬ k=9:=by omega
 clear hk;go_enter func28,ntmps28
 go_wp2_with fail
 rw [<-hwa, <-hsbe];clear hwa hsbe;go_wp2_with fail
 go_ret2;exact ⟨rfl,HA.out⟩
theorem xE (w:World) (c:Int) (h:-9223372036854775808<=c):CP 11 #[c,(3:Int)] w fun e w'=>(∃ n:Int,0<=n/\n < 3/\e=.returned n)/\w'=w:=by
 by_cases d:c < 0
 ·have r1:(-9223372036854775808:Int)<=c+1:=by omega
  have r2:c+1<=9223372036854775807:=by omega
  have r3:0<=-(c+1):=by omega
  go_enter func11,ntmps11
  go_wp2_with fail
  go_ret;have h1:-((c+1).tmod 3)=(-(c+1)) % 3:=by rw [<-Int.neg_tmod,Int.tmod_eq_emod_of_nonneg r3]
  refine ⟨⟨(-(c+1)) % 3,by omega,by omega,?_⟩,rfl⟩;rw [<-h1];rfl
 ·go_enter func11,ntmps11
  go_wp2_with fail
  go_ret;exact ⟨⟨c % 3,by omega,by omega,rfl⟩,rfl⟩
theorem vQ (w:World) (k On W H K A X C D E Co Ro:Int) (t s:ByteArray)
  (HC:Hid (∀ wx yb,af w wx->w.heap.size<=yb->wx.heap[yb]? =some (.cells #[.string ⟨#[]⟩,.slice none 0 0,.slice none 0 0,false,oz,oz,oz,oz,oz,oz,oz,oz,.string ⟨#[]⟩,oz,oz,true] 33 (0,0))->CP 28 #[.agg #[.pointer none,zp yb],.agg #[k,On,W,H,K,A,X,C,D,E,Co,Ro,t,s]] wx fun e w'=>∃ n m,e=.returned (.tuple #[.int .i64 n,.int .i64 m])/\(n=2\/k < 1\/9 < k)/\∃ S',Mv (cC yb) wx S' w')):
  CP 13 #[.agg #[k,On,W,H,K,A,X,C,D,E,Co,Ro,t,s]] w fun e w'=>e=.returned true/\af w w':=by
 obtain ⟨wa,hwa⟩:∃ wa,wa=((w.alloc (.cells #[k,On,W,H,K,A,X,C,D,E,Co,Ro,t,s] 38)).alloc (.cells #[.string ⟨#[]⟩,.slice none 0 0,.slice none 0 0,false,oz,oz,oz,oz,oz,oz,oz,oz,.string ⟨#[]⟩,oz,oz,true] 33)).alloc (.cells #[.pointer none,zp (w.heap.size+1)] 35):=⟨_,rfl⟩;have bA:af w wa:=by rw [hwa];exact (((ZV _ w).alloc (ZX _) _).alloc (by simp) _).alloc (by simp;omega) _
 have zA:wa.heap.size=w.heap.size+3:=by rw [hwa];simp
 have ky:wa.heap[w.heap.size+1]? =some (.cells #[.string ⟨#[]⟩,.slice none 0 0,.slice none 0 0,false,oz,oz,oz,oz,oz,oz,oz,oz,.string ⟨#[]⟩,oz,oz,true] 33 (0,0)):=by rw [hwa];exact (ZC _ _ (w.heap.size+1) (by simp)).trans (YE w _ _)
 have ks:wa.heap[w.heap.size]? =some (.cells #[k,On,W,H,K,A,X,C,D,E,Co,Ro,t,s] 38 (0,0)):=by rw [hwa];exact (ZC _ _ w.heap.size (by simp;omega)).trans ((ZC _ _ w.heap.size (by simp)).trans (ZE w _))
 have HX:=aa (HC.out wa (w.heap.size+1) bA (by omega) ky);have HWA:=aa hwa;have HBA:=aa bA;have KS:=aa ks;have hlt:w.heap.size < wa.heap.size:=by omega
 clear hwa bA ky ks HC zA;go_enter func13,ntmps13
 go_wp2_with fail
 rw [<-HWA.out];refine HX.out.mono ?_;rintro e w1 ⟨n,m,rfl,hn,S1,g1⟩;have c0:w1.cell? w=k:=by rw [ZL w1 w.heap.size 0 _ _ (0,0) ((g1.keep hlt (fun e=>by have:w.heap.size=w.heap.size+1:=e;omega)).trans KS.out)];rfl
 have HG:Hid (af w w1):=Below.trans HBA.out (g1.below (fun k e=>by have:k=w.heap.size+1:=e;omega) HBA.out.size);clear HX HWA HBA KS g1 hlt;have HB:=aa (vx w1);by_cases h2:n=2
 ·subst h2;clear hn;go_wp2_with fail
  refine HB.out.mono ?_;rintro e w2 ⟨rfl,rfl⟩;go_wp2_with fail
  go_ret;exact ⟨rfl,HG.out⟩
 ·by_cases h1:k < 1
  ·have e1:¬ 1<=k:=by omega
   have e2:decide (k < 1)=true:=by simp;omega
   clear hn;go_wp2_with fail
   refine HB.out.mono ?_;rintro e w2 ⟨rfl,rfl⟩;go_wp2_with fail
   go_ret;exact ⟨rfl,HG.out⟩
  ·have h9:9 < k:=by omega
   have e2:decide (k < 1)=false:=by simp;omega
   have e3:decide (9 < k)=true:=by simp;omega
   clear hn;go_wp2_with fail
   refine HB.out.mono ?_;rintro e w2 ⟨rfl,rfl⟩;go_wp2_with fail
   go_ret;exact ⟨rfl,HG.out⟩
theorem cj {f g} {aw ar ac:Array Value} (HC:∀ (w:World) (Q1:Int->World->Prop) (Z:Ending->World->Prop),Hid (∀ wx,Below w w wx->CP f aw wx fun e w'=>∃ n,e=.returned (.int .i64 n)/\Q1 n w'/\aM w wx w')->Hid (∀ n w1 w2,Q1 n w1->af w1 w2->Q1 n w2)->Hid (∀ n w1,Q1 n w1->CP g ar w1 fun e w'=>∃ m,e=.returned (.int .i64 m)/\Z (.returned (.tuple #[.int .i64 n,.int .i64 m])) w')->CP 28 ac w Z) (w:World) (S:Bl) (Bb:Nat) (a:Int) (P0 Q0 P Q:As) (tP0:aJ Bb P0) (tQ0:aJ Bb Q0) (tP:aJ Bb P) (h:ah P0 Q0 w S) (hB:Bb<=w.heap.size) (ht:bU Bb w)
  (HW:∀ wz S1,P0 wz S1->Bb<=wz.heap.size->bU Bb wz->CP f aw wz fun e w'=>e=.returned a/\∃ S',P w' S'/\Mv S1 wz S' w')
  (HR:∀ wz S1,Q0 wz S1->Bb<=wz.heap.size->bU Bb wz->CP g ar wz fun e w'=>e=.returned a/\∃ S',Q w' S'/\Mv S1 wz S' w'):
  ∀ wx,Below w w wx->CP 28 ac wx fun e w'=>e=.returned (.tuple #[a,a])/\(∃ S',ah P Q w' S'/\Mv S w S' w')/\aM w wx w':=by
 intro wx hbx;have hS:∀ k,S k->k < w.heap.size:=fun k hk=>(ah.thing tP0 tQ0).lt h hk
 have hge:∀ k,S k->Bb<=k:=fun k hk=>(ah.thing tP0 tQ0).ge h hk
 have h1:=(ah.thing tP0 tQ0).grow h hbx;have hBx:Bb<=wx.heap.size:=ZN hB hbx.size;have htx:bU Bb wx:=ht.on (hbx.mono hB);refine HC wx (fun m w1=>m=a/\∃ S1,ah P Q0 w1 S1/\Mv S wx S1 w1) _ ?_ ?_ ?_
 ·intro wz hz;have h2:=(ah.thing tP0 tQ0).grow h1 hz;obtain ⟨S1,hp,_,back⟩:=ah.fst tQ0 h2;refine (HW wz S1 hp (ZN hBx hz.size) (htx.on (hz.mono hBx))).mono ?_;rintro e w' ⟨rfl,S',h',m'⟩;obtain ⟨S2,h3,m3⟩:=back _ _ _ h' m';exact ⟨a,rfl,⟨rfl,S2,h3,(Mv.grow hz S).trans m3⟩,Mv.keepB m3 (fun k hk=>ZR (hS k hk) hbx.size)⟩
 ·rintro m w1 w2 ⟨rfl,S1,h3,m3⟩ g;exact ⟨rfl,S1,(ah.thing tP tQ0).grow h3 g,m3.trans (Mv.grow g S1)⟩
 ·rintro m w1 ⟨rfl,S1,h3,m3⟩;obtain ⟨S2,hq,_,back⟩:=ah.snd tP h3;refine (HR w1 S2 hq (ZN hBx m3.size) (htx.on (m3.below hge hBx))).mono ?_;rintro e w' ⟨rfl,S',h',m'⟩;obtain ⟨S4,h4,m4⟩:=back _ _ _ h' m';exact ⟨_,rfl,rfl,⟨S4,h4,(Mv.grow hbx S).trans (m3.trans m4)⟩,Mv.keepB (m3.trans m4) hS⟩
end Go.Proofs.YtbklfkpjoinofaaGreatDoor
