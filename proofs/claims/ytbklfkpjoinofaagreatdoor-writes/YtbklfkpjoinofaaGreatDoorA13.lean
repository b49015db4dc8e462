import Derived.Test.YtbklfkpjoinofaaGreatDoorA11
set_option linter.all false
set_option maxRecDepth 100000
set_option maxHeartbeats 8000000
namespace Go.Proofs.YtbklfkpjoinofaaGreatDoor
open Go.RowKit Go.Proofs.Tryz
theorem cy {P:Program} {ops:Array Oper} {rest:List Oper} {o:Oper} {a:Act} {w:World} {Q:Exit->Act->World->Prop} (hw:Region.wanted o (yielded ops a.tmps)=true) (ty:TypeId) (x:Operand) (ho:o.op=.load ty x)
  (g:Nat) (hx:a.eval x=.pointer (some ⟨g,0,none⟩)) (t:TypeId) (cs:Array Value) (fr:Nat×Nat) (d:TypeDesc) (hg:w.heap[g]? =some (.cells cs t fr))
  (hu:P.underlying ty=some d) (hd:(match d with | .struct _ | .array _ _=>true | _=>false)=true) (hi:(P.info? ty).map (·.size)=some cs.size)
  (h:wpList P ops Q rest (a.put o.dst (.agg cs)) w):wpList P ops Q (o::rest) a w:=by
 unfold wpList;rw [ZO hw];exact .inl (wp_load_row ty x ho g hx t cs fr d hg hu hd hi h)
theorem qY (w:World) (A B C D E Co Ro:Int) (s:ByteArray) (HF:Hid (∀ wx,QB 357 #[.agg #[A,B,C,s]] wx false)):
  QB 93 #[.agg #[(1:Int),A,B,C,D,E,Co,Ro,s]] w (.tuple #[.nilIface,false]):=by
 have hm:=fun w=>zg #[A,B,C,s] w
 have HO:=aa (fun wx=>lj wx A B C D E Co Ro s);have HP:=aa (fun wx=>mE wx A B C D E Co Ro s);have HC:=aa (fun (w1:World) (hG:af (w.alloc (Obj.cells #[(1:Int),A,B,C,D,E,Co,Ro,s] 31)) w1)=>(hG.block w.heap.size (by simp)).trans (ZE w (Obj.cells #[(1:Int),A,B,C,D,E,Co,Ro,s] 31)));have HG0:=aa (fun (w1:World) (hG:af (w.alloc (Obj.cells #[(1:Int),A,B,C,D,E,Co,Ro,s] 31)) w1)=>af.trans (aN w _) hG);go_enter func93,ntmps93
 go_wp2_with fail
 refine (HO.out _).mono ?_;rintro e w1 ⟨rfl,hB1⟩;go_wp2;refine ap 12 21 (ag [.iface 215 (.agg #[A,B,C,s]),false,false,.iface 215 (.agg #[A,B,C,s]),false,true,true,true,undef,undef,undef,undef]) (by kernel_rfl) rfl (by kernel_rfl) aq ?_;simp only [TD]
 iterate 12
  refine ⟨fun w1 hG hd=>?_,fun v=>?_⟩
  ·try (have d:=hd _ ⟨ZM _⟩ rfl;simp only [ag,GD] at d;subst d)
   try (have d:=hd _ ⟨.tail _ (.head _)⟩ rfl;simp only [ag,GD] at d;subst d)
   try (have d:=hd _ ⟨.tail _ (.tail _ (.head _))⟩ rfl;simp only [ag,GD] at d;subst d)
   clear hd;go_wp2_with fail
   first
    | exact RG
    | ((with_reducible refine (HF.out w1).mono ?_);rintro e w2 ⟨rfl,hB2⟩;go_wp2;exact ⟨rfl,hB2⟩)
  simp only [TN]
 intro w2 hG hd;have d4:=hd 4 (by omega);have d7:=hd 7 (by omega);have d11:=hd 11 (by omega);simp only [ag,GD] at d4 d7 d11;subst d4 d7 d11;have HG:=aa (HG0.out w2 (af.trans hB1 hG));clear hd HC HG0 HF HP HO hG hB1;go_wp2;go_ret2;exact ⟨rfl,HG.out⟩
theorem eR (w:World) (A B C D E Co Ro:Int) (s:ByteArray) (b:Bool) (hb:b=false/\D=0/\E=0/\Co=0/\Ro=0\/b=true/\(¬ D=0\/¬ E=0\/¬ Co=0\/¬ Ro=0)) (HF:Hid (∀ wx,QB 357 #[.agg #[A,B,C,s]] wx true)):
  QB 93 #[.agg #[(1:Int),A,B,C,D,E,Co,Ro,s]] w (bif b then .tuple #[.nilIface,false] else .tuple #[.iface 215 (.agg #[A,B,C,s]),true]):=by
 have hm:=fun w=>zg #[A,B,C,s] w
 have HO:=aa (fun wx=>lj wx A B C D E Co Ro s);have HP:=aa (fun wx=>mE wx A B C D E Co Ro s);have HC:=aa (fun (w1:World) (hG:af (w.alloc (Obj.cells #[(1:Int),A,B,C,D,E,Co,Ro,s] 31)) w1)=>(hG.block w.heap.size (by simp)).trans (ZE w (Obj.cells #[(1:Int),A,B,C,D,E,Co,Ro,s] 31)));have HG0:=aa (fun (w1:World) (hG:af (w.alloc (Obj.cells #[(1:Int),A,B,C,D,E,Co,Ro,s] 31)) w1)=>af.trans (aN w _) hG);go_enter func93,ntmps93
 go_wp2_with fail
 refine (HO.out _).mono ?_;rintro e w1 ⟨rfl,hB1⟩;go_wp2;refine ap 12 21 (ag [.iface 215 (.agg #[A,B,C,s]),false,false,.iface 215 (.agg #[A,B,C,s]),true,false,false,false,.iface 215 (.agg #[A,B,C,s]),.agg #[(1:Int),A,B,C,(0:Int),(0:Int),(0:Int),(0:Int),s],.agg #[(1:Int),A,B,C,D,E,Co,Ro,s],b]) (by kernel_rfl) rfl (by kernel_rfl) aq ?_;simp only [TD]
 iterate 10
  refine ⟨fun w1 hG hd=>?_,fun v=>?_⟩
  ·try (have d:=hd _ ⟨ZM _⟩ rfl;simp only [ag,GD] at d;subst d)
   try (have d:=hd _ ⟨.tail _ (.head _)⟩ rfl;simp only [ag,GD] at d;subst d)
   clear hd;go_wp2_with fail
   first
    | exact RG
    | ((first | with_reducible refine (HF.out w1).mono ?_ | with_reducible refine (HP.out w1).mono ?_);rintro e w2 ⟨rfl,hB2⟩;go_wp2;exact ⟨rfl,hB2⟩)
  simp only [TN]
 refine ⟨fun w2 hG hd=>?_,fun v10=>?_⟩
 ·have d7:=hd ⟨7,.guard⟩ (by simp) rfl;simp only [ag,GD] at d7;clear hd;subst d7;have kO:=HC.out w2 (af.trans hB1 hG);refine cy rfl 31 (.tmp 1) rfl w.heap.size rfl 31 _ (0,0) _ kO underlying31 rfl (by kernel_rfl) ?_;refine Zq ?_;exact ⟨rfl,rfl,rfl,af.refl _⟩
 simp only [TN];refine ⟨fun w2 hG hd=>?_,fun v11=>?_⟩
 ·have d9:=hd ⟨9,.data⟩ (by simp) rfl;have d10:=hd ⟨10,.data⟩ (by simp) rfl;have d7:=hd ⟨7,.guard⟩ (by simp) rfl;simp only [ag,GD] at d9 d10 d7;clear hd;subst d9 d10 d7;rcases hb with ⟨rfl,rfl,rfl,rfl,rfl⟩ | ⟨rfl,h | h | h | h⟩ <;> (go_wp2 <;> exact RG)
 simp only [TN];intro w2 hG hd;have d4:=hd 4 (by omega);have d7:=hd 7 (by omega);have d11:=hd 11 (by omega);simp only [ag,GD] at d4 d7 d11;subst d4 d7 d11;have HG:=aa (HG0.out w2 (af.trans hB1 hG));clear hd HC HG0 HF HP HO hG hB1 hb
 cases b <;> (go_wp2;go_ret2;exact ⟨rfl,HG.out⟩)
theorem qM (w:World) (K A B C D E Co Ro:Int) (s:ByteArray) (h1:¬ K=1) (h2:¬ K=2) (h3:¬ K=3) (h4:¬ K=4):
  QB 135 #[.agg #[K,A,B,C,D,E,Co,Ro,s]] w .nilIface:=by
 go_enter func135,ntmps135
 go_wp2;go_ret;exact ⟨rfl,(ZV _ w).alloc (ZX _) _⟩
theorem c_ (w:World) (g k:Nat) (cs:Array Value) (h:k≠g):(w.setRow g cs).heap[k]? =w.heap[k]? :=by
 simp [World.setRow,Array.getElem?_modify,Xz h]
theorem lC (w:World) (A B C D E Co Ro:Int) (s:ByteArray):
  QB 136 #[.iface 135 (.agg #[A,B,C,D,Co,Ro,s])] w (.agg #[(4:Int),A,B,C,D,oz,Co,Ro,s]):=by
 have t1:=fun w=>zN #[A,B,C,D,Co,Ro,s] w
 have t2:=fun w=>rQ #[A,B,C,D,Co,Ro,s] w
 have t3:=fun w=>r7 #[A,B,C,D,Co,Ro,s] w
 have t4:=fun w=>rH #[A,B,C,D,Co,Ro,s] w
 have HF:=aa (fun wx=>fx wx A B C D Co Ro);go_enter func136,ntmps136
 go_wp2_with fail
 refine (HF.out _).mono ?_;rintro e w1 ⟨rfl,hB1⟩;have hz1:w.heap.size+2<=w1.heap.size:=by have:=hB1.size;simpa using this
 have k6:w1.cell? (zq (w.heap.size+1) 6)=s:=by
  rw [Zw hB1 (p:=zq (w.heap.size+1) 6) (by simp)];simp
 obtain ⟨w2,hw2⟩:∃ w2,w2=(w1.alloc (.cells #[oz,oz,oz,oz,oz,oz,oz,oz,.string ⟨#[]⟩] 31)).setRow w1.heap.size #[(4:Int),A,B,C,D,oz,Co,Ro,.string ⟨#[]⟩]:=⟨_,rfl⟩;have HB2:Hid (w2.heap[w1.heap.size]? =some (.cells #[(4:Int),A,B,C,D,oz,Co,Ro,.string ⟨#[]⟩] 31 (0,0))):=by rw [hw2];exact Yt _ w1.heap.size _ _ _ _ (ZE w1 _)
 have o2:∀ k,k < w1.heap.size->w2.heap[k]? =w1.heap[k]? :=fun k hk=>by rw [hw2,c_ _ _ _ _ (by omega)];exact ZC w1 _ k hk
 have z2:w2.heap.size=w1.heap.size+1:=by rw [hw2];simp
 have b2:Below w1 w1 w2:={os:=by rw [hw2];rfl,tape:=by rw [hw2];rfl,output:=by rw [hw2];rfl,size:=by rw [z2];exact Nat.le_succ _,block:=o2};have HB2b:=aa (hB1.trans (b2.mono hB1.size));have k62:w2.cell? (zq (w.heap.size+1) 6)=s:=(ZS (a:=zq (w.heap.size+1) 6) (o2 (w.heap.size+1) (by omega))).trans k6;have c8:w2.cell? (zq w1 8)=some (.string ⟨#[]⟩):=by rw [ZL w2 w1.heap.size 8 _ _ (0,0) HB2.out];rfl
 have f8:w2.frozen? (zq w1 8)=false:=frozen_of_row w2 w1.heap.size 8 _ _ HB2.out;have HB3:Hid ((w2.setCell (zq w1 8) s).heap[w1.heap.size]? =some (.cells #[(4:Int),A,B,C,D,oz,Co,Ro,s] 31 (0,0))):=ZD w2 w1.heap.size 8 _ _ _ HB2.out;clear hB1 t1 t2 t3 t4 o2 b2 k6;have HW2:=aa hw2;clear hw2;have hR0:w2.heap[w.heap.size]? =some (.cells #[oz,oz,oz,oz,oz,oz,oz,oz,.string ⟨#[]⟩] 31 (0,0)):=by
  rw [HB2b.out.block w.heap.size (by first | (simp;done) | (simp;omega))];exact (ZC _ _ w.heap.size (by first | (simp;done) | (simp;omega))).trans (ZE w _)
 have HR0:Hid ((w2.setCell (zq w1 8) s).heap[w.heap.size]? =_):=(Yw w2 ⟨w1,8,none⟩ w.heap.size _ (by first | (simp;done) | (simp;omega))).trans hR0;have HR1:=aa (Yt _ w.heap.size _ #[(4:Int),A,B,C,D,oz,Co,Ro,s] _ _ HR0.out);clear hR0;go_wp2_with (first
  | (refine YM rfl 31 (.tmp 7) _ rfl w1.heap.size _ rfl rfl _ _ (ZE _ _) (by kernel_rfl) rfl (by kernel_rfl) ?_;rw [<-HW2.out];clear HW2)
  | (refine Zu rfl 31 (.tmp 7) rfl w1.heap.size rfl 31 _ (0,0) _ HB3.out underlying31 rfl (by kernel_rfl) ?_)
  | (refine YM rfl 31 (.tmp 2) _ rfl w.heap.size _ rfl rfl _ _ HR0.out (by kernel_rfl) rfl (by kernel_rfl) ?_))
 refine Zb (YL rfl _ _ w.heap.size 31 _ (0,0) _ rfl HR1.out underlying31 rfl (by kernel_rfl)) rfl ?_;refine ⟨rfl,?_⟩;have hb:=HB2b.out;refine {os:=hb.os,tape:=hb.tape,output:=hb.output,size:=?_,block:=fun k hk=>?_}
 ·have:=hb.size;simp [World.setCell] at this ⊢;omega
 ·rw [c_ _ _ _ _ (by omega),Yw _ _ k _ (by first | (simp;done) | (simp;omega)),hb.block k (by first | (simp;done) | (simp;omega))];exact (ZC _ _ k (by first | (simp;done) | (simp;omega))).trans (ZC w _ k hk)
theorem qR (w:World) (A B C D E Co Ro:Int) (s:ByteArray) (HF:Hid (∀ wx,QB 359 #[.agg #[A,B,C,D,E]] wx false)):
  QB 93 #[.agg #[(2:Int),A,B,C,D,E,Co,Ro,s]] w (.tuple #[.nilIface,false]):=by
 have hm:=fun w=>xW #[A,B,C,D,E] w
 have HO:=aa (fun wx=>li wx A B C D E Co Ro s);have HP:=aa (fun wx=>nR wx A B C D E Co Ro s);have HC:=aa (fun (w1:World) (hG:af (w.alloc (Obj.cells #[(2:Int),A,B,C,D,E,Co,Ro,s] 31)) w1)=>(hG.block w.heap.size (by simp)).trans (ZE w (Obj.cells #[(2:Int),A,B,C,D,E,Co,Ro,s] 31)));have HG0:=aa (fun (w1:World) (hG:af (w.alloc (Obj.cells #[(2:Int),A,B,C,D,E,Co,Ro,s] 31)) w1)=>af.trans (aN w _) hG);go_enter func93,ntmps93
 go_wp2_with fail
 refine (HO.out _).mono ?_;rintro e w1 ⟨rfl,hB1⟩;go_wp2;refine ap 12 21 (ag [.iface 217 (.agg #[A,B,C,D,E]),false,false,.iface 217 (.agg #[A,B,C,D,E]),false,true,true,true,undef,undef,undef,undef]) (by kernel_rfl) rfl (by kernel_rfl) aq ?_;simp only [TD]
 iterate 12
  refine ⟨fun w1 hG hd=>?_,fun v=>?_⟩
  ·try (have d:=hd _ ⟨ZM _⟩ rfl;simp only [ag,GD] at d;subst d)
   try (have d:=hd _ ⟨.tail _ (.head _)⟩ rfl;simp only [ag,GD] at d;subst d)
   try (have d:=hd _ ⟨.tail _ (.tail _ (.head _))⟩ rfl;simp only [ag,GD] at d;subst d)
   clear hd;go_wp2_with fail
   first
    | exact RG
    | ((with_reducible refine (HF.out w1).mono ?_);rintro e w2 ⟨rfl,hB2⟩;go_wp2;exact ⟨rfl,hB2⟩)
  simp only [TN]
 intro w2 hG hd;have d4:=hd 4 (by omega);have d7:=hd 7 (by omega);have d11:=hd 11 (by omega);simp only [ag,GD] at d4 d7 d11;subst d4 d7 d11;have HG:=aa (HG0.out w2 (af.trans hB1 hG));clear hd HC HG0 HF HP HO hG hB1;go_wp2;go_ret2;exact ⟨rfl,HG.out⟩
theorem fI (w:World) (A B C D E Co Ro:Int) (s:ByteArray) (b:Bool) (hb:b=false/\Co=0/\Ro=0/\s=⟨#[]⟩\/b=true/\(¬ Co=0\/¬ Ro=0\/¬ s.toList=[])) (HF:Hid (∀ wx,QB 359 #[.agg #[A,B,C,D,E]] wx true)):
  QB 93 #[.agg #[(2:Int),A,B,C,D,E,Co,Ro,s]] w (bif b then .tuple #[.nilIface,false] else .tuple #[.iface 217 (.agg #[A,B,C,D,E]),true]):=by
 have hm:=fun w=>xW #[A,B,C,D,E] w
 have HO:=aa (fun wx=>li wx A B C D E Co Ro s);have HP:=aa (fun wx=>nR wx A B C D E Co Ro s);have HC:=aa (fun (w1:World) (hG:af (w.alloc (Obj.cells #[(2:Int),A,B,C,D,E,Co,Ro,s] 31)) w1)=>(hG.block w.heap.size (by simp)).trans (ZE w (Obj.cells #[(2:Int),A,B,C,D,E,Co,Ro,s] 31)));have HG0:=aa (fun (w1:World) (hG:af (w.alloc (Obj.cells #[(2:Int),A,B,C,D,E,Co,Ro,s] 31)) w1)=>af.trans (aN w _) hG);go_enter func93,ntmps93
 go_wp2_with fail
 refine (HO.out _).mono ?_;rintro e w1 ⟨rfl,hB1⟩;go_wp2;refine ap 12 21 (ag [.iface 217 (.agg #[A,B,C,D,E]),false,false,.iface 217 (.agg #[A,B,C,D,E]),true,false,false,false,.iface 217 (.agg #[A,B,C,D,E]),.agg #[(2:Int),A,B,C,D,E,(0:Int),(0:Int),.string ⟨#[]⟩],.agg #[(2:Int),A,B,C,D,E,Co,Ro,s],b]) (by kernel_rfl) rfl (by kernel_rfl) aq ?_;simp only [TD]
 iterate 10
  refine ⟨fun w1 hG hd=>?_,fun v=>?_⟩
  ·try (have d:=hd _ ⟨ZM _⟩ rfl;simp only [ag,GD] at d;subst d)
   try (have d:=hd _ ⟨.tail _ (.head _)⟩ rfl;simp only [ag,GD] at d;subst d)
   clear hd;go_wp2_with fail
   first
    | exact RG
    | ((first | with_reducible refine (HF.out w1).mono ?_ | with_reducible refine (HP.out w1).mono ?_);rintro e w2 ⟨rfl,hB2⟩;go_wp2;exact ⟨rfl,hB2⟩)
  simp only [TN]
 refine ⟨fun w2 hG hd=>?_,fun v10=>?_⟩
 ·have d7:=hd ⟨7,.guard⟩ (by simp) rfl;simp only [ag,GD] at d7;clear hd;subst d7;have kO:=HC.out w2 (af.trans hB1 hG);refine cy rfl 31 (.tmp 1) rfl w.heap.size rfl 31 _ (0,0) _ kO underlying31 rfl (by kernel_rfl) ?_;refine Zq ?_;exact ⟨rfl,rfl,rfl,af.refl _⟩
 simp only [TN];refine ⟨fun w2 hG hd=>?_,fun v11=>?_⟩
 ·have d9:=hd ⟨9,.data⟩ (by simp) rfl;have d10:=hd ⟨10,.data⟩ (by simp) rfl;have d7:=hd ⟨7,.guard⟩ (by simp) rfl;simp only [ag,GD] at d9 d10 d7;clear hd;subst d9 d10 d7;rcases hb with ⟨rfl,rfl,rfl,rfl⟩ | ⟨rfl,h | h | h⟩ <;> (go_wp2 <;> exact RG)
 simp only [TN];intro w2 hG hd;have d4:=hd 4 (by omega);have d7:=hd 7 (by omega);have d11:=hd 11 (by omega);simp only [ag,GD] at d4 d7 d11;subst d4 d7 d11;have HG:=aa (HG0.out w2 (af.trans hB1 hG));clear hd HC HG0 HF HP HO hG hB1 hb
 cases b <;> (go_wp2;go_ret2;exact ⟨rfl,HG.out⟩)
theorem rT (w:World) (A B C D E Co Ro:Int) (s:ByteArray) (HF:Hid (∀ wx,QB 361 #[.agg #[A,B,C,D,E]] wx false)):
  QB 93 #[.agg #[(3:Int),A,B,C,D,E,Co,Ro,s]] w (.tuple #[.nilIface,false]):=by
 have hm:=fun w=>xP #[A,B,C,D,E] w
 have HO:=aa (fun wx=>kY wx A B C D E Co Ro s);have HP:=aa (fun wx=>mM wx A B C D E Co Ro s);have HC:=aa (fun (w1:World) (hG:af (w.alloc (Obj.cells #[(3:Int),A,B,C,D,E,Co,Ro,s] 31)) w1)=>(hG.block w.heap.size (by simp)).trans (ZE w (Obj.cells #[(3:Int),A,B,C,D,E,Co,Ro,s] 31)));have HG0:=aa (fun (w1:World) (hG:af (w.alloc (Obj.cells #[(3:Int),A,B,C,D,E,Co,Ro,s] 31)) w1)=>af.trans (aN w _) hG);go_enter func93,ntmps93
 go_wp2_with fail
 refine (HO.out _).mono ?_;rintro e w1 ⟨rfl,hB1⟩;go_wp2;refine ap 12 21 (ag [.iface 219 (.agg #[A,B,C,D,E]),false,false,.iface 219 (.agg #[A,B,C,D,E]),false,true,true,true,undef,undef,undef,undef]) (by kernel_rfl) rfl (by kernel_rfl) aq ?_;simp only [TD]
 iterate 12
  refine ⟨fun w1 hG hd=>?_,fun v=>?_⟩
  ·try (have d:=hd _ ⟨ZM _⟩ rfl;simp only [ag,GD] at d;subst d)
   try (have d:=hd _ ⟨.tail _ (.head _)⟩ rfl;simp only [ag,GD] at d;subst d)
   try (have d:=hd _ ⟨.tail _ (.tail _ (.head _))⟩ rfl;simp only [ag,GD] at d;subst d)
   clear hd;go_wp2_with fail
   first
    | exact RG
    | ((with_reducible refine (HF.out w1).mono ?_);rintro e w2 ⟨rfl,hB2⟩;go_wp2;exact ⟨rfl,hB2⟩)
  simp only [TN]
 intro w2 hG hd;have d4:=hd 4 (by omega);have d7:=hd 7 (by omega);have d11:=hd 11 (by omega);simp only [ag,GD] at d4 d7 d11;subst d4 d7 d11;have HG:=aa (HG0.out w2 (af.trans hB1 hG));clear hd HC HG0 HF HP HO hG hB1;go_wp2;go_ret2;exact ⟨rfl,HG.out⟩
theorem fF (w:World) (A B C D E Co Ro:Int) (s:ByteArray) (b:Bool) (hb:b=false/\Co=0/\Ro=0/\s=⟨#[]⟩\/b=true/\(¬ Co=0\/¬ Ro=0\/¬ s.toList=[])) (HF:Hid (∀ wx,QB 361 #[.agg #[A,B,C,D,E]] wx true)):
  QB 93 #[.agg #[(3:Int),A,B,C,D,E,Co,Ro,s]] w (bif b then .tuple #[.nilIface,false] else .tuple #[.iface 219 (.agg #[A,B,C,D,E]),true]):=by
 have hm:=fun w=>xP #[A,B,C,D,E] w
 have HO:=aa (fun wx=>kY wx A B C D E Co Ro s);have HP:=aa (fun wx=>mM wx A B C D E Co Ro s);have HC:=aa (fun (w1:World) (hG:af (w.alloc (Obj.cells #[(3:Int),A,B,C,D,E,Co,Ro,s] 31)) w1)=>(hG.block w.heap.size (by simp)).trans (ZE w (Obj.cells #[(3:Int),A,B,C,D,E,Co,Ro,s] 31)));have HG0:=aa (fun (w1:World) (hG:af (w.alloc (Obj.cells #[(3:Int),A,B,C,D,E,Co,Ro,s] 31)) w1)=>af.trans (aN w _) hG);go_enter func93,ntmps93
 go_wp2_with fail
 refine (HO.out _).mono ?_;rintro e w1 ⟨rfl,hB1⟩;go_wp2;refine ap 12 21 (ag [.iface 219 (.agg #[A,B,C,D,E]),false,false,.iface 219 (.agg #[A,B,C,D,E]),true,false,false,false,.iface 219 (.agg #[A,B,C,D,E]),.agg #[(3:Int),A,B,C,D,E,(0:Int),(0:Int),.string ⟨#[]⟩],.agg #[(3:Int),A,B,C,D,E,Co,Ro,s],b]) (by kernel_rfl) rfl (by kernel_rfl) aq ?_;simp only [TD]
 iterate 10
  refine ⟨fun w1 hG hd=>?_,fun v=>?_⟩
  ·try (have d:=hd _ ⟨ZM _⟩ rfl;simp only [ag,GD] at d;subst d)
   try (have d:=hd _ ⟨.tail _ (.head _)⟩ rfl;simp only [ag,GD] at d;subst d)
   clear hd;go_wp2_with fail
   first
    | exact RG
    | ((first | with_reducible refine (HF.out w1).mono ?_ | with_reducible refine (HP.out w1).mono ?_);rintro e w2 ⟨rfl,hB2⟩;go_wp2;exact ⟨rfl,hB2⟩)
  simp only [TN]
 refine ⟨fun w2 hG hd=>?_,fun v10=>?_⟩
 ·have d7:=hd ⟨7,.guard⟩ (by simp) rfl;simp only [ag,GD] at d7;clear hd;subst d7;have kO:=HC.out w2 (af.trans hB1 hG);refine cy rfl 31 (.tmp 1) rfl w.heap.size rfl 31 _ (0,0) _ kO underlying31 rfl (by kernel_rfl) ?_;refine Zq ?_;exact ⟨rfl,rfl,rfl,af.refl _⟩
 simp only [TN];refine ⟨fun w2 hG hd=>?_,fun v11=>?_⟩
 ·have d9:=hd ⟨9,.data⟩ (by simp) rfl;have d10:=hd ⟨10,.data⟩ (by simp) rfl;have d7:=hd ⟨7,.guard⟩ (by simp) rfl;simp only [ag,GD] at d9 d10 d7;clear hd;subst d9 d10 d7;rcases hb with ⟨rfl,rfl,rfl,rfl⟩ | ⟨rfl,h | h | h⟩ <;> (go_wp2 <;> exact RG)
 simp only [TN];intro w2 hG hd;have d4:=hd 4 (by omega);have d7:=hd 7 (by omega);have d11:=hd 11 (by omega);simp only [ag,GD] at d4 d7 d11;subst d4 d7 d11;have HG:=aa (HG0.out w2 (af.trans hB1 hG));clear hd HC HG0 HF HP HO hG hB1 hb
 cases b <;> (go_wp2;go_ret2;exact ⟨rfl,HG.out⟩)
end Go.Proofs.YtbklfkpjoinofaaGreatDoor
