import Derived.Test.YtbklfkpjoinofaaGreatDoorA17
set_option linter.all false
set_option maxRecDepth 100000
set_option maxHeartbeats 8000000
namespace Go.Proofs.YtbklfkpjoinofaaGreatDoor
open Go.RowKit Go.Proofs.Tryz
theorem aY {B:Nat} {w w':World} {n:Nat} (h:Below B w w'):Below B w (w'.drewN n):=⟨h.os,h.tape,h.output,h.size,h.block⟩
section
variable {Wp:Value} {Rb:Nat} {et:TypeId} {ev:Value}
theorem rM (w:World) (K A B C D E Co Ro:Int) (s:ByteArray) (n:Int) (hn:¬ n=0) (HR:Hid (∀ wx,Below w w wx->QD 77 #[Wp] wx (.tuple #[.pointer none,n]))):
  QB 42 #[Wp,.agg #[K,A,B,C,D,E,Co,Ro,s]] w n:=by
 go_enter func42,ntmps42
 go_wp2_with fail
 refine (HR.out _ ((ZT _ w).alloc (ZW _) _)).mono ?_;rintro e w1 ⟨rfl,qn,rfl⟩;go_wp2;go_ret;exact ⟨rfl,aY ((ZT _ w).alloc (ZW _) _)⟩
theorem oQ (w:World) (K A B C D E Co Ro:Int) (s:ByteArray) (n:Int) (hn:¬ n=0) (HR:Hid (∀ wx,Below w w wx->QD 77 #[Wp] wx (.tuple #[.pointer none,n]))):
  QB 40 #[Wp,.agg #[K,A,B,C,D,E,Co,Ro,s]] w n:=by
 go_enter func40,ntmps40
 go_wp2_with fail
 refine (HR.out _ ((ZT _ w).alloc (ZW _) _)).mono ?_;rintro e w1 ⟨rfl,qn,rfl⟩;go_wp2;go_ret;exact ⟨rfl,aY ((ZT _ w).alloc (ZW _) _)⟩
theorem uw (w:World) (Pg:Nat) (r2:w.cell? (zq Rb 2)=zp Pg) (HR:Hid (QD 47 #[Wp] w (.tuple #[zp Rb,oz]))):
  QD 18 #[Wp] w (2:Int):=by
 go_enter func18,ntmps18
 go_wp2_with fail
 refine HR.out.mono ?_;rintro e w1 ⟨rfl,qn,rfl⟩;go_wp2;go_ret;exact ⟨rfl,_,rfl⟩
theorem pu (w:World) (r1:w.cell? (zq Rb 1)=some (.pointer none)) (r2:w.cell? (zq Rb 2)=some (.pointer none)) (HR:Hid (QD 47 #[Wp] w (.tuple #[zp Rb,oz]))):
  QD 18 #[Wp] w (2:Int):=by
 go_enter func18,ntmps18
 go_wp2_with fail
 refine HR.out.mono ?_;rintro e w1 ⟨rfl,qn,rfl⟩;go_wp2;go_ret;exact ⟨rfl,_,rfl⟩
theorem uv (w:World) (Fb:Nat) (Z:Ending->World->Prop) (r1:w.cell? (zq Rb 1)=zp Fb) (r2:w.cell? (zq Rb 2)=some (.pointer none)) (HR:Hid (QD 47 #[Wp] w (.tuple #[zp Rb,oz])))
  (HE:Hid (∀ qn,CP 48 #[zp Rb] (w.drewN qn) fun e w'=>∃ v,e=.returned v/\Z (.returned v) w')):
  CP 18 #[Wp] w Z:=by
 go_enter func18,ntmps18
 go_wp2_with fail
 refine HR.out.mono ?_;rintro e w1 ⟨rfl,qn,rfl⟩;have HX:=ai (HE.out qn);clear HE HR;go_wp2_with fail
 refine HX.out.mono ?_;rintro e w2 ⟨v,rfl,hZ⟩;go_wp2
 first
  | exact hZ
  | (go_ret;exact hZ)
end
theorem dA {P:Program} {ops:Array Oper} {rest:List Oper} {o:Oper} {a:Act} {w:World} {Q:Exit->Act->World->Prop} (hw:Region.wanted o (yielded ops a.tmps)=true) (ty:TypeId) (x:Operand) (ho:o.op=.load ty x)
  (g:Nat) (hx:a.eval x=.pointer (some ⟨g,0,none⟩)) (t:TypeId) (cs:Array Value) (fr:Nat×Nat) (d:TypeDesc) (hg:w.heap[g]? =some (.cells cs t fr))
  (hu:P.underlying ty=some d) (hd:(match d with | .struct _ | .array _ _=>true | _=>false)=true) (hi:(P.info? ty).map (·.size)=some cs.size)
  (h:wpList P ops Q rest (a.put o.dst (.agg cs)) w):wpList P ops Q (o::rest) a w:=by
 unfold wpList;rw [ZN hw];exact .inl (wp_load_row ty x ho g hx t cs fr d hg hu hd hi h)
theorem qY (w:World) (A B C D E Co Ro:Int) (s:ByteArray) (HF:Hid (∀ wx,QB 357 #[.agg #[A,B,C,s]] wx false)):
  QB 93 #[.agg #[(1:Int),A,B,C,D,E,Co,Ro,s]] w (.tuple #[.nilIface,false]):=by
 have hm:=fun w=>zg #[A,B,C,s] w
 have HO:=ai (fun wx=>lj wx A B C D E Co Ro s);have HP:=ai (fun wx=>mE wx A B C D E Co Ro s);have HC:=ai (fun (w1:World) (hG:af (w.alloc (Obj.cells #[(1:Int),A,B,C,D,E,Co,Ro,s] 31)) w1)=>(hG.block w.heap.size (by simp)).trans (ZF w (Obj.cells #[(1:Int),A,B,C,D,E,Co,Ro,s] 31)));have HG0:=ai (fun (w1:World) (hG:af (w.alloc (Obj.cells #[(1:Int),A,B,C,D,E,Co,Ro,s] 31)) w1)=>af.trans (aN w _) hG);go_enter func93,ntmps93
 go_wp2_with fail
 refine (HO.out _).mono ?_;rintro e w1 ⟨rfl,hB1⟩;go_wp2;refine ap 12 21 (ag [.iface 215 (.agg #[A,B,C,s]),false,false,.iface 215 (.agg #[A,B,C,s]),false,true,true,true,undef,undef,undef,undef]) (by kernel_rfl) rfl (by kernel_rfl) aq ?_;simp only [TD]
 iterate 12
  refine ⟨fun w1 hG hd=>?_,fun v=>?_⟩
  ·try (have d:=hd _ ⟨ZB _⟩ rfl;simp only [ag,GD] at d;subst d)
   try (have d:=hd _ ⟨.tail _ (.head _)⟩ rfl;simp only [ag,GD] at d;subst d)
   try (have d:=hd _ ⟨.tail _ (.tail _ (.head _))⟩ rfl;simp only [ag,GD] at d;subst d)
   clear hd;go_wp2_with fail
   first
    | exact RG
    | ((with_reducible refine (HF.out w1).mono ?_);rintro e w2 ⟨rfl,hB2⟩;go_wp2;exact ⟨rfl,hB2⟩)
  simp only [TN]
 intro w2 hG hd;have d4:=hd 4 (by omega);have d7:=hd 7 (by omega);have d11:=hd 11 (by omega);simp only [ag,GD] at d4 d7 d11;subst d4 d7 d11;have HG:=ai (HG0.out w2 (af.trans hB1 hG));clear hd HC HG0 HF HP HO hG hB1;go_wp2;go_ret2;exact ⟨rfl,HG.out⟩
theorem eR (w:World) (A B C D E Co Ro:Int) (s:ByteArray) (b:Bool) (hb:b=false/\D=0/\E=0/\Co=0/\Ro=0\/b=true/\(¬ D=0\/¬ E=0\/¬ Co=0\/¬ Ro=0)) (HF:Hid (∀ wx,QB 357 #[.agg #[A,B,C,s]] wx true)):
  QB 93 #[.agg #[(1:Int),A,B,C,D,E,Co,Ro,s]] w (bif b then .tuple #[.nilIface,false] else .tuple #[.iface 215 (.agg #[A,B,C,s]),true]):=by
 have hm:=fun w=>zg #[A,B,C,s] w
 have HO:=ai (fun wx=>lj wx A B C D E Co Ro s);have HP:=ai (fun wx=>mE wx A B C D E Co Ro s);have HC:=ai (fun (w1:World) (hG:af (w.alloc (Obj.cells #[(1:Int),A,B,C,D,E,Co,Ro,s] 31)) w1)=>(hG.block w.heap.size (by simp)).trans (ZF w (Obj.cells #[(1:Int),A,B,C,D,E,Co,Ro,s] 31)));have HG0:=ai (fun (w1:World) (hG:af (w.alloc (Obj.cells #[(1:Int),A,B,C,D,E,Co,Ro,s] 31)) w1)=>af.trans (aN w _) hG);go_enter func93,ntmps93
 go_wp2_with fail
 refine (HO.out _).mono ?_;rintro e w1 ⟨rfl,hB1⟩;go_wp2;refine ap 12 21 (ag [.iface 215 (.agg #[A,B,C,s]),false,false,.iface 215 (.agg #[A,B,C,s]),true,false,false,false,.iface 215 (.agg #[A,B,C,s]),.agg #[(1:Int),A,B,C,(0:Int),(0:Int),(0:Int),(0:Int),s],.agg #[(1:Int),A,B,C,D,E,Co,Ro,s],b]) (by kernel_rfl) rfl (by kernel_rfl) aq ?_;simp only [TD]
 iterate 10
  refine ⟨fun w1 hG hd=>?_,fun v=>?_⟩
  ·try (have d:=hd _ ⟨ZB _⟩ rfl;simp only [ag,GD] at d;subst d)
   try (have d:=hd _ ⟨.tail _ (.head _)⟩ rfl;simp only [ag,GD] at d;subst d)
   clear hd;go_wp2_with fail
   first
    | exact RG
    | ((first | with_reducible refine (HF.out w1).mono ?_ | with_reducible refine (HP.out w1).mono ?_);rintro e w2 ⟨rfl,hB2⟩;go_wp2;exact ⟨rfl,hB2⟩)
  simp only [TN]
 refine ⟨fun w2 hG hd=>?_,fun v10=>?_⟩
 ·have d7:=hd ⟨7,.guard⟩ (by simp) rfl;simp only [ag,GD] at d7;clear hd;subst d7;have kO:=HC.out w2 (af.trans hB1 hG);refine dA rfl 31 (.tmp 1) rfl w.heap.size rfl 31 _ (0,0) _ kO underlying31 rfl (by kernel_rfl) ?_;refine YN ?_;exact ⟨rfl,rfl,rfl,af.refl _⟩
 simp only [TN];refine ⟨fun w2 hG hd=>?_,fun v11=>?_⟩
 ·have d9:=hd ⟨9,.data⟩ (by simp) rfl;have d10:=hd ⟨10,.data⟩ (by simp) rfl;have d7:=hd ⟨7,.guard⟩ (by simp) rfl;simp only [ag,GD] at d9 d10 d7;clear hd;subst d9 d10 d7;rcases hb with ⟨rfl,rfl,rfl,rfl,rfl⟩ | ⟨rfl,h | h | h | h⟩ <;> (go_wp2 <;> exact RG)
 simp only [TN];intro w2 hG hd;have d4:=hd 4 (by omega);have d7:=hd 7 (by omega);have d11:=hd 11 (by omega);simp only [ag,GD] at d4 d7 d11;subst d4 d7 d11;have HG:=ai (HG0.out w2 (af.trans hB1 hG));clear hd HC HG0 HF HP HO hG hB1 hb
 cases b <;> (go_wp2;go_ret2;exact ⟨rfl,HG.out⟩)
theorem qM (w:World) (K A B C D E Co Ro:Int) (s:ByteArray) (h1:¬ K=1) (h2:¬ K=2) (h3:¬ K=3) (h4:¬ K=4):
  QB 135 #[.agg #[K,A,B,C,D,E,Co,Ro,s]] w .nilIface:=by
 go_enter func135,ntmps135
 go_wp2;go_ret;exact ⟨rfl,(ZT _ w).alloc (ZW _) _⟩
theorem c_ (w:World) (g k:Nat) (cs:Array Value) (h:k≠g):(w.setRow g cs).heap[k]? =w.heap[k]? :=by
 simp [World.setRow,Array.getElem?_modify,Yg h]
theorem lC (w:World) (A B C D E Co Ro:Int) (s:ByteArray):
  QB 136 #[.iface 135 (.agg #[A,B,C,D,Co,Ro,s])] w (.agg #[(4:Int),A,B,C,D,oz,Co,Ro,s]):=by
 have t1:=fun w=>zN #[A,B,C,D,Co,Ro,s] w
 have t2:=fun w=>rQ #[A,B,C,D,Co,Ro,s] w
 have t3:=fun w=>yY #[A,B,C,D,Co,Ro,s] w
 have t4:=fun w=>rH #[A,B,C,D,Co,Ro,s] w
 have HF:=ai (fun wx=>fx wx A B C D Co Ro);go_enter func136,ntmps136
 go_wp2_with fail
 refine (HF.out _).mono ?_;rintro e w1 ⟨rfl,hB1⟩;have hz1:w.heap.size+2<=w1.heap.size:=by have:=hB1.size;simpa using this
 have k6:w1.cell? (zq (w.heap.size+1) 6)=s:=by
  rw [Zc hB1 (p:=zq (w.heap.size+1) 6) (by simp)];simp
 obtain ⟨w2,hw2⟩:∃ w2,w2=(w1.alloc (.cells #[oz,oz,oz,oz,oz,oz,oz,oz,.string ⟨#[]⟩] 31)).setRow w1.heap.size #[(4:Int),A,B,C,D,oz,Co,Ro,.string ⟨#[]⟩]:=⟨_,rfl⟩;have HB2:Hid (w2.heap[w1.heap.size]? =some (.cells #[(4:Int),A,B,C,D,oz,Co,Ro,.string ⟨#[]⟩] 31 (0,0))):=by rw [hw2];exact YK _ w1.heap.size _ _ _ _ (ZF w1 _)
 have o2:∀ k,k < w1.heap.size->w2.heap[k]? =w1.heap[k]? :=fun k hk=>by rw [hw2,c_ _ _ _ _ (by omega)];exact Zf w1 _ k hk
 have z2:w2.heap.size=w1.heap.size+1:=by rw [hw2];simp
 have b2:Below w1 w1 w2:={os:=by rw [hw2];rfl,tape:=by rw [hw2];rfl,output:=by rw [hw2];rfl,size:=by rw [z2];exact Nat.le_succ _,block:=o2};have HB2b:=ai (hB1.trans (b2.mono hB1.size));have k62:w2.cell? (zq (w.heap.size+1) 6)=s:=(ZQ (a:=zq (w.heap.size+1) 6) (o2 (w.heap.size+1) (by omega))).trans k6;have c8:w2.cell? (zq w1 8)=some (.string ⟨#[]⟩):=by rw [Zw w2 w1.heap.size 8 _ _ (0,0) HB2.out];rfl
 have f8:w2.frozen? (zq w1 8)=false:=frozen_of_row w2 w1.heap.size 8 _ _ HB2.out;have HB3:Hid ((w2.setCell (zq w1 8) s).heap[w1.heap.size]? =some (.cells #[(4:Int),A,B,C,D,oz,Co,Ro,s] 31 (0,0))):=heap_setCell_same w2 w1.heap.size 8 _ _ _ HB2.out;clear hB1 t1 t2 t3 t4 o2 b2 k6;have HW2:=ai hw2;clear hw2;have hR0:w2.heap[w.heap.size]? =some (.cells #[oz,oz,oz,oz,oz,oz,oz,oz,.string ⟨#[]⟩] 31 (0,0)):=by
  rw [HB2b.out.block w.heap.size (by first | (simp;done) | (simp;omega))];exact (Zf _ _ w.heap.size (by first | (simp;done) | (simp;omega))).trans (ZF w _)
 have HR0:Hid ((w2.setCell (zq w1 8) s).heap[w.heap.size]? =_):=(Yu w2 ⟨w1,8,none⟩ w.heap.size _ (by first | (simp;done) | (simp;omega))).trans hR0;have HR1:=ai (YK _ w.heap.size _ #[(4:Int),A,B,C,D,oz,Co,Ro,s] _ _ HR0.out);clear hR0;go_wp2_with (first
  | (refine Zj rfl 31 (.tmp 7) _ rfl w1.heap.size _ rfl rfl _ _ (ZF _ _) (by kernel_rfl) rfl (by kernel_rfl) ?_;rw [<-HW2.out];clear HW2)
  | (refine Zi rfl 31 (.tmp 7) rfl w1.heap.size rfl 31 _ (0,0) _ HB3.out underlying31 rfl (by kernel_rfl) ?_)
  | (refine Zj rfl 31 (.tmp 2) _ rfl w.heap.size _ rfl rfl _ _ HR0.out (by kernel_rfl) rfl (by kernel_rfl) ?_))
 refine YT (YC rfl _ _ w.heap.size 31 _ (0,0) _ rfl HR1.out underlying31 rfl (by kernel_rfl)) rfl ?_;refine ⟨rfl,?_⟩;have hb:=HB2b.out;refine {os:=hb.os,tape:=hb.tape,output:=hb.output,size:=?_,block:=fun k hk=>?_}
 ·have:=hb.size;simp [World.setCell] at this ⊢;omega
 ·rw [c_ _ _ _ _ (by omega),Yu _ _ k _ (by first | (simp;done) | (simp;omega)),hb.block k (by first | (simp;done) | (simp;omega))];exact (Zf _ _ k (by first | (simp;done) | (simp;omega))).trans (Zf w _ k hk)
section
variable {Wp:Value} {Rb:Nat}
theorem jB (w:World) (s:ByteArray) (hs:s.size<=9223372036854775807):QE 86 #[s] w (.bool (decide (0 < s.size/\s.size<=100))):=by
 have HT:=ai (fun wx=>jc wx s hs);by_cases h0:s.size=0
 ·have hs0:s=⟨#[]⟩:=by
   apply Zd;apply Yl;have:s.data.toList.length=0:=by simpa using h0
   simpa using Zp this
  subst hs0;go_enter func86,ntmps86
  go_wp2;go_ret;exact ⟨rfl,rfl⟩
 ·have hne:¬ s.toList=[]:=fun e=>h0 (by rw [Zm] at e;have:=congrArg List.length e;simpa using this)
  by_cases h1:s.size<=100
  ·have e1:decide (s.size<=100)=true:=by simpa using h1
   have e2:decide (0 < s.size/\s.size<=100)=true:=by simp;omega
   rw [e2];go_enter func86,ntmps86
   go_wp2_with fail
   refine (HT.out _).mono ?_;rintro e w1 ⟨rfl,rfl⟩;rw [e1];go_wp2;go_ret;exact ⟨by simp [hne],rfl⟩
  ·have e1:decide (s.size<=100)=false:=by simpa using h1
   have e2:decide (0 < s.size/\s.size<=100)=false:=by simp;omega
   rw [e2];go_enter func86,ntmps86
   go_wp2_with fail
   refine (HT.out _).mono ?_;rintro e w1 ⟨rfl,rfl⟩;rw [e1];go_wp2;go_ret;exact ⟨rfl,rfl⟩
theorem nc (w:World) (s:ByteArray) (r2:w.cell? (zq Rb 2)=some (.pointer none)) (HR:Hid (QD 47 #[Wp] w (.tuple #[zp Rb,oz]))):
  QD 39 #[Wp,s] w (2:Int):=by
 go_enter func39,ntmps39
 go_wp2_with fail
 refine HR.out.mono ?_;rintro e w1 ⟨rfl,qn,rfl⟩;go_wp2;go_ret;exact ⟨rfl,_,rfl⟩
theorem yB (w:World) (Pg:Nat) (s:ByteArray) (hs:s.size<=9223372036854775807) (h1:decide (0 < s.size/\s.size<=100)=false) (r2:w.cell? (zq Rb 2)=zp Pg) (HR:Hid (QD 47 #[Wp] w (.tuple #[zp Rb,oz]))):
  QD 39 #[Wp,s] w (1:Int):=by
 go_enter func39,ntmps39
 go_wp2_with fail
 refine HR.out.mono ?_;rintro e w1 ⟨rfl,qn,rfl⟩;go_wp2_with fail
 refine (jB _ s hs).mono ?_;rintro e w1 ⟨rfl,rfl⟩;rw [h1];go_wp2;go_ret;exact ⟨rfl,_,rfl⟩
theorem Bj (w:World) (Pg n cap:Nat) (ad:Option Addr) (s:ByteArray) (hs:s.size<=9223372036854775807) (h1:decide (0 < s.size/\s.size<=100)=true) (hn:20<=n) (hn2:n<=1000) (r2:w.cell? (zq Rb 2)=zp Pg) (r5:w.cell? (zq Rb 5)=some (.slice ad n cap)) (HR:Hid (QD 47 #[Wp] w (.tuple #[zp Rb,oz]))):
  QD 39 #[Wp,s] w (3:Int):=by
 have hn':(20:Int)<=(n:Int):=by omega
 go_enter func39,ntmps39
 go_wp2_with fail
 refine HR.out.mono ?_;rintro e w1 ⟨rfl,qn,rfl⟩;go_wp2_with fail
 refine (jB _ s hs).mono ?_;rintro e w1 ⟨rfl,rfl⟩;rw [h1];go_wp2;go_ret;exact ⟨rfl,_,rfl⟩
end
def fU (w:World) (lim:Int):World:=
 ((((w.alloc (.cells #[lim,.slice none 0 0,false] 153)).alloc (.cells #[.iface 89 (zp w),oz] 208)).alloc (.cells #[zp (w.heap.size+1),.slice none 0 0,.slice none 0 0] 166)).alloc (.cells #[zp w.heap.size,zp (w.heap.size+2),.pointer none,oz,.string ⟨#[]⟩,.slice none 0 0] 93)).alloc (.cells #[zp (w.heap.size+3)] 72)
theorem Fz (w:World) (lim:Int):CP 10 #[lim] w fun e w'=>e=.returned (zp (w.heap.size+4))/\w'=fU w lim:=by
 go_enter func10,ntmps10
 go_wp2;go_ret;exact ⟨rfl,rfl⟩
theorem pd (w:World) (B Wb Rb T:Nat) (lim:Int) (S:Bl) (X:List UInt8) (c0:w.cell? Wb=zp Rb) (r0:w.cell? Rb=zp T) (h:jp B T lim w S X) (hl:X.length<=2000000000):
  QE 20 #[zp Wb] w (.string ⟨X.toArray⟩):=by
 have HX:=ai (nD w B T lim S X h hl);go_enter func20,ntmps20
 go_wp2_with fail
 refine HX.out.mono ?_;rintro e w1 ⟨rfl,rfl⟩;go_wp2;go_ret;exact ⟨rfl,rfl⟩
theorem dC (w:World) (X Y W H C R:Int) (h0:0<=C) (h1:C<=64) (h2:0<=R) (h3:R<=64):QB 89 #[.agg #[X,Y,W,H,C,R]] w (C*R:Int):=by
 have hm1:C*R<=64*64:=XM (by omega) (by omega) (by omega) (by omega);have hm0:0<=C*R:=Xy (by omega) (by omega);go_enter func89,ntmps89
 go_wp2;go_ret;exact ⟨rfl,(ZT _ w).alloc (ZW _) _⟩
theorem yH (w:World) (C n:Nat) (s:ByteArray) (c0:w.cell? C=some .nilIface) (c1:w.cell? (zq C 1)=n) (f1:w.frozen? (zq C 1)=false) (hn:n<=1000000000) (hs:s.size<=1000000000):
  CP 128 #[zp C,s] w fun e w'=>e=.returned .nilIface/\w'=w.setCell (zq C 1) ((n:Int)+(s.size:Int):Int):=by
 go_enter func128,ntmps128
 go_wp2;go_ret;exact ⟨rfl,rfl⟩
theorem wX (w:World) (T:TypeId) (x:Value) (f:FuncId) (n:Int) (hn:∀ wx,(nilAhead 465 T x "Write").run prog wx=.ok (some false) wx) (hm:∀ wx,(method 465 T x "Write").run prog wx=.ok (f,x) wx) (he:∀ args wx,(callFunc f args).run prog wx=.ok (.enter f args) wx)
  (HW:Hid (CP f #[x,.iface 162 (zp w)] (w.alloc (.cells #[.nilIface,oz] 208)) fun e w'=>∃ v,e=.returned v/\w'.cell? (zq w 1)=some (.int .i64 n)/\Below w w w')):
  QB 88 #[.iface T x] w n:=by
 have HN:=ai (nk w);go_enter func88,ntmps88
 go_wp2_with fail
 refine HN.out.mono ?_;rintro e w1 ⟨rfl,rfl⟩;go_wp2_with fail
 refine HW.out.mono ?_;rintro e w2 ⟨v,rfl,c1,hB⟩;have HQ:=ai (eE w2 w.heap.size n c1);clear HW HN;go_wp2_with fail
 refine HQ.out.mono ?_;rintro e w3 ⟨rfl,rfl⟩;go_wp2;go_ret;exact ⟨rfl,hB⟩
theorem qP (w:World) (X Y W H C R:Int) (s:ByteArray) (HF:Hid (∀ wx,QB 130 #[.agg #[X,Y,W,H,C,R]] wx false)):
  QB 354 #[.agg #[X,Y,W,H,C,R,s]] w false:=by
 have HC:=ai (fun (w1:World) (hG:af (w.alloc (Obj.cells #[X,Y,W,H,C,R,s] 135)) w1)=>fD (vs:=[.int .i64 X,.int .i64 Y,.int .i64 W,.int .i64 H,.int .i64 C,.int .i64 R,.string s]) hG);go_enter func354,ntmps354
 go_wp2_with fail
 refine ap 12 _ (ag [zp w.heap.size,.agg #[X,Y,W,H,C,R],false,false,undef,undef,undef,undef,undef,undef,undef,false]) (by kernel_rfl) rfl (by kernel_rfl) aq ?_;simp only [TD];refine ⟨fun w1 hG hd=>?_,fun v0=>?_⟩
 ·clear hd;go_wp2;exact RG
 simp only [TN];refine ⟨fun w1 hG hd=>?_,fun v1=>?_⟩
 ·have d0:=hd ⟨0,.data⟩ (by simp) rfl;simp only [ag,GD] at d0;clear hd;subst d0;obtain ⟨_,hsz,cs⟩:=HC.out w1 hG;have c0:=cs 0 _ rfl;have c1:=cs 1 _ rfl;have c2:=cs 2 _ rfl;have c3:=cs 3 _ rfl;have c4:=cs 4 _ rfl;have c5:=cs 5 _ rfl;have c6:=cs 6 _ rfl;go_wp2;exact RG
 simp only [TN]
 iterate 10
  refine ⟨fun w1 hG hd=>?_,fun v=>?_⟩
  ·try (have d:=hd _ ⟨ZB _⟩ rfl;simp only [ag,GD] at d;subst d)
   try (have d:=hd _ ⟨.tail _ (.head _)⟩ rfl;simp only [ag,GD] at d;subst d)
   try (have d:=hd _ ⟨.tail _ (.tail _ (.head _))⟩ rfl;simp only [ag,GD] at d;subst d)
   clear hd;go_wp2_with fail
   first
    | exact RG
    | ((with_reducible refine (HF.out w1).mono ?_);rintro e w2 ⟨rfl,hB2⟩;go_wp2;exact ⟨rfl,hB2⟩)
  simp only [TN]
 intro w1 hG hd;have d11:=hd 11 (by omega);simp only [ag,GD] at d11;subst d11;obtain ⟨hGw,_⟩:=HC.out w1 hG;have HGw:=ai hGw;clear hd HC hG hGw;go_wp2;go_ret;exact ⟨rfl,HGw.out⟩
theorem r_ (w:World) (X Y W H C R:Int) (s:ByteArray) (HF:Hid (∀ wx,QB 130 #[.agg #[X,Y,W,H,C,R]] wx true)) (hs:s.size<=9223372036854775807) (h0:0<=C) (h1:C<=64) (h2:0<=R) (h3:R<=64) (he:(s.size:Int)=C*R):
  QB 354 #[.agg #[X,Y,W,H,C,R,s]] w true:=by
 have HC:=ai (fun (w1:World) (hG:af (w.alloc (Obj.cells #[X,Y,W,H,C,R,s] 135)) w1)=>fD (vs:=[.int .i64 X,.int .i64 Y,.int .i64 W,.int .i64 H,.int .i64 C,.int .i64 R,.string s]) hG);have HY:=ai (fun wx=>dC wx X Y W H C R h0 h1 h2 h3);go_enter func354,ntmps354
 go_wp2_with fail
 refine ap 12 _ (ag [zp w.heap.size,.agg #[X,Y,W,H,C,R],true,true,zq w.heap.size 6,s,(s.size:Int),zp w.heap.size,.agg #[X,Y,W,H,C,R],(C*R:Int),true,true]) (by kernel_rfl) rfl (by kernel_rfl) aq ?_;simp only [TD];refine ⟨fun w1 hG hd=>?_,fun v0=>?_⟩
 ·clear hd;go_wp2;exact RG
 simp only [TN];refine ⟨fun w1 hG hd=>?_,fun v1=>?_⟩
 ·have d0:=hd ⟨0,.data⟩ (by simp) rfl;simp only [ag,GD] at d0;clear hd;subst d0;obtain ⟨_,hsz,cs⟩:=HC.out w1 hG;have c0:=cs 0 _ rfl;have c1:=cs 1 _ rfl;have c2:=cs 2 _ rfl;have c3:=cs 3 _ rfl;have c4:=cs 4 _ rfl;have c5:=cs 5 _ rfl;have c6:=cs 6 _ rfl;go_wp2;exact RG
 simp only [TN]
 iterate 3
  refine ⟨fun w1 hG hd=>?_,fun v=>?_⟩
  ·try (have d:=hd _ ⟨ZB _⟩ rfl;simp only [ag,GD] at d;subst d)
   clear hd;go_wp2_with fail
   first
    | exact RG
    | ((with_reducible refine (HF.out w1).mono ?_);rintro e w2 ⟨rfl,hB2⟩;go_wp2;exact ⟨rfl,hB2⟩)
  simp only [TN]
 refine ⟨fun w1 hG hd=>?_,fun v5=>?_⟩
 ·have d4:=hd ⟨4,.data⟩ (by simp) rfl;have d3:=hd ⟨3,.guard⟩ (by simp) rfl;simp only [ag,GD] at d4 d3;clear hd;subst d4 d3;obtain ⟨_,hsz,cs⟩:=HC.out w1 hG;have c0:=cs 0 _ rfl;have c1:=cs 1 _ rfl;have c2:=cs 2 _ rfl;have c3:=cs 3 _ rfl;have c4:=cs 4 _ rfl;have c5:=cs 5 _ rfl;have c6:=cs 6 _ rfl;go_wp2;exact RG
 simp only [TN]
 iterate 2
  refine ⟨fun w1 hG hd=>?_,fun v=>?_⟩
  ·try (have d:=hd _ ⟨ZB _⟩ rfl;simp only [ag,GD] at d;subst d)
   try (have d:=hd _ ⟨.tail _ (.head _)⟩ rfl;simp only [ag,GD] at d;subst d)
   clear hd;go_wp2;exact RG
  simp only [TN]
 refine ⟨fun w1 hG hd=>?_,fun v8=>?_⟩
 ·have d7:=hd ⟨7,.data⟩ (by simp) rfl;have d3:=hd ⟨3,.guard⟩ (by simp) rfl;simp only [ag,GD] at d7 d3;clear hd;subst d7 d3;obtain ⟨_,hsz,cs⟩:=HC.out w1 hG;have c0:=cs 0 _ rfl;have c1:=cs 1 _ rfl;have c2:=cs 2 _ rfl;have c3:=cs 3 _ rfl;have c4:=cs 4 _ rfl;have c5:=cs 5 _ rfl;have c6:=cs 6 _ rfl;go_wp2;exact RG
 simp only [TN]
 iterate 3
  refine ⟨fun w1 hG hd=>?_,fun v=>?_⟩
  ·try (have d:=hd _ ⟨ZB _⟩ rfl;simp only [ag,GD] at d;subst d)
   try (have d:=hd _ ⟨.tail _ (.head _)⟩ rfl;simp only [ag,GD] at d;subst d)
   try (have d:=hd _ ⟨.tail _ (.tail _ (.head _))⟩ rfl;simp only [ag,GD] at d;subst d)
   clear hd;go_wp2_with fail
   first
    | exact RG
    | ((with_reducible refine (HY.out w1).mono ?_);rintro e w2 ⟨rfl,hB2⟩;go_wp2;exact ⟨rfl,hB2⟩)
  simp only [TN]
 intro w1 hG hd;have d11:=hd 11 (by omega);simp only [ag,GD] at d11;subst d11;obtain ⟨hGw,_⟩:=HC.out w1 hG;have HGw:=ai hGw;clear hd HC hG hGw;go_wp2;go_ret;exact ⟨rfl,HGw.out⟩
theorem rt (w:World) (X Y W H C R:Int) (s:ByteArray) (HF:Hid (∀ wx,QB 130 #[.agg #[X,Y,W,H,C,R]] wx true)) (hs:s.size<=9223372036854775807) (h0:0<=C) (h1:C<=64) (h2:0<=R) (h3:R<=64) (he:¬ (s.size:Int)=C*R):
  QB 354 #[.agg #[X,Y,W,H,C,R,s]] w false:=by
 have HC:=ai (fun (w1:World) (hG:af (w.alloc (Obj.cells #[X,Y,W,H,C,R,s] 135)) w1)=>fD (vs:=[.int .i64 X,.int .i64 Y,.int .i64 W,.int .i64 H,.int .i64 C,.int .i64 R,.string s]) hG);have HY:=ai (fun wx=>dC wx X Y W H C R h0 h1 h2 h3);have heb:((s.size:Int)==C*R)=false:=by simpa using he
 go_enter func354,ntmps354
 go_wp2_with fail
 refine ap 12 _ (ag [zp w.heap.size,.agg #[X,Y,W,H,C,R],true,true,zq w.heap.size 6,s,(s.size:Int),zp w.heap.size,.agg #[X,Y,W,H,C,R],(C*R:Int),false,false]) (by kernel_rfl) rfl (by kernel_rfl) aq ?_;simp only [TD];refine ⟨fun w1 hG hd=>?_,fun v0=>?_⟩
 ·clear hd;go_wp2;exact RG
 simp only [TN];refine ⟨fun w1 hG hd=>?_,fun v1=>?_⟩
 ·have d0:=hd ⟨0,.data⟩ (by simp) rfl;simp only [ag,GD] at d0;clear hd;subst d0;obtain ⟨_,hsz,cs⟩:=HC.out w1 hG;have c0:=cs 0 _ rfl;have c1:=cs 1 _ rfl;have c2:=cs 2 _ rfl;have c3:=cs 3 _ rfl;have c4:=cs 4 _ rfl;have c5:=cs 5 _ rfl;have c6:=cs 6 _ rfl;go_wp2;exact RG
 simp only [TN]
 iterate 3
  refine ⟨fun w1 hG hd=>?_,fun v=>?_⟩
  ·try (have d:=hd _ ⟨ZB _⟩ rfl;simp only [ag,GD] at d;subst d)
   clear hd;go_wp2_with fail
   first
    | exact RG
    | ((with_reducible refine (HF.out w1).mono ?_);rintro e w2 ⟨rfl,hB2⟩;go_wp2;exact ⟨rfl,hB2⟩)
  simp only [TN]
 refine ⟨fun w1 hG hd=>?_,fun v5=>?_⟩
 ·have d4:=hd ⟨4,.data⟩ (by simp) rfl;have d3:=hd ⟨3,.guard⟩ (by simp) rfl;simp only [ag,GD] at d4 d3;clear hd;subst d4 d3;obtain ⟨_,hsz,cs⟩:=HC.out w1 hG;have c0:=cs 0 _ rfl;have c1:=cs 1 _ rfl;have c2:=cs 2 _ rfl;have c3:=cs 3 _ rfl;have c4:=cs 4 _ rfl;have c5:=cs 5 _ rfl;have c6:=cs 6 _ rfl;go_wp2;exact RG
 simp only [TN]
 iterate 2
  refine ⟨fun w1 hG hd=>?_,fun v=>?_⟩
  ·try (have d:=hd _ ⟨ZB _⟩ rfl;simp only [ag,GD] at d;subst d)
   try (have d:=hd _ ⟨.tail _ (.head _)⟩ rfl;simp only [ag,GD] at d;subst d)
   clear hd;go_wp2;exact RG
  simp only [TN]
 refine ⟨fun w1 hG hd=>?_,fun v8=>?_⟩
 ·have d7:=hd ⟨7,.data⟩ (by simp) rfl;have d3:=hd ⟨3,.guard⟩ (by simp) rfl;simp only [ag,GD] at d7 d3;clear hd;subst d7 d3;obtain ⟨_,hsz,cs⟩:=HC.out w1 hG;have c0:=cs 0 _ rfl;have c1:=cs 1 _ rfl;have c2:=cs 2 _ rfl;have c3:=cs 3 _ rfl;have c4:=cs 4 _ rfl;have c5:=cs 5 _ rfl;have c6:=cs 6 _ rfl;go_wp2;exact RG
 simp only [TN]
 iterate 3
  refine ⟨fun w1 hG hd=>?_,fun v=>?_⟩
  ·try (have d:=hd _ ⟨ZB _⟩ rfl;simp only [ag,GD] at d;subst d)
   try (have d:=hd _ ⟨.tail _ (.head _)⟩ rfl;simp only [ag,GD] at d;subst d)
   try (have d:=hd _ ⟨.tail _ (.tail _ (.head _))⟩ rfl;simp only [ag,GD] at d;subst d)
   clear hd;go_wp2_with fail
   first
    | exact RG
    | ((with_reducible refine (HY.out w1).mono ?_);rintro e w2 ⟨rfl,hB2⟩;go_wp2;exact ⟨rfl,hB2⟩)
  simp only [TN]
 intro w1 hG hd;have d11:=hd 11 (by omega);simp only [ag,GD] at d11;subst d11;obtain ⟨hGw,_⟩:=HC.out w1 hG;have HGw:=ai hGw;clear hd HC hG hGw;go_wp2;go_ret;exact ⟨rfl,HGw.out⟩
theorem dP {P:Program} {fn:Func} {p u:Tmp} {ty:TypeId} (h:fn.results=#[.cell p ty,.tmp u]) (tmps:Array Value) (w:World) (g:Nat) (t:TypeId) (cs:Array Value) (fr:Nat×Nat) (d:TypeDesc)
  (hp:tmps.getD p undef=.pointer (some ⟨g,0,none⟩)) (hg:w.heap[g]? =some (.cells cs t fr))
  (hu:P.underlying ty=some d) (hd:(match d with | .struct _ | .array _ _=>true | _=>false)=true) (hi:(P.info? ty).map (·.size)=some cs.size):
  (results fn tmps).run P w=.ok (.tuple #[.agg cs,tmps.getD u undef]) w:=by
 have hp':tmps[p]?.getD undef=.pointer (some ⟨g,0,none⟩):=by simpa using hp
 rw [results_cell_tmp h,hp];simp [asAddr,run_loadVar_row w g t ty cs fr d hg hu hd hi]
theorem xF (w:World) (K A B C D E Co Ro:Int) (s:ByteArray) (HF:Hid (∀ wx,QB 130 #[.agg #[A,B,C,D,Co,Ro]] wx false)):
  QB 87 #[.agg #[K,A,B,C,D,E,Co,Ro,s]] w (.tuple #[.agg #[(0:Int),(0:Int),(0:Int),(0:Int),(0:Int),(0:Int)],false]):=by
 have HO:=ai (fun wx=>iJ wx K A B C D E Co Ro s);have HP:=ai (fun wx=>fx wx A B C D Co Ro);go_enter func87,ntmps87
 go_wp2_with fail
 refine (HO.out _).mono ?_;rintro e w0 ⟨rfl,hB1⟩;have hz0:w.heap.size+2<=w0.heap.size:=by have:=hB1.size;simpa using this
 obtain ⟨w1h,hw1h⟩:∃ k,k=w0.heap.size:=⟨_,rfl⟩;have e0:w0.heap[w.heap.size]? =some (.cells #[K,A,B,C,D,E,Co,Ro,s] 31 (0,0)):=(hB1.block w.heap.size (by first | (simp;done) | (simp;omega))).trans ((Zf _ _ w.heap.size (by first | (simp;done) | (simp;omega))).trans (ZF w _));have e1:w0.heap[w.heap.size+1]? =some (.cells #[oz,oz,oz,oz,oz,oz] 130 (0,0)):=(hB1.block (w.heap.size+1) (by first | (simp;done) | (simp;omega))).trans (Yz w _ _);have b0:Below w w w0:=(((ZT _ w).alloc (ZW _) _).alloc (by first | (simp;done) | (simp;omega)) _).trans (hB1.mono (by first | (simp;done) | (simp;omega)));have HFB:Hid (∀ (w1:World),af (w0.alloc (Obj.cells #[A,B,C,D,Co,Ro] 130)) w1->w1.heap[w1h]? =some (.cells #[A,B,C,D,Co,Ro] 130 (0,0))):=fun w1 hG=>by rw [hw1h];exact (hG.block w0.heap.size (by first | (simp;done) | (simp;omega))).trans (ZF w0 _)
 have HOB:=ai (fun (w1:World) (hG:af (w0.alloc (Obj.cells #[A,B,C,D,Co,Ro] 130)) w1)=>((hG.block w.heap.size (by first | (simp;done) | (simp;omega))).trans (Zf _ _ w.heap.size (by omega))).trans e0);have HRB:=ai (fun (w1:World) (hG:af (w0.alloc (Obj.cells #[A,B,C,D,Co,Ro] 130)) w1)=>((hG.block (w.heap.size+1) (by first | (simp;done) | (simp;omega))).trans (Zf _ _ (w.heap.size+1) (by omega))).trans e1);have HG0:=ai (fun (w1:World) (hG:af (w0.alloc (Obj.cells #[A,B,C,D,Co,Ro] 130)) w1)=>b0.trans ((((ZT _ w0).alloc (ZW _) _).trans (hG.mono (by first | (simp;done) | (simp;omega)))).mono (by omega)));clear hB1 e0 e1 b0;go_wp2_with fail
 rw [<-hw1h];refine ap 8 _ (ag [.agg #[A,B,C,D,Co,Ro],false,true,true,undef,undef,undef,undef]) (by kernel_rfl) rfl (by kernel_rfl) aq ?_;simp only [TD];refine ⟨fun w1 hG hd=>?_,fun v0=>?_⟩
 ·clear hd;refine dA rfl 130 (.tmp 4) rfl w1h rfl 130 _ (0,0) _ (HFB.out _ hG) underlying130 rfl (by kernel_rfl) ?_;refine YN ?_;exact ⟨rfl,rfl,rfl,af.refl _⟩
 simp only [TN]
 iterate 7
  refine ⟨fun w1 hG hd=>?_,fun v=>?_⟩
  ·try (have d:=hd _ ⟨ZB _⟩ rfl;simp only [ag,GD] at d;subst d)
   try (have d:=hd _ ⟨.tail _ (.head _)⟩ rfl;simp only [ag,GD] at d;subst d)
   try (have d:=hd _ ⟨.tail _ (.tail _ (.head _))⟩ rfl;simp only [ag,GD] at d;subst d)
   clear hd;go_wp2_with fail
   first
    | exact RG
    | ((with_reducible refine (HF.out w1).mono ?_);rintro e w2 ⟨rfl,hB2⟩;go_wp2;exact ⟨rfl,hB2⟩)
  simp only [TN]
 intro w1 hG hd;have d3:=hd 3 (by omega);have d7:=hd 7 (by omega);simp only [ag,GD] at d3 d7;subst d3 d7;have HRR:=ai (HRB.out w1 hG);have HFF:=ai (HFB.out w1 hG);have HGG:=ai (HG0.out w1 hG);have HR1:=ai (YK _ (w.heap.size+1) _ #[oz,oz,oz,oz,oz,oz] _ _ HRR.out);have hzz:=hG.size;clear hd HFB HOB HRB HG0 HP HO HF hG;go_wp2_with (first
  | (refine Zi rfl 130 (.tmp 4) rfl w1h rfl 130 _ (0,0) _ HFF.out underlying130 rfl (by kernel_rfl) ?_)
  | (refine Zj rfl 130 (.tmp 2) _ rfl (w.heap.size+1) _ rfl rfl _ _ HRR.out (by kernel_rfl) rfl (by kernel_rfl) ?_))
 refine YT (dP rfl _ _ (w.heap.size+1) 130 _ (0,0) _ rfl HR1.out underlying130 rfl (by kernel_rfl)) rfl ?_;refine ⟨rfl,?_⟩;have hb:=HGG.out;exact {os:=hb.os,tape:=hb.tape,output:=hb.output,size:=by have:=hb.size;simpa using this,block:=fun k hk=>by rw [c_ _ _ _ _ (by omega)];exact hb.block k hk}
theorem fP (w:World) (K A B C D E Co Ro:Int) (s:ByteArray) (HF:Hid (∀ wx,QB 130 #[.agg #[A,B,C,D,Co,Ro]] wx true)) (b:Bool) (hb:b=false/\K=4/\E=0/\s=⟨#[]⟩\/b=true/\(¬ K=4\/¬ E=0\/¬ s.toList=[])):
  QB 87 #[.agg #[K,A,B,C,D,E,Co,Ro,s]] w (bif b then .tuple #[.agg #[(0:Int),(0:Int),(0:Int),(0:Int),(0:Int),(0:Int)],false] else .tuple #[.agg #[A,B,C,D,Co,Ro],true]):=by
 have HO:=ai (fun wx=>iJ wx K A B C D E Co Ro s);have HP:=ai (fun wx=>fx wx A B C D Co Ro);go_enter func87,ntmps87
 go_wp2_with fail
 refine (HO.out _).mono ?_;rintro e w0 ⟨rfl,hB1⟩;have hz0:w.heap.size+2<=w0.heap.size:=by have:=hB1.size;simpa using this
 obtain ⟨w1h,hw1h⟩:∃ k,k=w0.heap.size:=⟨_,rfl⟩;have e0:w0.heap[w.heap.size]? =some (.cells #[K,A,B,C,D,E,Co,Ro,s] 31 (0,0)):=(hB1.block w.heap.size (by first | (simp;done) | (simp;omega))).trans ((Zf _ _ w.heap.size (by first | (simp;done) | (simp;omega))).trans (ZF w _));have e1:w0.heap[w.heap.size+1]? =some (.cells #[oz,oz,oz,oz,oz,oz] 130 (0,0)):=(hB1.block (w.heap.size+1) (by first | (simp;done) | (simp;omega))).trans (Yz w _ _);have b0:Below w w w0:=(((ZT _ w).alloc (ZW _) _).alloc (by first | (simp;done) | (simp;omega)) _).trans (hB1.mono (by first | (simp;done) | (simp;omega)));have HFB:Hid (∀ (w1:World),af (w0.alloc (Obj.cells #[A,B,C,D,Co,Ro] 130)) w1->w1.heap[w1h]? =some (.cells #[A,B,C,D,Co,Ro] 130 (0,0))):=fun w1 hG=>by rw [hw1h];exact (hG.block w0.heap.size (by first | (simp;done) | (simp;omega))).trans (ZF w0 _)
 have HOB:=ai (fun (w1:World) (hG:af (w0.alloc (Obj.cells #[A,B,C,D,Co,Ro] 130)) w1)=>((hG.block w.heap.size (by first | (simp;done) | (simp;omega))).trans (Zf _ _ w.heap.size (by omega))).trans e0);have HRB:=ai (fun (w1:World) (hG:af (w0.alloc (Obj.cells #[A,B,C,D,Co,Ro] 130)) w1)=>((hG.block (w.heap.size+1) (by first | (simp;done) | (simp;omega))).trans (Zf _ _ (w.heap.size+1) (by omega))).trans e1);have HG0:=ai (fun (w1:World) (hG:af (w0.alloc (Obj.cells #[A,B,C,D,Co,Ro] 130)) w1)=>b0.trans ((((ZT _ w0).alloc (ZW _) _).trans (hG.mono (by first | (simp;done) | (simp;omega)))).mono (by omega)));clear hB1 e0 e1 b0;go_wp2_with fail
 rw [<-hw1h];refine ap 8 _ (ag [.agg #[A,B,C,D,Co,Ro],true,false,false,.agg #[A,B,C,D,Co,Ro],.agg #[(4:Int),A,B,C,D,(0:Int),Co,Ro,.string ⟨#[]⟩],.agg #[K,A,B,C,D,E,Co,Ro,s],b]) (by kernel_rfl) rfl (by kernel_rfl) aq ?_;simp only [TD];refine ⟨fun w1 hG hd=>?_,fun v0=>?_⟩
 ·clear hd;refine dA rfl 130 (.tmp 4) rfl w1h rfl 130 _ (0,0) _ (HFB.out _ hG) underlying130 rfl (by kernel_rfl) ?_;refine YN ?_;exact ⟨rfl,rfl,rfl,af.refl _⟩
 simp only [TN]
 iterate 3
  refine ⟨fun w1 hG hd=>?_,fun v=>?_⟩
  ·try (have d:=hd _ ⟨ZB _⟩ rfl;simp only [ag,GD] at d;subst d)
   clear hd;go_wp2_with fail
   first
    | exact RG
    | ((with_reducible refine (HF.out w1).mono ?_);rintro e w2 ⟨rfl,hB2⟩;go_wp2;exact ⟨rfl,hB2⟩)
  simp only [TN]
 refine ⟨fun w1 hG hd=>?_,fun v4=>?_⟩
 ·have d3:=hd ⟨3,.guard⟩ (by simp) rfl;simp only [ag,GD] at d3;clear hd;subst d3;refine dA rfl 130 (.tmp 4) rfl w1h rfl 130 _ (0,0) _ (HFB.out _ hG) underlying130 rfl (by kernel_rfl) ?_;refine YN ?_;exact ⟨rfl,rfl,rfl,af.refl _⟩
 simp only [TN];refine ⟨fun w1 hG hd=>?_,fun v5=>?_⟩
 ·have d4:=hd ⟨4,.data⟩ (by simp) rfl;have d3:=hd ⟨3,.guard⟩ (by simp) rfl;simp only [ag,GD] at d4 d3;clear hd;subst d4 d3;have HX:=ai (HP.out w1);go_wp2_with fail
  refine HX.out.mono ?_;rintro e w2 ⟨rfl,hB2⟩;go_wp2;exact ⟨rfl,hB2⟩
 simp only [TN];refine ⟨fun w1 hG hd=>?_,fun v6=>?_⟩
 ·have d3:=hd ⟨3,.guard⟩ (by simp) rfl;simp only [ag,GD] at d3;clear hd;subst d3;refine dA rfl 31 (.tmp 1) rfl w.heap.size rfl 31 _ (0,0) _ (HOB.out _ hG) underlying31 rfl (by kernel_rfl) ?_;refine YN ?_;exact ⟨rfl,rfl,rfl,af.refl _⟩
 simp only [TN];refine ⟨fun w1 hG hd=>?_,fun v7=>?_⟩
 ·have d5:=hd ⟨5,.data⟩ (by simp) rfl;have d6:=hd ⟨6,.data⟩ (by simp) rfl;have d3:=hd ⟨3,.guard⟩ (by simp) rfl;simp only [ag,GD] at d5 d6 d3;clear hd;subst d5 d6 d3;rcases hb with ⟨rfl,rfl,rfl,rfl⟩ | ⟨rfl,h | h | h⟩ <;> (go_wp2 <;> exact RG)
 simp only [TN];intro w1 hG hd;have d3:=hd 3 (by omega);have d7:=hd 7 (by omega);simp only [ag,GD] at d3 d7;subst d3 d7;have HRR:=ai (HRB.out w1 hG);have HFF:=ai (HFB.out w1 hG);have HGG:=ai (HG0.out w1 hG);have hzz:=hG.size;clear hd HFB HOB HRB HG0 HP HO HF hG hb
 cases b
 have HR1:=ai (YK _ (w.heap.size+1) _ #[A,B,C,D,Co,Ro] _ _ HRR.out)
 rotate_left
 have HR1:=ai (YK _ (w.heap.size+1) _ #[oz,oz,oz,oz,oz,oz] _ _ HRR.out)
 all_goals
  go_wp2_with (first
   | (refine Zi rfl 130 (.tmp 4) rfl w1h rfl 130 _ (0,0) _ HFF.out underlying130 rfl (by kernel_rfl) ?_)
   | (refine Zj rfl 130 (.tmp 2) _ rfl (w.heap.size+1) _ rfl rfl _ _ HRR.out (by kernel_rfl) rfl (by kernel_rfl) ?_))
  refine YT (dP rfl _ _ (w.heap.size+1) 130 _ (0,0) _ rfl HR1.out underlying130 rfl (by kernel_rfl)) rfl ?_;refine ⟨rfl,?_⟩;have hb:=HGG.out;exact {os:=hb.os,tape:=hb.tape,output:=hb.output,size:=by have:=hb.size;simpa using this,block:=fun k hk=>by rw [c_ _ _ _ _ (by omega)];exact hb.block k hk}
end Go.Proofs.YtbklfkpjoinofaaGreatDoor
