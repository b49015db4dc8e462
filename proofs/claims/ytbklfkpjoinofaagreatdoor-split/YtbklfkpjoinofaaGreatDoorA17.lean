import Derived.Test.YtbklfkpjoinofaaGreatDoorA13
import Derived.Test.YtbklfkpjoinofaaGreatDoorA10
set_option linter.all false
set_option maxRecDepth 100000
set_option maxHeartbeats 8000000
namespace Go.Proofs.YtbklfkpjoinofaaGreatDoor
open Go.RowKit Go.Proofs.Tryz
theorem AQ (x:Array Value) (w:World):(Instr.typeAssert (.iface 215 (.agg x)) 138 215 true).run prog w=.ok (.tuple #[.agg x,true]) w:=by kernel_rfl
theorem zg (x:Array Value) (w:World):(method 465 215 (.agg x) "press/drawing.fits").run prog w=.ok (357,.agg x) w:=by kernel_rfl
theorem Bf (x:Array Value) (w:World):(method 465 215 (.agg x) "Write").run prog w=.ok (356,.agg x) w:=by kernel_rfl
theorem AK (x:Array Value) (w:World):(nilAhead 465 215 (.agg x) "Write").run prog w=.ok (some false) w:=by kernel_rfl
theorem A9 (x:Array Value) (w:World):(Instr.typeAssert (.iface 217 (.agg x)) 138 217 true).run prog w=.ok (.tuple #[.agg x,true]) w:=by kernel_rfl
theorem sC (x:Array Value) (w:World):(Instr.typeAssert (.iface 217 (.agg x)) 138 215 true).run prog w=.ok (.tuple #[.agg #[(0:Int),(0:Int),(0:Int),.string ⟨#[]⟩],false]) w:=by kernel_rfl
theorem xW (x:Array Value) (w:World):(method 465 217 (.agg x) "press/drawing.fits").run prog w=.ok (359,.agg x) w:=by kernel_rfl
theorem AG (x:Array Value) (w:World):(method 465 217 (.agg x) "Write").run prog w=.ok (358,.agg x) w:=by kernel_rfl
theorem Bc (x:Array Value) (w:World):(nilAhead 465 217 (.agg x) "Write").run prog w=.ok (some false) w:=by kernel_rfl
theorem A3 (x:Array Value) (w:World):(Instr.typeAssert (.iface 219 (.agg x)) 138 219 true).run prog w=.ok (.tuple #[.agg x,true]) w:=by kernel_rfl
theorem tZ (x:Array Value) (w:World):(Instr.typeAssert (.iface 219 (.agg x)) 138 215 true).run prog w=.ok (.tuple #[.agg #[(0:Int),(0:Int),(0:Int),.string ⟨#[]⟩],false]) w:=by kernel_rfl
theorem sX (x:Array Value) (w:World):(Instr.typeAssert (.iface 219 (.agg x)) 138 217 true).run prog w=.ok (.tuple #[.agg #[(0:Int),(0:Int),(0:Int),(0:Int),(0:Int)],false]) w:=by kernel_rfl
theorem xP (x:Array Value) (w:World):(method 465 219 (.agg x) "press/drawing.fits").run prog w=.ok (361,.agg x) w:=by kernel_rfl
theorem AJ (x:Array Value) (w:World):(method 465 219 (.agg x) "Write").run prog w=.ok (360,.agg x) w:=by kernel_rfl
theorem AP (x:Array Value) (w:World):(nilAhead 465 219 (.agg x) "Write").run prog w=.ok (some false) w:=by kernel_rfl
theorem zN (x:Array Value) (w:World):(Instr.typeAssert (.iface 135 (.agg x)) 138 135 true).run prog w=.ok (.tuple #[.agg x,true]) w:=by kernel_rfl
theorem rQ (x:Array Value) (w:World):(Instr.typeAssert (.iface 135 (.agg x)) 138 215 true).run prog w=.ok (.tuple #[.agg #[(0:Int),(0:Int),(0:Int),.string ⟨#[]⟩],false]) w:=by kernel_rfl
theorem yY (x:Array Value) (w:World):(Instr.typeAssert (.iface 135 (.agg x)) 138 217 true).run prog w=.ok (.tuple #[.agg #[(0:Int),(0:Int),(0:Int),(0:Int),(0:Int)],false]) w:=by kernel_rfl
theorem rH (x:Array Value) (w:World):(Instr.typeAssert (.iface 135 (.agg x)) 138 219 true).run prog w=.ok (.tuple #[.agg #[(0:Int),(0:Int),(0:Int),(0:Int),(0:Int)],false]) w:=by kernel_rfl
theorem uN (x:Array Value) (w:World):(method 465 135 (.agg x) "press/drawing.fits").run prog w=.ok (354,.agg x) w:=by kernel_rfl
theorem wu (x:Array Value) (w:World):(method 465 135 (.agg x) "Write").run prog w=.ok (353,.agg x) w:=by kernel_rfl
theorem uE (x:Array Value) (w:World):(nilAhead 465 135 (.agg x) "Write").run prog w=.ok (some false) w:=by kernel_rfl
theorem lj (w:World) (A B C D E Co Ro:Int) (s:ByteArray):
  QB 135 #[.agg #[(1:Int),A,B,C,D,E,Co,Ro,s]] w (.iface 215 (.agg #[A,B,C,s])):=by
 go_enter func135,ntmps135
 go_wp2;go_ret
 first
  | exact ⟨rfl,(ZT _ w).alloc (ZW _) _⟩
  | exact ⟨rfl,bu _ _ _⟩
theorem mE (w:World) (A B C D E Co Ro:Int) (s:ByteArray):
  QB 136 #[.iface 215 (.agg #[A,B,C,s])] w (.agg #[(1:Int),A,B,C,oz,oz,oz,oz,s]):=by
 have t0:=fun w=>AQ #[A,B,C,s] w
 go_enter func136,ntmps136
 go_wp2;refine YT (YC rfl _ _ w.heap.size 31 _ (0,0) _ rfl (XG _ _ _) underlying31 rfl (by kernel_rfl)) rfl ?_;exact ⟨rfl,bu _ _ _⟩
theorem li (w:World) (A B C D E Co Ro:Int) (s:ByteArray):
  QB 135 #[.agg #[(2:Int),A,B,C,D,E,Co,Ro,s]] w (.iface 217 (.agg #[A,B,C,D,E])):=by
 go_enter func135,ntmps135
 go_wp2;go_ret
 first
  | exact ⟨rfl,(ZT _ w).alloc (ZW _) _⟩
  | exact ⟨rfl,bu _ _ _⟩
theorem nR (w:World) (A B C D E Co Ro:Int) (s:ByteArray):
  QB 136 #[.iface 217 (.agg #[A,B,C,D,E])] w (.agg #[(2:Int),A,B,C,D,E,oz,oz,.string ⟨#[]⟩]):=by
 have t0:=fun w=>A9 #[A,B,C,D,E] w
 have tText:=fun w=>sC #[A,B,C,D,E] w
 go_enter func136,ntmps136
 go_wp2;refine YT (YC rfl _ _ w.heap.size 31 _ (0,0) _ rfl (XG _ _ _) underlying31 rfl (by kernel_rfl)) rfl ?_;exact ⟨rfl,bu _ _ _⟩
theorem kY (w:World) (A B C D E Co Ro:Int) (s:ByteArray):
  QB 135 #[.agg #[(3:Int),A,B,C,D,E,Co,Ro,s]] w (.iface 219 (.agg #[A,B,C,D,E])):=by
 go_enter func135,ntmps135
 go_wp2;go_ret
 first
  | exact ⟨rfl,(ZT _ w).alloc (ZW _) _⟩
  | exact ⟨rfl,bu _ _ _⟩
theorem mM (w:World) (A B C D E Co Ro:Int) (s:ByteArray):
  QB 136 #[.iface 219 (.agg #[A,B,C,D,E])] w (.agg #[(3:Int),A,B,C,D,E,oz,oz,.string ⟨#[]⟩]):=by
 have t0:=fun w=>A3 #[A,B,C,D,E] w
 have tText:=fun w=>tZ #[A,B,C,D,E] w
 have tLine:=fun w=>sX #[A,B,C,D,E] w
 go_enter func136,ntmps136
 go_wp2;refine YT (YC rfl _ _ w.heap.size 31 _ (0,0) _ rfl (XG _ _ _) underlying31 rfl (by kernel_rfl)) rfl ?_;exact ⟨rfl,bu _ _ _⟩
theorem iJ (w:World) (K A B C D E Co Ro:Int) (s:ByteArray):
  QB 129 #[.agg #[K,A,B,C,D,E,Co,Ro,s]] w (.agg #[A,B,C,D,Co,Ro]):=by
 go_enter func129,ntmps129
 go_wp2
 first
  | refine YT (YC rfl _ _ (w.heap.size+1) 130 _ (0,0) _ rfl (Yz _ _ _) underlying130 rfl (by kernel_rfl)) rfl ?_
  | refine YT (YC rfl _ _ w.heap.size 130 _ (0,0) _ rfl (XG _ _ _) underlying130 rfl (by kernel_rfl)) rfl ?_
 exact ⟨rfl,bu _ _ _⟩
theorem fx (w:World) (A B C D Co Ro:Int):
  QB 131 #[.agg #[A,B,C,D,Co,Ro]] w (.agg #[(4:Int),A,B,C,D,oz,Co,Ro,.string ⟨#[]⟩]):=by
 go_enter func131,ntmps131
 go_wp2
 first
  | refine YT (YC rfl _ _ (w.heap.size+1) 31 _ (0,0) _ rfl (Yz _ _ _) underlying31 rfl (by kernel_rfl)) rfl ?_
  | refine YT (YC rfl _ _ w.heap.size 31 _ (0,0) _ rfl (XG _ _ _) underlying31 rfl (by kernel_rfl)) rfl ?_
 exact ⟨rfl,bu _ _ _⟩
theorem pT (w:World) (A B C D E Co Ro:Int) (s:ByteArray):
  QB 135 #[.agg #[(4:Int),A,B,C,D,E,Co,Ro,s]] w (.iface 135 (.agg #[A,B,C,D,Co,Ro,s])):=by
 have HC:=ai (fun (w1:World) (hG:af (w.alloc (Obj.cells #[(4:Int),A,B,C,D,E,Co,Ro,s] 31)) w1)=>fD (vs:=[.int .i64 4,.int .i64 A,.int .i64 B,.int .i64 C,.int .i64 D,.int .i64 E,.int .i64 Co,.int .i64 Ro,.string s]) hG);have HF:=ai (fun wx=>iJ wx 4 A B C D E Co Ro s);go_enter func135,ntmps135
 go_wp2;refine ap 6 53 (ag [.agg #[(4:Int),A,B,C,D,E,Co,Ro,s],.agg #[A,B,C,D,Co,Ro],zq w.heap.size 8,s,.agg #[A,B,C,D,Co,Ro,s],.iface 135 (.agg #[A,B,C,D,Co,Ro,s])]) (by kernel_rfl) rfl (by kernel_rfl) aq ?_;simp only [TD];refine ⟨fun w1 hG hd=>?_,fun v0=>?_⟩
 ·obtain ⟨_,hsz,cs⟩:=HC.out w1 hG;have c0:=cs 0 _ rfl;have c1:=cs 1 _ rfl;have c2:=cs 2 _ rfl;have c3:=cs 3 _ rfl;have c4:=cs 4 _ rfl;have c5:=cs 5 _ rfl;have c6:=cs 6 _ rfl;have c7:=cs 7 _ rfl;have c8:=cs 8 _ rfl;go_wp2;exact RG
 refine ⟨fun w1 hG hd=>?_,fun v1=>?_⟩
 ·simp [ag,Region.binds] at hd;subst hd;go_wp2_with fail
  refine (HF.out w1).mono ?_;rintro e w2 ⟨rfl,hB2⟩;go_wp2;exact ⟨rfl,hB2⟩
 refine ⟨fun w1 hG hd=>?_,fun v2=>?_⟩
 ·go_wp2;exact RG
 refine ⟨fun w1 hG hd=>?_,fun v3=>?_⟩
 ·obtain ⟨_,hsz,cs⟩:=HC.out w1 hG;have c:=cs 8 _ rfl;simp [ag,Region.binds] at hd;subst hd;go_wp2;exact RG
 refine ⟨fun w1 hG hd=>?_,fun v4=>?_⟩
 ·simp [ag,Region.binds] at hd;obtain ⟨rfl,rfl⟩:=hd;go_wp2;exact RG
 refine ⟨fun w1 hG hd=>?_,fun v5=>?_⟩
 ·simp [ag,Region.binds] at hd;subst hd;go_wp2;exact RG
 intro w1 hG hd;have d5:=hd 5 (by omega);simp [ag] at d5;subst d5;obtain ⟨hGw,_⟩:=HC.out w1 hG;have HGw:=ai hGw;clear hd HC HF hG hGw;go_wp2;go_ret;exact ⟨rfl,HGw.out⟩
section
variable {T:TypeId} {q q':Value} {f:FuncId}
theorem ju (w:World) (Z:Ending->World->Prop) (hn:∀ wx,(nilAhead 465 T q "Write").run prog wx=.ok (some false) wx) (hm:∀ wx,(method 465 T q "Write").run prog wx=.ok (f,q') wx) (he:∀ args wx,(callFunc f args).run prog wx=.ok (.enter f args) wx)
  (HW:Hid (CP f #[q',.string ⟨#[10,69,73,32,81,10]⟩] w fun e w'=>∃ v,e=.returned v/\Z (.returned v) w')):CP 134 #[.iface T q] w Z:=by
 go_enter func134,ntmps134
 go_wp2_with fail
 refine HW.out.mono ?_;rintro e w1 ⟨v,rfl,hZ⟩;go_wp2
 first
  | exact hZ
  | (go_ret;exact hZ)
end
theorem rO (P:Nat) (w:World):(method 465 91 (zp P) "Write").run prog w=.ok (133,.pointer (some ⟨P,0,none⟩)) w:=by kernel_rfl
theorem uJ (P:Nat) (w:World):(nilAhead 465 91 (zp P) "Write").run prog w=.ok (some false) w:=by kernel_rfl
theorem oK (args:Array Value) (w:World):(callFunc 133 args).run prog w=.ok (.enter 133 args) w:=by kernel_rfl
section
variable {Wp:Value} {Rb:Nat} {et:TypeId} {ev:Value}
theorem tn (w:World) (s:ByteArray) (r3:w.cell? (zq Rb 3)=(0:Int)) (HR:Hid (QD 47 #[Wp] w (.tuple #[zp Rb,oz]))):
  QD 41 #[Wp,s] w (2:Int):=by
 go_enter func41,ntmps41
 go_wp2_with fail
 refine HR.out.mono ?_;rintro e w1 ⟨rfl,qn,rfl⟩;go_wp2;go_ret;exact ⟨rfl,_,rfl⟩
theorem yv (w:World) (s:ByteArray) (n:Nat) (hn:0 < n) (hs:s.size<=9223372036854775807) (h1:n < s.size) (r3:w.cell? (zq Rb 3)=(n:Int)) (HR:Hid (QD 47 #[Wp] w (.tuple #[zp Rb,oz]))):
  QD 41 #[Wp,s] w (1:Int):=by
 have h1':(n:Int) < (s.size:Int):=by omega
 have hn':¬ (n:Int)=0:=by omega
 go_enter func41,ntmps41
 go_wp2_with fail
 refine HR.out.mono ?_;rintro e w1 ⟨rfl,qn,rfl⟩;go_wp2;go_ret;exact ⟨rfl,_,rfl⟩
theorem lK (w:World) (Pg n:Nat) (s:ByteArray) (Z:Ending->World->Prop) (hn:n<=4096) (h1:s.size < n) (r2:w.cell? (zq Rb 2)=zp Pg) (r3:w.cell? (zq Rb 3)=(n:Int)) (f3:w.frozen? (zq Rb 3)=false)
  (HW:Hid (CP 133 #[zp Pg,s] (w.setCell (zq Rb 3) ((n:Int) - (s.size:Int):Int)) fun e w'=>(e=.returned .nilIface/\w'.cell? (zq Rb 3)=some (.int .i64 ((n:Int) - (s.size:Int)))/\Z (.returned (0:Int)) w')\/(e=.returned (.iface et ev)/\Z (.returned (4:Int)) w'))):
  CP 92 #[zp Rb,s] w Z:=by
 have h1':(0:Int) < (n:Int) - (s.size:Int):=by omega
 have h1e:¬ (n:Int) - (s.size:Int)=0:=by omega
 go_enter func92,ntmps92
 go_wp2_with fail
 refine HW.out.mono ?_;rintro e w2 (⟨rfl,c3,hz⟩ | ⟨rfl,hz⟩)
 ·clear HW;go_wp2
  first
   | exact hz
   | (go_ret;exact hz)
 ·clear HW;go_wp2
  first
   | exact hz
   | (go_ret;exact hz)
theorem lL (w:World) (Pg:Nat) (s:ByteArray) (G:World->Prop) (Z:Ending->World->Prop) (hn:s.size<=4096) (r2:w.cell? (zq Rb 2)=zp Pg) (r3:w.cell? (zq Rb 3)=(s.size:Int)) (f3:w.frozen? (zq Rb 3)=false)
  (HW:Hid (CP 133 #[zp Pg,s] (w.setCell (zq Rb 3) (0:Int)) fun e w'=>(e=.returned .nilIface/\w'.cell? (zq Rb 3)=some (.int .i64 0)/\w'.cell? (zq Rb 2)=some (.pointer (some ⟨Pg,0,none⟩))/\G w')\/(e=.returned (.iface et ev)/\Z (.returned (4:Int)) w')))
  (HE:Hid (∀ w1,G w1->CP 133 #[zp Pg,.string ⟨#[10,69,73,32,81,10]⟩] w1 fun e w'=>(e=.returned .nilIface/\Z (.returned (0:Int)) w')\/(e=.returned (.iface et ev)/\Z (.returned (4:Int)) w'))):
  CP 92 #[zp Rb,s] w Z:=by
 go_enter func92,ntmps92
 go_wp2_with fail
 refine HW.out.mono ?_;rintro e w2 (⟨rfl,c3,c2,hG⟩ | ⟨rfl,hz⟩)
 ·have HX:=ai (ju (T:=91) (q:=.pointer (some ⟨Pg,0,none⟩)) w2 (fun e w'=>(e=.returned .nilIface/\Z (.returned (0:Int)) w')\/(e=.returned (.iface et ev)/\Z (.returned (4:Int)) w')) (uJ Pg) (rO Pg) oK ((HE.out w2 hG).mono (fun e w' h=>by
   rcases h with ⟨rfl,hz⟩ | ⟨rfl,hz⟩
   ·exact ⟨_,rfl,.inl ⟨rfl,hz⟩⟩
   ·exact ⟨_,rfl,.inr ⟨rfl,hz⟩⟩)))
  clear HW HE;go_wp2_with fail
  refine HX.out.mono ?_;rintro e w3 (⟨rfl,hz⟩ | ⟨rfl,hz⟩)
  ·go_wp2
   first
    | exact hz
    | (go_ret;exact hz)
  ·go_wp2
   first
    | exact hz
    | (go_ret;exact hz)
 ·clear HW HE;go_wp2
  first
   | exact hz
   | (go_ret;exact hz)
theorem zD (w:World) (s:ByteArray) (n:Nat) (hn:0 < n) (hn2:n<=4096) (h1:s.size<=n) (r3:w.cell? (zq Rb 3)=(n:Int)) (Z:Ending->World->Prop) (HR:Hid (QD 47 #[Wp] w (.tuple #[zp Rb,oz])))
  (HE:Hid (∀ qn,CP 92 #[zp Rb,s] (w.drewN qn) fun e w'=>∃ v,e=.returned v/\Z (.returned v) w')):
  CP 41 #[Wp,s] w Z:=by
 have h1':¬ (n:Int) < (s.size:Int):=by omega
 have hn':¬ (n:Int)=0:=by omega
 go_enter func41,ntmps41
 go_wp2_with fail
 refine HR.out.mono ?_;rintro e w1 ⟨rfl,qn,rfl⟩;have HX:=ai (HE.out qn);clear HE HR;go_wp2_with fail
 refine HX.out.mono ?_;rintro e w2 ⟨v,rfl,hZ⟩;go_wp2
 first
  | exact hZ
  | (go_ret;exact hZ)
end
end Go.Proofs.YtbklfkpjoinofaaGreatDoor
