import Derived.Test.YtbklfkpjoinofaaGreatDoorA13
import Derived.Test.YtbklfkpjoinofaaGreatDoorA10
set_option linter.all false
set_option maxRecDepth 100000
set_option maxHeartbeats 8000000
namespace Go.Proofs.YtbklfkpjoinofaaGreatDoor
open Go.RowKit Go.Proofs.Tryz
theorem AQ (x:Array Value) (w:World):(Instr.typeAssert (.iface 215 (.agg x)) 138 215 true).run prog w=.ok (.tuple #[.agg x,true]) w:=by kernel_rfl
theorem zg (x:Array Value) (w:World):(method 465 215 (.agg x) "press/drawing.fits").run prog w=.ok (357,.agg x) w:=by kernel_rfl
theorem Bf (x:Array Value) (w:World):(method 465 215 (.agg x) "Write").run prog w=.ok (356,.agg x) w:=by kernel_rfl
theorem AK (x:Array Value) (w:World):(nilAhead 465 215 (.agg x) "Write").run prog w=.ok (some false) w:=by kernel_rfl
theorem A9 (x:Array Value) (w:World):(Instr.typeAssert (.iface 217 (.agg x)) 138 217 true).run prog w=.ok (.tuple #[.agg x,true]) w:=by kernel_rfl
theorem sC (x:Array Value) (w:World):(Instr.typeAssert (.iface 217 (.agg x)) 138 215 true).run prog w=.ok (.tuple #[.agg #[(0:Int),(0:Int),(0:Int),.string ⟨#[]⟩],false]) w:=by kernel_rfl
theorem xW (x:Array Value) (w:World):(method 465 217 (.agg x) "press/drawing.fits").run prog w=.ok (359,.agg x) w:=by kernel_rfl
theorem AG (x:Array Value) (w:World):(method 465 217 (.agg x) "Write").run prog w=.ok (358,.agg x) w:=by kernel_rfl
theorem Bc (x:Array Value) (w:World):(nilAhead 465 217 (.agg x) "Write").run prog w=.ok (some false) w:=by kernel_rfl
theorem A3 (x:Array Value) (w:World):(Instr.typeAssert (.iface 219 (.agg x)) 138 219 true).run prog w=.ok (.tuple #[.agg x,true]) w:=by kernel_rfl
theorem tZ (x:Array Value) (w:World):(Instr.typeAssert (.iface 219 (.agg x)) 138 215 true).run prog w=.ok (.tuple #[.agg #[(0:Int),(0:Int),(0:Int),.string ⟨#[]⟩],false]) w:=by kernel_rfl
theorem sX (x:Array Value) (w:World):(Instr.typeAssert (.iface 219 (.agg x)) 138 217 true).run prog w=.ok (.tuple #[.agg #[(0:Int),(0:Int),(0:Int),(0:Int),(0:Int)],false]) w:=by kernel_rfl
theorem xP (x:Array Value) (w:World):(method 465 219 (.agg x) "press/drawing.fits").run prog w=.ok (361,.agg x) w:=by kernel_rfl
theorem AJ (x:Array Value) (w:World):(method 465 219 (.agg x) "Write").run prog w=.ok (360,.agg x) w:=by kernel_rfl
theorem AP (x:Array Value) (w:World):(nilAhead 465 219 (.agg x) "Write").run prog w=.ok (some false) w:=by kernel_rfl
theorem zN (x:Array Value) (w:World):(Instr.typeAssert (.iface 135 (.agg x)) 138 135 true).run prog w=.ok (.tuple #[.agg x,true]) w:=by kernel_rfl
theorem rQ (x:Array Value) (w:World):(Instr.typeAssert (.iface 135 (.agg x)) 138 215 true).run prog w=.ok (.tuple #[.agg #[(0:Int),(0:Int),(0:Int),.string ⟨#[]⟩],false]) w:=by kernel_rfl
theorem wv (x:Array Value) (w:World):(Instr.typeAssert (.iface 135 (.agg x)) 138 217 true).run prog w=.ok (.tuple #[.agg #[(0:Int),(0:Int),(0:Int),(0:Int),(0:Int)],false]) w:=by kernel_rfl
theorem rH (x:Array Value) (w:World):(Instr.typeAssert (.iface 135 (.agg x)) 138 219 true).run prog w=.ok (.tuple #[.agg #[(0:Int),(0:Int),(0:Int),(0:Int),(0:Int)],false]) w:=by kernel_rfl
theorem uN (x:Array Value) (w:World):(method 465 135 (.agg x) "press/drawing.fits").run prog w=.ok (354,.agg x) w:=by kernel_rfl
theorem zu (x:Array Value) (w:World):(method 465 135 (.agg x) "Write").run prog w=.ok (353,.agg x) w:=by kernel_rfl
theorem uE (x:Array Value) (w:World):(nilAhead 465 135 (.agg x) "Write").run prog w=.ok (some false) w:=by kernel_rfl
theorem lj (w:World) (A B C D E Co Ro:Int) (s:ByteArray):
  QB 135 #[.agg #[(1:Int),A,B,C,D,E,Co,Ro,s]] w (.iface 215 (.agg #[A,B,C,s])):=by
 go_enter func135,ntmps135
 go_wp2;go_ret
 first
  | exact ⟨rfl,(ZQ _ w).alloc (ZV _) _⟩
  | exact ⟨rfl,bu _ _ _⟩
theorem mE (w:World) (A B C D E Co Ro:Int) (s:ByteArray):
  QB 136 #[.iface 215 (.agg #[A,B,C,s])] w (.agg #[(1:Int),A,B,C,oz,oz,oz,oz,s]):=by
 have t0:=fun w=>AQ #[A,B,C,s] w
 go_enter func136,ntmps136
 go_wp2;refine YO (YD rfl _ _ w.heap.size 31 _ (0,0) _ rfl (XH _ _ _) underlying31 rfl (by kernel_rfl)) rfl ?_;exact ⟨rfl,bu _ _ _⟩
theorem li (w:World) (A B C D E Co Ro:Int) (s:ByteArray):
  QB 135 #[.agg #[(2:Int),A,B,C,D,E,Co,Ro,s]] w (.iface 217 (.agg #[A,B,C,D,E])):=by
 go_enter func135,ntmps135
 go_wp2;go_ret
 first
  | exact ⟨rfl,(ZQ _ w).alloc (ZV _) _⟩
  | exact ⟨rfl,bu _ _ _⟩
theorem nR (w:World) (A B C D E Co Ro:Int) (s:ByteArray):
  QB 136 #[.iface 217 (.agg #[A,B,C,D,E])] w (.agg #[(2:Int),A,B,C,D,E,oz,oz,.string ⟨#[]⟩]):=by
 have t0:=fun w=>A9 #[A,B,C,D,E] w
 have tText:=fun w=>sC #[A,B,C,D,E] w
 go_enter func136,ntmps136
 go_wp2;refine YO (YD rfl _ _ w.heap.size 31 _ (0,0) _ rfl (XH _ _ _) underlying31 rfl (by kernel_rfl)) rfl ?_;exact ⟨rfl,bu _ _ _⟩
theorem kY (w:World) (A B C D E Co Ro:Int) (s:ByteArray):
  QB 135 #[.agg #[(3:Int),A,B,C,D,E,Co,Ro,s]] w (.iface 219 (.agg #[A,B,C,D,E])):=by
 go_enter func135,ntmps135
 go_wp2;go_ret
 first
  | exact ⟨rfl,(ZQ _ w).alloc (ZV _) _⟩
  | exact ⟨rfl,bu _ _ _⟩
theorem mM (w:World) (A B C D E Co Ro:Int) (s:ByteArray):
  QB 136 #[.iface 219 (.agg #[A,B,C,D,E])] w (.agg #[(3:Int),A,B,C,D,E,oz,oz,.string ⟨#[]⟩]):=by
 have t0:=fun w=>A3 #[A,B,C,D,E] w
 have tText:=fun w=>tZ #[A,B,C,D,E] w
 have tLine:=fun w=>sX #[A,B,C,D,E] w
 go_enter func136,ntmps136
 go_wp2;refine YO (YD rfl _ _ w.heap.size 31 _ (0,0) _ rfl (XH _ _ _) underlying31 rfl (by kernel_rfl)) rfl ?_;exact ⟨rfl,bu _ _ _⟩
theorem iJ (w:World) (K A B C D E Co Ro:Int) (s:ByteArray):
  QB 129 #[.agg #[K,A,B,C,D,E,Co,Ro,s]] w (.agg #[A,B,C,D,Co,Ro]):=by
 go_enter func129,ntmps129
 go_wp2
 first
  | refine YO (YD rfl _ _ (w.heap.size+1) 130 _ (0,0) _ rfl (Yu _ _ _) underlying130 rfl (by kernel_rfl)) rfl ?_
  | refine YO (YD rfl _ _ w.heap.size 130 _ (0,0) _ rfl (XH _ _ _) underlying130 rfl (by kernel_rfl)) rfl ?_
 exact ⟨rfl,bu _ _ _⟩
theorem fx (w:World) (A B C D Co Ro:Int):
  QB 131 #[.agg #[A,B,C,D,Co,Ro]] w (.agg #[(4:Int),A,B,C,D,oz,Co,Ro,.string ⟨#[]⟩]):=by
 go_enter func131,ntmps131
 go_wp2
 first
  | refine YO (YD rfl _ _ (w.heap.size+1) 31 _ (0,0) _ rfl (Yu _ _ _) underlying31 rfl (by kernel_rfl)) rfl ?_
  | refine YO (YD rfl _ _ w.heap.size 31 _ (0,0) _ rfl (XH _ _ _) underlying31 rfl (by kernel_rfl)) rfl ?_
 exact ⟨rfl,bu _ _ _⟩
theorem nB (w:World) (A B C D E Co Ro:Int) (s:ByteArray):
  QB 135 #[.agg #[(4:Int),A,B,C,D,E,Co,Ro,s]] w (.iface 135 (.agg #[A,B,C,D,Co,Ro,s])):=by
 have HC:=ai (fun (w1:World) (hG:af (w.alloc (Obj.cells #[(4:Int),A,B,C,D,E,Co,Ro,s] 31)) w1)=>fD (vs:=[.int .i64 4,.int .i64 A,.int .i64 B,.int .i64 C,.int .i64 D,.int .i64 E,.int .i64 Co,.int .i64 Ro,.string s]) hG);have HF:=ai (fun wx=>iJ wx 4 A B C D E Co Ro s);go_enter func135,ntmps135
 go_wp2;refine ap 6 53 (ag [.agg #[(4:Int),A,B,C,D,E,Co,Ro,s],.agg #[A,B,C,D,Co,Ro],zq w.heap.size 8,s,.agg #[A,B,C,D,Co,Ro,s],.iface 135 (.agg #[A,B,C,D,Co,Ro,s])]) (by kernel_rfl) rfl (by kernel_rfl) aq ?_;simp only [TD];refine ⟨fun w1 hG hd=>?_,fun v0=>?_⟩
 ·obtain ⟨_,hsz,cs⟩:=HC.out w1 hG;have c0:=cs 0 _ rfl;have c1:=cs 1 _ rfl;have c2:=cs 2 _ rfl;have c3:=cs 3 _ rfl;have c4:=cs 4 _ rfl;have c5:=cs 5 _ rfl;have c6:=cs 6 _ rfl;have c7:=cs 7 _ rfl;have c8:=cs 8 _ rfl;go_wp2;exact RG
 refine ⟨fun w1 hG hd=>?_,fun v1=>?_⟩
 ·simp [ag,Region.binds] at hd;subst hd;go_wp2_with fail
  refine (HF.out w1).mono ?_;rintro e w2 ⟨rfl,hB2⟩;go_wp2;exact ⟨rfl,hB2⟩
 refine ⟨fun w1 hG hd=>?_,fun v2=>?_⟩
 ·go_wp2;exact RG
 refine ⟨fun w1 hG hd=>?_,fun v3=>?_⟩
 ·obtain ⟨_,hsz,cs⟩:=HC.out w1 hG;have c:=cs 8 _ rfl;simp [ag,Region.binds] at hd;subst hd;go_wp2;exact RG
 refine ⟨fun w1 hG hd=>?_,fun v4=>?_⟩
 ·simp [ag,Region.binds] at hd;obtain ⟨rfl,rfl⟩:=hd;go_wp2;exact RG
 refine ⟨fun w1 hG hd=>?_,fun v5=>?_⟩
 ·simp [ag,Region.binds] at hd;subst hd;go_wp2;exact RG
 intro w1 hG hd;have d5:=hd 5 (by omega);simp [ag] at d5;subst d5;obtain ⟨hGw,_⟩:=HC.out w1 hG;have HGw:=ai hGw;clear hd HC HF hG hGw;go_wp2;go_ret;exact ⟨rfl,HGw.out⟩
section
variable {T:TypeId} {q q':Value} {f:FuncId}
theorem ju (w:World) (Z:Ending->World->Prop) (hn:∀ wx,(nilAhead 465 T q "Write").run prog wx=.ok (some false) wx) (hm:∀ wx,(method 465 T q "Write").run prog wx=.ok (f,q') wx) (he:∀ args wx,(callFunc f args).run prog wx=.ok (.enter f args) wx)
  (HW:Hid (CP f #[q',.string ⟨#[10,69,73,32,81,10]⟩] w fun e w'=>∃ v,e=.returned v/\Z (.returned v) w')):CP 134 #[.iface T q] w Z:=by
 go_enter func134,ntmps134
 go_wp2_with fail
 refine HW.out.mono ?_;rintro e w1 ⟨v,rfl,hZ⟩;go_wp2
 first
  | exact hZ
  | (go_ret;exact hZ)
end
theorem rO (P:Nat) (w:World):(method 465 91 (zp P) "Write").run prog w=.ok (133,.pointer (some ⟨P,0,none⟩)) w:=by kernel_rfl
theorem uJ (P:Nat) (w:World):(nilAhead 465 91 (zp P) "Write").run prog w=.ok (some false) w:=by kernel_rfl
theorem oK (args:Array Value) (w:World):(callFunc 133 args).run prog w=.ok (.enter 133 args) w:=by kernel_rfl
section
variable {Wp:Value} {Rb:Nat} {et:TypeId} {ev:Value}
end
end Go.Proofs.YtbklfkpjoinofaaGreatDoor
