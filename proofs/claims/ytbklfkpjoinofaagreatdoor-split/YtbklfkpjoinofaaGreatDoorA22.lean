import Derived.Test.YtbklfkpjoinofaaGreatDoorA18
set_option linter.all false
set_option maxRecDepth 100000
set_option maxHeartbeats 8000000
namespace Go.Proofs.YtbklfkpjoinofaaGreatDoor
open Go.RowKit Go.Proofs.Tryz
theorem rT (w:World) (A B C D E Co Ro:Int) (s:ByteArray) (HF:Hid (∀ wx,QB 361 #[.agg #[A,B,C,D,E]] wx false)):
  QB 93 #[.agg #[(3:Int),A,B,C,D,E,Co,Ro,s]] w (.tuple #[.nilIface,false]):=by
 have hm:=fun w=>xP #[A,B,C,D,E] w
 have HO:=ai (fun wx=>kY wx A B C D E Co Ro s);have HP:=ai (fun wx=>mM wx A B C D E Co Ro s);have HC:=ai (fun (w1:World) (hG:af (w.alloc (Obj.cells #[(3:Int),A,B,C,D,E,Co,Ro,s] 31)) w1)=>(hG.block w.heap.size (by simp)).trans (ZF w (Obj.cells #[(3:Int),A,B,C,D,E,Co,Ro,s] 31)));have HG0:=ai (fun (w1:World) (hG:af (w.alloc (Obj.cells #[(3:Int),A,B,C,D,E,Co,Ro,s] 31)) w1)=>af.trans (aN w _) hG);go_enter func93,ntmps93
 go_wp2_with fail
 refine (HO.out _).mono ?_;rintro e w1 ⟨rfl,hB1⟩;go_wp2;refine ap 12 21 (ag [.iface 219 (.agg #[A,B,C,D,E]),false,false,.iface 219 (.agg #[A,B,C,D,E]),false,true,true,true,undef,undef,undef,undef]) (by kernel_rfl) rfl (by kernel_rfl) aq ?_;simp only [TD]
 iterate 12
  refine ⟨fun w1 hG hd=>?_,fun v=>?_⟩
  ·try (have d:=hd _ ⟨ZB _⟩ rfl;simp only [ag,GD] at d;subst d)
   try (have d:=hd _ ⟨.tail _ (.head _)⟩ rfl;simp only [ag,GD] at d;subst d)
   try (have d:=hd _ ⟨.tail _ (.tail _ (.head _))⟩ rfl;simp only [ag,GD] at d;subst d)
   clear hd;go_wp2_with fail
   first
    | exact RG
    | ((with_reducible refine (HF.out w1).mono ?_);rintro e w2 ⟨rfl,hB2⟩;go_wp2;exact ⟨rfl,hB2⟩)
  simp only [TN]
 intro w2 hG hd;have d4:=hd 4 (by omega);have d7:=hd 7 (by omega);have d11:=hd 11 (by omega);simp only [ag,GD] at d4 d7 d11;subst d4 d7 d11;have HG:=ai (HG0.out w2 (af.trans hB1 hG));clear hd HC HG0 HF HP HO hG hB1;go_wp2;go_ret2;exact ⟨rfl,HG.out⟩
theorem fF (w:World) (A B C D E Co Ro:Int) (s:ByteArray) (b:Bool) (hb:b=false/\Co=0/\Ro=0/\s=⟨#[]⟩\/b=true/\(¬ Co=0\/¬ Ro=0\/¬ s.toList=[])) (HF:Hid (∀ wx,QB 361 #[.agg #[A,B,C,D,E]] wx true)):
  QB 93 #[.agg #[(3:Int),A,B,C,D,E,Co,Ro,s]] w (bif b then .tuple #[.nilIface,false] else .tuple #[.iface 219 (.agg #[A,B,C,D,E]),true]):=by
 have hm:=fun w=>xP #[A,B,C,D,E] w
 have HO:=ai (fun wx=>kY wx A B C D E Co Ro s);have HP:=ai (fun wx=>mM wx A B C D E Co Ro s);have HC:=ai (fun (w1:World) (hG:af (w.alloc (Obj.cells #[(3:Int),A,B,C,D,E,Co,Ro,s] 31)) w1)=>(hG.block w.heap.size (by simp)).trans (ZF w (Obj.cells #[(3:Int),A,B,C,D,E,Co,Ro,s] 31)));have HG0:=ai (fun (w1:World) (hG:af (w.alloc (Obj.cells #[(3:Int),A,B,C,D,E,Co,Ro,s] 31)) w1)=>af.trans (aN w _) hG);go_enter func93,ntmps93
 go_wp2_with fail
 refine (HO.out _).mono ?_;rintro e w1 ⟨rfl,hB1⟩;go_wp2;refine ap 12 21 (ag [.iface 219 (.agg #[A,B,C,D,E]),false,false,.iface 219 (.agg #[A,B,C,D,E]),true,false,false,false,.iface 219 (.agg #[A,B,C,D,E]),.agg #[(3:Int),A,B,C,D,E,(0:Int),(0:Int),.string ⟨#[]⟩],.agg #[(3:Int),A,B,C,D,E,Co,Ro,s],b]) (by kernel_rfl) rfl (by kernel_rfl) aq ?_;simp only [TD]
 iterate 10
  refine ⟨fun w1 hG hd=>?_,fun v=>?_⟩
  ·try (have d:=hd _ ⟨ZB _⟩ rfl;simp only [ag,GD] at d;subst d)
   try (have d:=hd _ ⟨.tail _ (.head _)⟩ rfl;simp only [ag,GD] at d;subst d)
   clear hd;go_wp2_with fail
   first
    | exact RG
    | ((first | with_reducible refine (HF.out w1).mono ?_ | with_reducible refine (HP.out w1).mono ?_);rintro e w2 ⟨rfl,hB2⟩;go_wp2;exact ⟨rfl,hB2⟩)
  simp only [TN]
 refine ⟨fun w2 hG hd=>?_,fun v10=>?_⟩
 ·have d7:=hd ⟨7,.guard⟩ (by simp) rfl;simp only [ag,GD] at d7;clear hd;subst d7;have kO:=HC.out w2 (af.trans hB1 hG);refine dA rfl 31 (.tmp 1) rfl w.heap.size rfl 31 _ (0,0) _ kO underlying31 rfl (by kernel_rfl) ?_;refine YN ?_;exact ⟨rfl,rfl,rfl,af.refl _⟩
 simp only [TN];refine ⟨fun w2 hG hd=>?_,fun v11=>?_⟩
 ·have d9:=hd ⟨9,.data⟩ (by simp) rfl;have d10:=hd ⟨10,.data⟩ (by simp) rfl;have d7:=hd ⟨7,.guard⟩ (by simp) rfl;simp only [ag,GD] at d9 d10 d7;clear hd;subst d9 d10 d7;rcases hb with ⟨rfl,rfl,rfl,rfl⟩ | ⟨rfl,h | h | h⟩ <;> (go_wp2 <;> exact RG)
 simp only [TN];intro w2 hG hd;have d4:=hd 4 (by omega);have d7:=hd 7 (by omega);have d11:=hd 11 (by omega);simp only [ag,GD] at d4 d7 d11;subst d4 d7 d11;have HG:=ai (HG0.out w2 (af.trans hB1 hG));clear hd HC HG0 HF HP HO hG hB1 hb
 cases b <;> (go_wp2;go_ret2;exact ⟨rfl,HG.out⟩)
end Go.Proofs.YtbklfkpjoinofaaGreatDoor
