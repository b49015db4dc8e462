import Derived.Test.YtbklfkpjoinofaaGreatDoorA11
set_option linter.all false
set_option maxRecDepth 100000
set_option maxHeartbeats 8000000
namespace Go.Proofs.YtbklfkpjoinofaaGreatDoor
open Go.RowKit Go.Proofs.Tryz
def br (least:Int) (ns:List Int):Bool:=ns.all fun z=>decide (least<=z/\z<=14400000)
theorem rS {least:Int} {ns:List Int} {k:Nat} (hk:k < ns.length) (h:¬ (least<=ns[k]/\ns[k]<=14400000)):br least ns=false:=by
 unfold br;rw [List.all_eq_false];exact ⟨ns[k],Yp hk,by simpa using h⟩
theorem bZ (w:World) (v:Value) (ns:List Int) (least:Int) (h:ci ns v w) (hlen:ns.length<=100):
  QE 168 #[least,v] w (.bool (br least ns)):=by
 obtain ⟨b,rfl,hb,hc⟩:=h;obtain ⟨len,hl⟩:∃ len,ns.length=len:=⟨_,rfl⟩;rw [hl] at hlen ⊢;go_enter func168,ntmps168
 go_wp2;go_loopg [6,9] (len+1) (fun g _ i wr=>∃ k:Nat,k<=len/\len - k < g/\i=.int .i64 k/\wr=w/\Hid (br least (ns.take k)=true))
 case atStart=>exact ⟨0,by omega,by omega,rfl,rfl,by show _=_;simp [br]⟩
 case round=>
  obtain ⟨k,hk,hg,rfl,rfl,HA⟩:=hrel;by_cases hlt:k < len
  ·have hkn:k < ns.length:=by omega
   have hcell:=hc k ns[k] (ZM hkn);rw [YF] at hcell;have HF:=ai (fun h=>rS (least:=least) hkn h);have HN:Hid (least<=ns[k]/\ns[k]<=14400000->br least (ns.take (k+1))=true):=by
    intro hz;have ha:=HA.out;unfold br at ha ⊢;rw [Zv hkn,List.all_append,ha];simpa using hz
   clear hc;generalize ns[k]=z at*;by_cases h1:z < least
   ·go_wp2;go_ret;exact ⟨by rw [HF.out (by omega)];rfl,rfl⟩
   ·by_cases h2:14400000 < z
    ·go_wp2;go_ret;exact ⟨by rw [HF.out (by omega)];rfl,rfl⟩
    ·have HQ:=ai (HN.out ⟨by omega,by omega⟩);go_wp2;go_roundg (gk - 1)
     case measure=>omega
     case rel=>exact ⟨k+1,by omega,by omega,by go_num,rfl,HQ.out⟩
  ·have hkl:ns.take k=ns:=Zy (by omega);have HQ:=HA.out;rw [hkl] at HQ;have HQ:=ai HQ;clear hkl HA hc;go_wp2;go_ret;exact ⟨by rw [HQ.out];rfl,rfl⟩
theorem aE {f:FuncId} {args args':Array Value} {w w':World} {Q:Ending->World->Prop} (h:CP f args w Q) (ha:args=args') (hw:w=w'):CP f args' w' Q:=ha ▸ hw ▸ h
theorem bu (w:World) (a b:Obj):Below w w ((w.alloc a).alloc b):=((ZT _ w).alloc (ZW _) _).alloc (by simp) _
theorem bv (w:World) (a b c:Obj):Below w w (((w.alloc a).alloc b).alloc c):=(bu w a b).alloc (by simp;omega) _
theorem np (w:World) (X Y Z:Int) (s:ByteArray) (hs:s.size<=9223372036854775807):
  QB 357 #[.agg #[X,Y,Z,s]] w (.bool (br (-14400000) [X,Y]&&br 1 [Z]&&decide (s.size<=100))):=by
 have H0:=ai (fun wx=>bZ _ _ [X,Y] (-14400000) (eD wx X Y) (by simp));have H1:=ai (fun wx=>bZ _ _ [Z] 1 (e6 wx Z) (by simp));generalize br (-14400000) [X,Y]=b0 at*;generalize br 1 [Z]=b1 at*
 cases b0
 ·exact (by
   go_enter func357,ntmps357
   go_wp2_with fail
   refine (aE (H0.out _) (by simp) rfl).mono ?_;rintro e w1 ⟨rfl,rfl⟩;go_wp2;go_ret;refine ⟨?_,bu _ _ _⟩
   first
    | (simp;done)
    | (simp [];done)
    | (simp [];omega)
    | (simp;omega)
   )
 ·cases b1
  ·exact (by
    go_enter func357,ntmps357
    go_wp2_with fail
    refine (aE (H0.out _) (by simp) rfl).mono ?_;rintro e w1 ⟨rfl,rfl⟩;go_wp2_with fail
    refine (aE (H1.out _) (by simp) rfl).mono ?_;rintro e w1 ⟨rfl,rfl⟩;go_wp2;go_ret;refine ⟨?_,bv _ _ _ _⟩
    first
     | (simp;done)
     | (simp [];done)
     | (simp [];omega)
     | (simp;omega)
    )
  ·by_cases h2:s.size<=100
   ·have h2':(s.size:Int)<=100:=by omega
    go_enter func357,ntmps357
    go_wp2_with fail
    refine (aE (H0.out _) (by simp) rfl).mono ?_;rintro e w1 ⟨rfl,rfl⟩;go_wp2_with fail
    refine (aE (H1.out _) (by simp) rfl).mono ?_;rintro e w1 ⟨rfl,rfl⟩;go_wp2;go_ret;refine ⟨?_,bv _ _ _ _⟩
    first
     | (simp;done)
     | (simp [h2];done)
     | (simp [h2];omega)
     | (simp;omega)
   ·have h2':¬ (s.size:Int)<=100:=by omega
    go_enter func357,ntmps357
    go_wp2_with fail
    refine (aE (H0.out _) (by simp) rfl).mono ?_;rintro e w1 ⟨rfl,rfl⟩;go_wp2_with fail
    refine (aE (H1.out _) (by simp) rfl).mono ?_;rintro e w1 ⟨rfl,rfl⟩;go_wp2;go_ret;refine ⟨?_,bv _ _ _ _⟩
    first
     | (simp;done)
     | (simp [h2];done)
     | (simp [h2];omega)
     | (simp;omega)
theorem mQ (w:World) (X Y X' Y' W:Int):
  QB 359 #[.agg #[X,Y,X',Y',W]] w (.bool (br (-14400000) [X,Y,X',Y']&&br 0 [W])):=by
 have H0:=ai (fun wx=>bZ _ _ [X,Y,X',Y'] (-14400000) (ma wx X Y X' Y') (by simp));have H1:=ai (fun wx=>bZ _ _ [W] 0 (e6 wx W) (by simp));generalize br (-14400000) [X,Y,X',Y']=b0 at*;generalize br 0 [W]=b1 at*
 cases b0
 ·exact (by
   go_enter func359,ntmps359
   go_wp2_with fail
   refine (aE (H0.out _) (by simp) rfl).mono ?_;rintro e w1 ⟨rfl,rfl⟩;go_wp2;go_ret;refine ⟨?_,bu _ _ _⟩
   first
    | (simp;done)
    | (simp [];done)
    | (simp [];omega)
    | (simp;omega)
   )
 ·cases b1
  ·exact (by
    go_enter func359,ntmps359
    go_wp2_with fail
    refine (aE (H0.out _) (by simp) rfl).mono ?_;rintro e w1 ⟨rfl,rfl⟩;go_wp2_with fail
    refine (aE (H1.out _) (by simp) rfl).mono ?_;rintro e w1 ⟨rfl,rfl⟩;go_wp2;go_ret;refine ⟨?_,bv _ _ _ _⟩
    first
     | (simp;done)
     | (simp [];done)
     | (simp [];omega)
     | (simp;omega)
    )
  ·go_enter func359,ntmps359
   go_wp2_with fail
   refine (aE (H0.out _) (by simp) rfl).mono ?_;rintro e w1 ⟨rfl,rfl⟩;go_wp2_with fail
   refine (aE (H1.out _) (by simp) rfl).mono ?_;rintro e w1 ⟨rfl,rfl⟩;go_wp2;go_ret;refine ⟨?_,bv _ _ _ _⟩
   first
    | (simp;done)
    | (simp [];done)
    | (simp [];omega)
    | (simp;omega)
theorem jV (w:World) (X Y W H G:Int):
  QB 361 #[.agg #[X,Y,W,H,G]] w (.bool (br (-14400000) [X,Y]&&br 0 [W,H,G]&&decide (G<=1000))):=by
 have H0:=ai (fun wx=>bZ _ _ [X,Y] (-14400000) (eD wx X Y) (by simp));have H1:=ai (fun wx=>bZ _ _ [W,H,G] 0 (lE wx W H G) (by simp));generalize br (-14400000) [X,Y]=b0 at*;generalize br 0 [W,H,G]=b1 at*
 cases b0
 ·exact (by
   go_enter func361,ntmps361
   go_wp2_with fail
   refine (aE (H0.out _) (by simp) rfl).mono ?_;rintro e w1 ⟨rfl,rfl⟩;go_wp2;go_ret;refine ⟨?_,bu _ _ _⟩
   first
    | (simp;done)
    | (simp [];done)
    | (simp [];omega)
    | (simp;omega)
   )
 ·cases b1
  ·exact (by
    go_enter func361,ntmps361
    go_wp2_with fail
    refine (aE (H0.out _) (by simp) rfl).mono ?_;rintro e w1 ⟨rfl,rfl⟩;go_wp2_with fail
    refine (aE (H1.out _) (by simp) rfl).mono ?_;rintro e w1 ⟨rfl,rfl⟩;go_wp2;go_ret;refine ⟨?_,bv _ _ _ _⟩
    first
     | (simp;done)
     | (simp [];done)
     | (simp [];omega)
     | (simp;omega)
    )
  ·by_cases h2:G<=1000
   ·have h2':G<=1000:=by omega
    go_enter func361,ntmps361
    go_wp2_with fail
    refine (aE (H0.out _) (by simp) rfl).mono ?_;rintro e w1 ⟨rfl,rfl⟩;go_wp2_with fail
    refine (aE (H1.out _) (by simp) rfl).mono ?_;rintro e w1 ⟨rfl,rfl⟩;go_wp2;go_ret;refine ⟨?_,bv _ _ _ _⟩
    first
     | (simp;done)
     | (simp [h2];done)
     | (simp [h2];omega)
     | (simp;omega)
   ·have h2':¬ G<=1000:=by omega
    go_enter func361,ntmps361
    go_wp2_with fail
    refine (aE (H0.out _) (by simp) rfl).mono ?_;rintro e w1 ⟨rfl,rfl⟩;go_wp2_with fail
    refine (aE (H1.out _) (by simp) rfl).mono ?_;rintro e w1 ⟨rfl,rfl⟩;go_wp2;go_ret;refine ⟨?_,bv _ _ _ _⟩
    first
     | (simp;done)
     | (simp [h2];done)
     | (simp [h2];omega)
     | (simp;omega)
theorem eJ (w:World) (X Y W H C R:Int):
  QB 130 #[.agg #[X,Y,W,H,C,R]] w (.bool (br (-14400000) [X,Y]&&br 1 [W,H]&&(decide (1<=C)&&decide (C<=64))&&(decide (1<=R)&&decide (R<=64)))):=by
 have H0:=ai (fun wx=>bZ _ _ [X,Y] (-14400000) (eD wx X Y) (by simp));have H1:=ai (fun wx=>bZ _ _ [W,H] 1 (eD wx W H) (by simp));generalize br (-14400000) [X,Y]=b0 at*;generalize br 1 [W,H]=b1 at*
 cases b0
 ·exact (by
   go_enter func130,ntmps130
   go_wp2_with fail
   refine (aE (H0.out _) (by simp) rfl).mono ?_;rintro e w1 ⟨rfl,rfl⟩;go_wp2;go_ret;refine ⟨?_,bu _ _ _⟩
   first
    | (simp;done)
    | (simp [];done)
    | (simp [];omega)
    | (simp;omega)
   )
 ·cases b1
  ·exact (by
    go_enter func130,ntmps130
    go_wp2_with fail
    refine (aE (H0.out _) (by simp) rfl).mono ?_;rintro e w1 ⟨rfl,rfl⟩;go_wp2_with fail
    refine (aE (H1.out _) (by simp) rfl).mono ?_;rintro e w1 ⟨rfl,rfl⟩;go_wp2;go_ret;refine ⟨?_,bv _ _ _ _⟩
    first
     | (simp;done)
     | (simp [];done)
     | (simp [];omega)
     | (simp;omega)
    )
  ·by_cases h2:1<=C
   ·have h2':1<=C:=by omega
    by_cases h3:C<=64
    ·have h3':C<=64:=by omega
     by_cases h4:1<=R
     ·have h4':1<=R:=by omega
      by_cases h5:R<=64
      ·have h5':R<=64:=by omega
       go_enter func130,ntmps130
       go_wp2_with fail
       refine (aE (H0.out _) (by simp) rfl).mono ?_;rintro e w1 ⟨rfl,rfl⟩;go_wp2_with fail
       refine (aE (H1.out _) (by simp) rfl).mono ?_;rintro e w1 ⟨rfl,rfl⟩;go_wp2;go_ret;refine ⟨?_,bv _ _ _ _⟩
       first
        | (simp;done)
        | (simp [h2,h3,h4,h5];done)
        | (simp [h2,h3,h4,h5];omega)
        | (simp;omega)
      ·have h5':¬ R<=64:=by omega
       go_enter func130,ntmps130
       go_wp2_with fail
       refine (aE (H0.out _) (by simp) rfl).mono ?_;rintro e w1 ⟨rfl,rfl⟩;go_wp2_with fail
       refine (aE (H1.out _) (by simp) rfl).mono ?_;rintro e w1 ⟨rfl,rfl⟩;go_wp2;go_ret;refine ⟨?_,bv _ _ _ _⟩
       first
        | (simp;done)
        | (simp [h2,h3,h4,h5];done)
        | (simp [h2,h3,h4,h5];omega)
        | (simp;omega)
     ·have h4':¬ 1<=R:=by omega
      go_enter func130,ntmps130
      go_wp2_with fail
      refine (aE (H0.out _) (by simp) rfl).mono ?_;rintro e w1 ⟨rfl,rfl⟩;go_wp2_with fail
      refine (aE (H1.out _) (by simp) rfl).mono ?_;rintro e w1 ⟨rfl,rfl⟩;go_wp2;go_ret;refine ⟨?_,bv _ _ _ _⟩
      first
       | (simp;done)
       | (simp [h2,h3,h4];done)
       | (simp [h2,h3,h4];omega)
       | (simp;omega)
    ·have h3':¬ C<=64:=by omega
     go_enter func130,ntmps130
     go_wp2_with fail
     refine (aE (H0.out _) (by simp) rfl).mono ?_;rintro e w1 ⟨rfl,rfl⟩;go_wp2_with fail
     refine (aE (H1.out _) (by simp) rfl).mono ?_;rintro e w1 ⟨rfl,rfl⟩;go_wp2;go_ret;refine ⟨?_,bv _ _ _ _⟩
     first
      | (simp;done)
      | (simp [h2,h3];done)
      | (simp [h2,h3];omega)
      | (simp;omega)
   ·have h2':¬ 1<=C:=by omega
    go_enter func130,ntmps130
    go_wp2_with fail
    refine (aE (H0.out _) (by simp) rfl).mono ?_;rintro e w1 ⟨rfl,rfl⟩;go_wp2_with fail
    refine (aE (H1.out _) (by simp) rfl).mono ?_;rintro e w1 ⟨rfl,rfl⟩;go_wp2;go_ret;refine ⟨?_,bv _ _ _ _⟩
    first
     | (simp;done)
     | (simp [h2];done)
     | (simp [h2];omega)
     | (simp;omega)
end Go.Proofs.YtbklfkpjoinofaaGreatDoor
