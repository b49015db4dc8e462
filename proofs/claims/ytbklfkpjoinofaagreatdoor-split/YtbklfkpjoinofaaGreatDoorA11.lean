import Derived.Test.YtbklfkpjoinofaaGreatDoorA08
set_option linter.all false
set_option maxRecDepth 100000
set_option maxHeartbeats 8000000
namespace Go.Proofs.YtbklfkpjoinofaaGreatDoor
open Go.RowKit Go.Proofs.Tryz
theorem lE (w:World) (x y z:Int):ci [x,y,z] (.slice w 3 3) (w.alloc (Obj.cells #[x,y,z] 3)):=by
 refine ⟨w.heap.size,rfl,by simp,fun j u hu=>?_⟩
 match j,hu with
 | 0,hu=>simp at hu;subst hu;simp
 | 1,hu=>simp at hu;subst hu;simp
 | 2,hu=>simp at hu;subst hu;simp
 | j+3,hu=>simp at hu
theorem ma (w:World) (x y z t:Int):ci [x,y,z,t] (.slice w 4 4) (w.alloc (Obj.cells #[x,y,z,t] 3)):=by
 refine ⟨w.heap.size,rfl,by simp,fun j u hu=>?_⟩
 match j,hu with
 | 0,hu=>simp at hu;subst hu;simp
 | 1,hu=>simp at hu;subst hu;simp
 | 2,hu=>simp at hu;subst hu;simp
 | 3,hu=>simp at hu;subst hu;simp
 | j+4,hu=>simp at hu
theorem fD {w w1:World} {vs:List Value} {t:TypeId} (hG:af (w.alloc (Obj.cells vs.toArray t)) w1):af w w1/\w.heap.size < w1.heap.size/\∀ j u,vs[j]? =some u->w1.cell? (zq w j)=some u:=by
 have hs:=hG.size;have hsz:w.heap.size < (w.alloc (Obj.cells vs.toArray t)).heap.size:=by simp
 refine ⟨af.trans ((ZT _ w).alloc (ZW _) _) hG,by omega,fun j u hu=>?_⟩;rw [Zc hG (p:=zq w j) hsz];obtain ⟨hj,rfl⟩:=Zx.1 hu;simp [hj]
def dj (t:Value) (b:Nat) (X Y Z:Int) (Sb:ByteArray) (s1 s2 s3 sx:List UInt8) (k:Nat) (v:Value) (w:World):Prop:=
 match k with
 | 0=>v=t
 | 1=>v=.pointer (some ⟨b,2,none⟩)
 | 2=>v=.int .i64 Z
 | 3=>ci [Z] v w
 | 4=>v=.string ⟨(s1).toArray⟩
 | 5=>v=.string ⟨([66,84,32,47,70,49,32]++s1).toArray⟩
 | 6=>v=.string ⟨([66,84,32,47,70,49,32]++s1++[84,102,32]).toArray⟩
 | 7=>v=.pointer (some ⟨b,0,none⟩)
 | 8=>v=.int .i64 X
 | 9=>v=.pointer (some ⟨b,1,none⟩)
 | 10=>v=.int .i64 Y
 | 11=>ci [X,Y] v w
 | 12=>v=.string ⟨(s2).toArray⟩
 | 13=>v=.string ⟨([66,84,32,47,70,49,32]++s1++[84,102,32]++s2).toArray⟩
 | 14=>v=.string ⟨([66,84,32,47,70,49,32]++s1++[84,102,32]++s2++[84,100,32]).toArray⟩
 | 15=>v=.pointer (some ⟨b,3,none⟩)
 | 16=>v=.string Sb
 | 17=>v=.string ⟨(s3).toArray⟩
 | 18=>v=.string ⟨([66,84,32,47,70,49,32]++s1++[84,102,32]++s2++[84,100,32]++s3).toArray⟩
 | 19=>v=.string ⟨(sx).toArray⟩
 | 20=>v=.func (.method "Write") #[t] #[]
 | 21=>True
 | 22=>v=t
 | _=>True
theorem yh {t:Value} {b:Nat} {X Y Z:Int} {Sb:ByteArray} {s1 s2 s3 sx:List UInt8} (k:Nat) (v:Value) (w w':World) (hk:k < 23) (h:dj t b X Y Z Sb s1 s2 s3 sx k v w) (g:af w w'):dj t b X Y Z Sb s1 s2 s3 sx k v w':=by
 unfold dj at h;split at h
 all_goals first | exact h | exact ci.on h g | (unfold dj;split <;> first | trivial | simp_all)
def dK (t:Value) (b:Nat) (X Y W H G:Int) (s1 s2 sx:List UInt8) (k:Nat) (v:Value) (w:World):Prop:=
 match k with
 | 0=>v=t
 | 1=>v=.pointer (some ⟨b,4,none⟩)
 | 2=>v=.int .i64 G
 | 3=>ci [G] v w
 | 4=>v=.string ⟨(s1).toArray⟩
 | 5=>v=.string ⟨(s1++[103,32]).toArray⟩
 | 6=>v=.pointer (some ⟨b,0,none⟩)
 | 7=>v=.int .i64 X
 | 8=>v=.pointer (some ⟨b,1,none⟩)
 | 9=>v=.int .i64 Y
 | 10=>v=.pointer (some ⟨b,2,none⟩)
 | 11=>v=.int .i64 W
 | 12=>v=.pointer (some ⟨b,3,none⟩)
 | 13=>v=.int .i64 H
 | 14=>ci [X,Y,W,H] v w
 | 15=>v=.string ⟨(s2).toArray⟩
 | 16=>v=.string ⟨(s1++[103,32]++s2).toArray⟩
 | 17=>v=.string ⟨(sx).toArray⟩
 | 18=>v=.func (.method "Write") #[t] #[]
 | 19=>True
 | 20=>v=t
 | _=>True
theorem xJ {t:Value} {b:Nat} {X Y W H G:Int} {s1 s2 sx:List UInt8} (k:Nat) (v:Value) (w w':World) (hk:k < 21) (h:dK t b X Y W H G s1 s2 sx k v w) (g:af w w'):dK t b X Y W H G s1 s2 sx k v w':=by
 unfold dK at h;split at h
 all_goals first | exact h | exact ci.on h g | (unfold dK;split <;> first | trivial | simp_all)
def fY (b:Nat) (C R:Int) (i1 i2 si:List UInt8) (k:Nat) (v:Value) (w:World):Prop:=
 match k with
 | 0=>v=.pointer (some ⟨b,4,none⟩)
 | 1=>v=.int .i64 C
 | 2=>v=.string ⟨(i1).toArray⟩
 | 3=>v=.string ⟨([47,87,32]++i1).toArray⟩
 | 4=>v=.string ⟨([47,87,32]++i1++[32,47,72,32]).toArray⟩
 | 5=>v=.pointer (some ⟨b,5,none⟩)
 | 6=>v=.int .i64 R
 | 7=>v=.string ⟨(i2).toArray⟩
 | 8=>v=.string ⟨(si).toArray⟩
 | _=>True
theorem x_ {b:Nat} {C R:Int} {i1 i2 si:List UInt8} (k:Nat) (v:Value) (w w':World) (hk:k < 9) (h:fY b C R i1 i2 si k v w) (g:af w w'):fY b C R i1 i2 si k v w':=by
 unfold fY at h;split at h
 all_goals first | exact h | exact ci.on h g | (unfold fY;split <;> first | trivial | simp_all)
def fe (t:Value) (b:Nat) (X Y W H:Int) (s1 s2 si sx:List UInt8) (k:Nat) (v:Value) (w:World):Prop:=
 match k with
 | 0=>v=t
 | 1=>v=.pointer (some ⟨b,2,none⟩)
 | 2=>v=.int .i64 W
 | 3=>ci [W] v w
 | 4=>v=.string ⟨(s1).toArray⟩
 | 5=>v=.string ⟨([113,32]++s1).toArray⟩
 | 6=>v=.string ⟨([113,32]++s1++[48,32,48,32]).toArray⟩
 | 7=>v=.pointer (some ⟨b,3,none⟩)
 | 8=>v=.int .i64 H
 | 9=>v=.pointer (some ⟨b,0,none⟩)
 | 10=>v=.int .i64 X
 | 11=>v=.pointer (some ⟨b,1,none⟩)
 | 12=>v=.int .i64 Y
 | 13=>ci [H,X,Y] v w
 | 14=>v=.string ⟨(s2).toArray⟩
 | 15=>v=.string ⟨([113,32]++s1++[48,32,48,32]++s2).toArray⟩
 | 16=>v=.string ⟨([113,32]++s1++[48,32,48,32]++s2++[99,109,32,66,73,32]).toArray⟩
 | 17=>v=.string ⟨(si).toArray⟩
 | 18=>v=.string ⟨([113,32]++s1++[48,32,48,32]++s2++[99,109,32,66,73,32]++si).toArray⟩
 | 19=>v=.string ⟨(sx).toArray⟩
 | 20=>v=.func (.method "Write") #[t] #[]
 | 21=>True
 | 22=>v=t
 | _=>True
theorem zR {t:Value} {b:Nat} {X Y W H:Int} {s1 s2 si sx:List UInt8} (k:Nat) (v:Value) (w w':World) (hk:k < 23) (h:fe t b X Y W H s1 s2 si sx k v w) (g:af w w'):fe t b X Y W H s1 s2 si sx k v w':=by
 unfold fe at h;split at h
 all_goals first | exact h | exact ci.on h g | (unfold fe;split <;> first | trivial | simp_all)
theorem oq (w:World) (X Y Z:Int) (Sb:ByteArray) (T:Nat) (q q':Value) (f:Nat) (hn:∀ wx,(nilAhead 465 T q "Write").run prog wx=.ok (some false) wx) (hm:∀ wx,(method 465 T q "Write").run prog wx=.ok (f,q') wx) (s1 s2 s3 sx:List UInt8) (hsx:Hid ([66,84,32,47,70,49,32]++s1++[84,102,32]++s2++[84,100,32]++s3++[32,84,106,32,69,84,10]=sx))
  (l1:s1.length<=100) (l2:s2.length<=100) (l3:s3.length<=1000) (Zz:Ending->World->Prop) (he:∀ args wx,(callFunc f args).run prog wx=.ok (.enter f args) wx)
  (HW:Hid (∀ wx,af w wx->CP f #[q',.string ⟨sx.toArray⟩] wx fun e w'=>∃ v,e=.returned v/\Zz (.returned v) w'))
  (H1:Hid (∀ v wx,af w wx->ci [Z] v wx->QB 170 #[v] wx (.string ⟨s1.toArray⟩)))
  (H2:Hid (∀ v wx,af w wx->ci [X,Y] v wx->QB 170 #[v] wx (.string ⟨s2.toArray⟩)))
  (H3:Hid (∀ wx,af w wx->QB 179 #[Sb] wx (.string ⟨s3.toArray⟩))):
  CP 356 #[.agg #[X,Y,Z,Sb],.iface T q] w Zz:=by
 have z0:=ae (s1);have z1:=ae (s2);have z2:=ae (s3);have z3:=ae ([66,84,32,47,70,49,32]++s1);have z4:=ae ([66,84,32,47,70,49,32]++s1++[84,102,32]);have z5:=ae ([66,84,32,47,70,49,32]++s1++[84,102,32]++s2);have z6:=ae ([66,84,32,47,70,49,32]++s1++[84,102,32]++s2++[84,100,32]);have z7:=ae ([66,84,32,47,70,49,32]++s1++[84,102,32]++s2++[84,100,32]++s3);simp only [ZY,ZX,ZR] at z0 z1 z2 z3 z4 z5 z6 z7;have HC:=ai (fun (w1:World) (hG:af (w.alloc (Obj.cells #[X,Y,Z,Sb] 215)) w1)=>fD (vs:=[.int .i64 X,.int .i64 Y,.int .i64 Z,.string Sb]) hG);go_enter func356,ntmps356
 go_wp2;refine ap 23 29 (dj (.iface T q) w.heap.size X Y Z Sb s1 s2 s3 sx) (by kernel_rfl) rfl (by kernel_rfl) yh ?_;simp only [TD];refine ⟨fun w1 hG hd=>?_,fun v0=>?_⟩
 ·go_wp2;exact RG
 refine ⟨fun w1 hG hd=>?_,fun v1=>?_⟩
 ·go_wp2;exact RG
 refine ⟨fun w1 hG hd=>?_,fun v2=>?_⟩
 ·obtain ⟨_,hsz,cs⟩:=HC.out w1 hG;have c:=cs 2 _ rfl;simp [dj,Region.binds] at hd;subst hd;go_wp2;exact RG
 refine ⟨fun w1 hG hd=>?_,fun v3=>?_⟩
 ·simp [dj,Region.binds] at hd;subst hd;go_wp2;exact ⟨e6 _ _,aN _ _⟩
 refine ⟨fun w1 hG hd=>?_,fun v4=>?_⟩
 ·obtain ⟨hGw,_⟩:=HC.out w1 hG;simp [dj,Region.binds] at hd;have HX:=ai (H1.out _ _ hGw hd);go_wp2_with fail
  refine HX.out.mono ?_;rintro e w2 ⟨rfl,hB2⟩;go_wp2;exact ⟨rfl,hB2⟩
 refine ⟨fun w1 hG hd=>?_,fun v5=>?_⟩
 ·simp [dj,Region.binds] at hd;subst hd;go_wp2;exact ⟨aT (by simp),af.refl _⟩
 refine ⟨fun w1 hG hd=>?_,fun v6=>?_⟩
 ·simp [dj,Region.binds] at hd;subst hd;go_wp2;exact ⟨aT (by simp),af.refl _⟩
 refine ⟨fun w1 hG hd=>?_,fun v7=>?_⟩
 ·go_wp2;exact RG
 refine ⟨fun w1 hG hd=>?_,fun v8=>?_⟩
 ·obtain ⟨_,hsz,cs⟩:=HC.out w1 hG;have c:=cs 0 _ rfl;simp [dj,Region.binds] at hd;subst hd;go_wp2;exact RG
 refine ⟨fun w1 hG hd=>?_,fun v9=>?_⟩
 ·go_wp2;exact RG
 refine ⟨fun w1 hG hd=>?_,fun v10=>?_⟩
 ·obtain ⟨_,hsz,cs⟩:=HC.out w1 hG;have c:=cs 1 _ rfl;simp [dj,Region.binds] at hd;subst hd;go_wp2;exact RG
 refine ⟨fun w1 hG hd=>?_,fun v11=>?_⟩
 ·simp [dj,Region.binds] at hd;obtain ⟨rfl,rfl⟩:=hd;go_wp2;exact ⟨eD _ _ _,aN _ _⟩
 refine ⟨fun w1 hG hd=>?_,fun v12=>?_⟩
 ·obtain ⟨hGw,_⟩:=HC.out w1 hG;simp [dj,Region.binds] at hd;have HX:=ai (H2.out _ _ hGw hd.1);go_wp2_with fail
  refine HX.out.mono ?_;rintro e w2 ⟨rfl,hB2⟩;go_wp2;exact ⟨rfl,hB2⟩
 refine ⟨fun w1 hG hd=>?_,fun v13=>?_⟩
 ·simp [dj,Region.binds] at hd;obtain ⟨rfl,rfl⟩:=hd;go_wp2;exact ⟨aT (by simp),af.refl _⟩
 refine ⟨fun w1 hG hd=>?_,fun v14=>?_⟩
 ·simp [dj,Region.binds] at hd;subst hd;go_wp2;exact ⟨aT (by simp),af.refl _⟩
 refine ⟨fun w1 hG hd=>?_,fun v15=>?_⟩
 ·go_wp2;exact RG
 refine ⟨fun w1 hG hd=>?_,fun v16=>?_⟩
 ·obtain ⟨_,hsz,cs⟩:=HC.out w1 hG;have c:=cs 3 _ rfl;simp [dj,Region.binds] at hd;subst hd;go_wp2;exact RG
 refine ⟨fun w1 hG hd=>?_,fun v17=>?_⟩
 ·obtain ⟨hGw,_⟩:=HC.out w1 hG;simp [dj,Region.binds] at hd;obtain ⟨rfl,_⟩:=hd;have HX:=ai (H3.out _ hGw);go_wp2_with fail
  refine HX.out.mono ?_;rintro e w2 ⟨rfl,hB2⟩;go_wp2;exact ⟨rfl,hB2⟩
 refine ⟨fun w1 hG hd=>?_,fun v18=>?_⟩
 ·simp [dj,Region.binds] at hd;obtain ⟨rfl,rfl⟩:=hd;go_wp2;exact ⟨aT (by simp),af.refl _⟩
 refine ⟨fun w1 hG hd=>?_,fun v19=>?_⟩
 ·simp [dj,Region.binds] at hd;subst hd;go_wp2;exact ⟨aT (by rw [<-hsx.out];simp),af.refl _⟩
 refine ⟨fun w1 hG hd=>?_,fun v20=>?_⟩
 ·simp [dj,Region.binds] at hd;subst hd;go_wp2;exact RG
 refine ⟨fun w1 hG hd=>?_,fun v21=>?_⟩
 ·simp [dj,Region.binds] at hd;subst hd;go_wp2;exact ⟨True.intro,af.refl _⟩
 refine ⟨fun w1 hG hd=>?_,fun v22=>?_⟩
 ·simp [dj,Region.binds] at hd;obtain ⟨rfl,_⟩:=hd;go_wp2;exact RG
 intro w1 hG hd;have da:=hd 19 (by omega);have db:=hd 22 (by omega);simp [dj] at da db;subst da db;obtain ⟨hGw,_⟩:=HC.out w1 hG;have HX:=ai (HW.out _ hGw);clear hd HC HW hG hGw;go_wp2_with fail
 refine HX.out.mono ?_;rintro e w2 ⟨v,rfl,hZ⟩;go_wp2;exact hZ
theorem nV (w:World) (X Y W H G:Int) (T:Nat) (q q':Value) (f:Nat) (hn:∀ wx,(nilAhead 465 T q "Write").run prog wx=.ok (some false) wx) (hm:∀ wx,(method 465 T q "Write").run prog wx=.ok (f,q') wx) (s1 s2 sx:List UInt8) (hsx:Hid (s1++[103,32]++s2++[114,101,32,102,10]=sx))
  (l1:s1.length<=100) (l2:s2.length<=200) (Z:Ending->World->Prop) (he:∀ args wx,(callFunc f args).run prog wx=.ok (.enter f args) wx)
  (HW:Hid (∀ wx,af w wx->CP f #[q',.string ⟨sx.toArray⟩] wx fun e w'=>∃ v,e=.returned v/\Z (.returned v) w'))
  (H1:Hid (∀ v wx,af w wx->ci [G] v wx->QB 170 #[v] wx (.string ⟨s1.toArray⟩)))
  (H2:Hid (∀ v wx,af w wx->ci [X,Y,W,H] v wx->QB 170 #[v] wx (.string ⟨s2.toArray⟩))):
  CP 360 #[.agg #[X,Y,W,H,G],.iface T q] w Z:=by
 have z0:=ae (s1);have z1:=ae (s2);have z2:=ae (s1++[103,32]);have z3:=ae (s1++[103,32]++s2);simp only [ZY,ZX,ZR] at z0 z1 z2 z3;have HC:=ai (fun (w1:World) (hG:af (w.alloc (Obj.cells #[X,Y,W,H,G] 219)) w1)=>fD (vs:=[.int .i64 X,.int .i64 Y,.int .i64 W,.int .i64 H,.int .i64 G]) hG);go_enter func360,ntmps360
 go_wp2;refine ap 21 27 (dK (.iface T q) w.heap.size X Y W H G s1 s2 sx) (by kernel_rfl) rfl (by kernel_rfl) xJ ?_;simp only [TD];refine ⟨fun w1 hG hd=>?_,fun v0=>?_⟩
 ·go_wp2;exact RG
 refine ⟨fun w1 hG hd=>?_,fun v1=>?_⟩
 ·go_wp2;exact RG
 refine ⟨fun w1 hG hd=>?_,fun v2=>?_⟩
 ·obtain ⟨_,hsz,cs⟩:=HC.out w1 hG;have c:=cs 4 _ rfl;simp [dK,Region.binds] at hd;subst hd;go_wp2;exact RG
 refine ⟨fun w1 hG hd=>?_,fun v3=>?_⟩
 ·simp [dK,Region.binds] at hd;subst hd;go_wp2;exact ⟨e6 _ _,aN _ _⟩
 refine ⟨fun w1 hG hd=>?_,fun v4=>?_⟩
 ·obtain ⟨hGw,_⟩:=HC.out w1 hG;simp [dK,Region.binds] at hd;have HX:=ai (H1.out _ _ hGw hd);go_wp2_with fail
  refine HX.out.mono ?_;rintro e w2 ⟨rfl,hB2⟩;go_wp2;exact ⟨rfl,hB2⟩
 refine ⟨fun w1 hG hd=>?_,fun v5=>?_⟩
 ·simp [dK,Region.binds] at hd;subst hd;go_wp2;exact ⟨aT (by simp),af.refl _⟩
 refine ⟨fun w1 hG hd=>?_,fun v6=>?_⟩
 ·go_wp2;exact RG
 refine ⟨fun w1 hG hd=>?_,fun v7=>?_⟩
 ·obtain ⟨_,hsz,cs⟩:=HC.out w1 hG;have c:=cs 0 _ rfl;simp [dK,Region.binds] at hd;subst hd;go_wp2;exact RG
 refine ⟨fun w1 hG hd=>?_,fun v8=>?_⟩
 ·go_wp2;exact RG
 refine ⟨fun w1 hG hd=>?_,fun v9=>?_⟩
 ·obtain ⟨_,hsz,cs⟩:=HC.out w1 hG;have c:=cs 1 _ rfl;simp [dK,Region.binds] at hd;subst hd;go_wp2;exact RG
 refine ⟨fun w1 hG hd=>?_,fun v10=>?_⟩
 ·go_wp2;exact RG
 refine ⟨fun w1 hG hd=>?_,fun v11=>?_⟩
 ·obtain ⟨_,hsz,cs⟩:=HC.out w1 hG;have c:=cs 2 _ rfl;simp [dK,Region.binds] at hd;subst hd;go_wp2;exact RG
 refine ⟨fun w1 hG hd=>?_,fun v12=>?_⟩
 ·go_wp2;exact RG
 refine ⟨fun w1 hG hd=>?_,fun v13=>?_⟩
 ·obtain ⟨_,hsz,cs⟩:=HC.out w1 hG;have c:=cs 3 _ rfl;simp [dK,Region.binds] at hd;subst hd;go_wp2;exact RG
 refine ⟨fun w1 hG hd=>?_,fun v14=>?_⟩
 ·simp [dK,Region.binds] at hd;obtain ⟨rfl,rfl,rfl,rfl⟩:=hd;go_wp2;exact ⟨ma _ _ _ _ _,aN _ _⟩
 refine ⟨fun w1 hG hd=>?_,fun v15=>?_⟩
 ·obtain ⟨hGw,_⟩:=HC.out w1 hG;simp [dK,Region.binds] at hd;have HX:=ai (H2.out _ _ hGw hd.1);go_wp2_with fail
  refine HX.out.mono ?_;rintro e w2 ⟨rfl,hB2⟩;go_wp2;exact ⟨rfl,hB2⟩
 refine ⟨fun w1 hG hd=>?_,fun v16=>?_⟩
 ·simp [dK,Region.binds] at hd;obtain ⟨rfl,rfl⟩:=hd;go_wp2;exact ⟨aT (by simp),af.refl _⟩
 refine ⟨fun w1 hG hd=>?_,fun v17=>?_⟩
 ·simp [dK,Region.binds] at hd;subst hd;go_wp2;exact ⟨aT (by rw [<-hsx.out];simp),af.refl _⟩
 refine ⟨fun w1 hG hd=>?_,fun v18=>?_⟩
 ·simp [dK,Region.binds] at hd;subst hd;go_wp2;exact RG
 refine ⟨fun w1 hG hd=>?_,fun v19=>?_⟩
 ·simp [dK,Region.binds] at hd;subst hd;go_wp2;exact ⟨True.intro,af.refl _⟩
 refine ⟨fun w1 hG hd=>?_,fun v20=>?_⟩
 ·simp [dK,Region.binds] at hd;obtain ⟨rfl,_⟩:=hd;go_wp2;exact RG
 intro w1 hG hd;have da:=hd 17 (by omega);have db:=hd 20 (by omega);simp [dK] at da db;subst da db;obtain ⟨hGw,_⟩:=HC.out w1 hG;have HX:=ai (HW.out _ hGw);clear hd HC HW hG hGw;go_wp2_with fail
 refine HX.out.mono ?_;rintro e w2 ⟨v,rfl,hZ⟩;go_wp2;exact hZ
theorem nG (w:World) (X Y W H C R:Int) (T:Nat) (q q':Value) (f:Nat) (hn:∀ wx,(nilAhead 465 T q "Write").run prog wx=.ok (some false) wx) (hm:∀ wx,(method 465 T q "Write").run prog wx=.ok (f,q') wx) (s1 s2 i1 i2 si sx:List UInt8) (hsi:Hid ([47,87,32]++i1++[32,47,72,32]++i2=si)) (hsx:Hid ([113,32]++s1++[48,32,48,32]++s2++[99,109,32,66,73,32]++si++[32,47,67,83,32,47,71,32,47,66,80,67,32,56,32,73,68,32]=sx))
  (l1:s1.length<=100) (l2:s2.length<=200) (l3:i1.length<=30) (l4:i2.length<=30) (l5:si.length<=80) (Z:Ending->World->Prop) (he:∀ args wx,(callFunc f args).run prog wx=.ok (.enter f args) wx)
  (HW:Hid (∀ wx,af w wx->CP f #[q',.string ⟨sx.toArray⟩] wx fun e w'=>∃ v,e=.returned v/\Z (.returned v) w'))
  (H1:Hid (∀ v wx,af w wx->ci [W] v wx->QB 170 #[v] wx (.string ⟨s1.toArray⟩)))
  (H2:Hid (∀ v wx,af w wx->ci [H,X,Y] v wx->QB 170 #[v] wx (.string ⟨s2.toArray⟩)))
  (I1:Hid (∀ wx,af w wx->QB 120 #[C] wx (.string ⟨i1.toArray⟩)))
  (I2:Hid (∀ wx,af w wx->QB 120 #[R] wx (.string ⟨i2.toArray⟩))):
  CP 132 #[.agg #[X,Y,W,H,C,R],.iface T q] w Z:=by
 have z0:=ae (s1);have z1:=ae (s2);have z2:=ae (i1);have z3:=ae (i2);have z4:=ae (si);have z5:=ae ([47,87,32]++i1);have z6:=ae ([47,87,32]++i1++[32,47,72,32]);have z7:=ae ([113,32]++s1);have z8:=ae ([113,32]++s1++[48,32,48,32]);have z9:=ae ([113,32]++s1++[48,32,48,32]++s2);have z10:=ae ([113,32]++s1++[48,32,48,32]++s2++[99,109,32,66,73,32]);have z11:=ae ([113,32]++s1++[48,32,48,32]++s2++[99,109,32,66,73,32]++si);simp only [ZY,ZX,ZR] at z0 z1 z2 z3 z4 z5 z6 z7 z8 z9 z10 z11;have HC:=ai (fun (w1:World) (hG:af (w.alloc (Obj.cells #[X,Y,W,H,C,R] 130)) w1)=>fD (vs:=[.int .i64 X,.int .i64 Y,.int .i64 W,.int .i64 H,.int .i64 C,.int .i64 R]) hG);go_enter func132,ntmps132
 go_wp2;refine ap 9 39 (fY w.heap.size C R i1 i2 si) (by kernel_rfl) rfl (by kernel_rfl) x_ ?_;simp only [TD];refine ⟨fun w1 hG hd=>?_,fun v0=>?_⟩
 ·go_wp2;exact RG
 refine ⟨fun w1 hG hd=>?_,fun v1=>?_⟩
 ·obtain ⟨_,hsz,cs⟩:=HC.out w1 hG;have c:=cs 4 _ rfl;simp [fY,Region.binds] at hd;subst hd;go_wp2;exact RG
 refine ⟨fun w1 hG hd=>?_,fun v2=>?_⟩
 ·obtain ⟨hGw,_⟩:=HC.out w1 hG;simp [fY,Region.binds] at hd;subst hd;have HX:=ai (I1.out _ hGw);go_wp2_with fail
  refine HX.out.mono ?_;rintro e w2 ⟨rfl,hB2⟩;go_wp2;exact ⟨rfl,hB2⟩
 refine ⟨fun w1 hG hd=>?_,fun v3=>?_⟩
 ·simp [fY,Region.binds] at hd;subst hd;go_wp2;exact ⟨aT (by simp),af.refl _⟩
 refine ⟨fun w1 hG hd=>?_,fun v4=>?_⟩
 ·simp [fY,Region.binds] at hd;subst hd;go_wp2;exact ⟨aT (by simp),af.refl _⟩
 refine ⟨fun w1 hG hd=>?_,fun v5=>?_⟩
 ·go_wp2;exact RG
 refine ⟨fun w1 hG hd=>?_,fun v6=>?_⟩
 ·obtain ⟨_,hsz,cs⟩:=HC.out w1 hG;have c:=cs 5 _ rfl;simp [fY,Region.binds] at hd;subst hd;go_wp2;exact RG
 refine ⟨fun w1 hG hd=>?_,fun v7=>?_⟩
 ·obtain ⟨hGw,_⟩:=HC.out w1 hG;simp [fY,Region.binds] at hd;obtain ⟨rfl,_⟩:=hd;have HX:=ai (I2.out _ hGw);go_wp2_with fail
  refine HX.out.mono ?_;rintro e w2 ⟨rfl,hB2⟩;go_wp2;exact ⟨rfl,hB2⟩
 refine ⟨fun w1 hG hd=>?_,fun v8=>?_⟩
 ·simp [fY,Region.binds] at hd;obtain ⟨rfl,rfl⟩:=hd;go_wp2;exact ⟨aT (by rw [<-hsi.out];simp),af.refl _⟩
 intro w1 hG hd;have da:=hd 8 (by omega);simp [fY] at da;subst da;have HC2:=ai (fun (w2:World) (hG2:af w1 w2)=>HC.out w2 (af.trans hG hG2));clear hd HC;have HC:=HC2;clear HC2;go_wp2;refine ap 23 39 (fe (.iface T q) w.heap.size X Y W H s1 s2 si sx) (by kernel_rfl) rfl (by kernel_rfl) zR ?_;simp only [TD];refine ⟨fun w3 hG hd=>?_,fun v0=>?_⟩
 ·go_wp2;exact RG
 refine ⟨fun w3 hG hd=>?_,fun v1=>?_⟩
 ·go_wp2;exact RG
 refine ⟨fun w3 hG hd=>?_,fun v2=>?_⟩
 ·obtain ⟨_,hsz,cs⟩:=HC.out w3 hG;have c:=cs 2 _ rfl;simp [fe,Region.binds] at hd;subst hd;go_wp2;exact RG
 refine ⟨fun w3 hG hd=>?_,fun v3=>?_⟩
 ·simp [fe,Region.binds] at hd;subst hd;go_wp2;exact ⟨e6 _ _,aN _ _⟩
 refine ⟨fun w3 hG hd=>?_,fun v4=>?_⟩
 ·obtain ⟨hGw,_⟩:=HC.out w3 hG;simp [fe,Region.binds] at hd;have HX:=ai (H1.out _ _ hGw hd);go_wp2_with fail
  refine HX.out.mono ?_;rintro e w2 ⟨rfl,hB2⟩;go_wp2;exact ⟨rfl,hB2⟩
 refine ⟨fun w3 hG hd=>?_,fun v5=>?_⟩
 ·simp [fe,Region.binds] at hd;subst hd;go_wp2;exact ⟨aT (by simp),af.refl _⟩
 refine ⟨fun w3 hG hd=>?_,fun v6=>?_⟩
 ·simp [fe,Region.binds] at hd;subst hd;go_wp2;exact ⟨aT (by simp),af.refl _⟩
 refine ⟨fun w3 hG hd=>?_,fun v7=>?_⟩
 ·go_wp2;exact RG
 refine ⟨fun w3 hG hd=>?_,fun v8=>?_⟩
 ·obtain ⟨_,hsz,cs⟩:=HC.out w3 hG;have c:=cs 3 _ rfl;simp [fe,Region.binds] at hd;subst hd;go_wp2;exact RG
 refine ⟨fun w3 hG hd=>?_,fun v9=>?_⟩
 ·go_wp2;exact RG
 refine ⟨fun w3 hG hd=>?_,fun v10=>?_⟩
 ·obtain ⟨_,hsz,cs⟩:=HC.out w3 hG;have c:=cs 0 _ rfl;simp [fe,Region.binds] at hd;subst hd;go_wp2;exact RG
 refine ⟨fun w3 hG hd=>?_,fun v11=>?_⟩
 ·go_wp2;exact RG
 refine ⟨fun w3 hG hd=>?_,fun v12=>?_⟩
 ·obtain ⟨_,hsz,cs⟩:=HC.out w3 hG;have c:=cs 1 _ rfl;simp [fe,Region.binds] at hd;subst hd;go_wp2;exact RG
 refine ⟨fun w3 hG hd=>?_,fun v13=>?_⟩
 ·simp [fe,Region.binds] at hd;obtain ⟨rfl,rfl,rfl⟩:=hd;go_wp2;exact ⟨lE _ _ _ _,aN _ _⟩
 refine ⟨fun w3 hG hd=>?_,fun v14=>?_⟩
 ·obtain ⟨hGw,_⟩:=HC.out w3 hG;simp [fe,Region.binds] at hd;have HX:=ai (H2.out _ _ hGw hd.1);go_wp2_with fail
  refine HX.out.mono ?_;rintro e w2 ⟨rfl,hB2⟩;go_wp2;exact ⟨rfl,hB2⟩
 refine ⟨fun w3 hG hd=>?_,fun v15=>?_⟩
 ·simp [fe,Region.binds] at hd;obtain ⟨rfl,rfl⟩:=hd;go_wp2;exact ⟨aT (by simp),af.refl _⟩
 refine ⟨fun w3 hG hd=>?_,fun v16=>?_⟩
 ·simp [fe,Region.binds] at hd;subst hd;go_wp2;exact ⟨aT (by simp),af.refl _⟩
 refine ⟨fun w3 hG hd=>?_,fun v17=>?_⟩
 ·go_wp2;exact RG
 refine ⟨fun w3 hG hd=>?_,fun v18=>?_⟩
 ·simp [fe,Region.binds] at hd;obtain ⟨rfl,rfl⟩:=hd;go_wp2;exact ⟨aT (by simp),af.refl _⟩
 refine ⟨fun w3 hG hd=>?_,fun v19=>?_⟩
 ·simp [fe,Region.binds] at hd;subst hd;go_wp2;exact ⟨aT (by rw [<-hsx.out];simp),af.refl _⟩
 refine ⟨fun w3 hG hd=>?_,fun v20=>?_⟩
 ·simp [fe,Region.binds] at hd;subst hd;go_wp2;exact RG
 refine ⟨fun w3 hG hd=>?_,fun v21=>?_⟩
 ·simp [fe,Region.binds] at hd;subst hd;go_wp2;exact ⟨True.intro,af.refl _⟩
 refine ⟨fun w3 hG hd=>?_,fun v22=>?_⟩
 ·simp [fe,Region.binds] at hd;obtain ⟨rfl,_⟩:=hd;go_wp2;exact RG
 intro w3 hG hd;have da:=hd 19 (by omega);have db:=hd 22 (by omega);simp [fe] at da db;subst da db;obtain ⟨hGw,_⟩:=HC.out w3 hG;have HX:=ai (HW.out _ hGw);clear hd HC HW hG hGw;go_wp2_with fail
 refine HX.out.mono ?_;rintro e w2 ⟨v,rfl,hZ⟩;go_wp2;exact hZ
end Go.Proofs.YtbklfkpjoinofaaGreatDoor
