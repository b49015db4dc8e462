import Derived.RangeFuncNested
import Derived.RangeFuncBound
import Derived.Test.YtbklfkpjoinofaaGreatDoorA30
import Derived.Shelf.RegionOpen
import Derived.OwnWalkIn
import Derived.LoopNIn
import Derived.LoopIn
set_option linter.all false
set_option maxRecDepth 100000
set_option maxHeartbeats 8000000
namespace Go.Proofs.YtbklfkpjoinofaaGreatDoor
open Go.RowKit Go.Proofs.Tryz
def Ob (B l:Nat) (o:Obj):As:=fun w S=>S=cC l/\B<=l/\w.heap[l]? =some o
theorem Ob.thing (B l:Nat) (o:Obj):aJ B (Ob B l o) where
 keep:=by
  rintro w w' S ⟨rfl,hB,h⟩ hk _;exact ⟨rfl,hB,(hk l rfl).trans h⟩
 lt:=by
  rintro w S k ⟨rfl,hB,h⟩ hk;obtain rfl:k=l:=hk;exact (ZF.1 h).1
 ge:=by
  rintro w S k ⟨rfl,hB,h⟩ hk;obtain rfl:k=l:=hk;exact hB
theorem Mv.putObj (w:World) (l:Nat) (o:Obj):Mv (cC l) w (cC l) (w.putObj l o):=
 ⟨⟨rfl,rfl,rfl,by simp,fun k _ hk=>World.putObj_heap_other (fun e=>hk e)⟩,fun _ h=>.inl h⟩
theorem Ob.put {B l:Nat} {o:Obj} {w:World} {S:Bl} (h:Ob B l o w S) (o':Obj):Ob B l o' (w.putObj l o') S/\Mv S w S (w.putObj l o'):=by
 obtain ⟨rfl,hB,h⟩:=h;exact ⟨⟨rfl,hB,World.putObj_heap_same (ZF.1 h).1⟩,Mv.putObj w l o'⟩
def rs (F:Fence) (P:Program) (gf:Nat) (lb:Array Value) (B:Nat) (C:As) (xi:World->Prop) {ι:Type} (i0:ι) (V:ι->Prop) (Step:ι->Array Value->ι->Prop) (End:ι->Prop):Prop:=
 ∀ (l:Nat) (K:ι->As) (Kx:As),(∀ i,aJ B (K i))->aJ B Kx->(∀ i W S,K i W S->V i)->
  ∀ W,xi W->B<=W.heap.size->
  (∀ i args i' W1 S,Step i args i'->K i W1 S->Below B W W1->YieldAt F 0 P l args W1 fun e W'=>
   (e=.returned true/\∃ S',K i' W' S'/\Mv S W1 S' W')\/(e=.returned false/\∃ S',Kx W' S'/\Mv S W1 S' W'))->
  ∀ S,ah C (K i0) W S->CallsIn F 0 P gf (#[.func (.yield l) #[] #[]]++lb) W fun e W'=>
   (∃ v,e=.returned v)/\((∃ i S',End i/\ah C (K i) W' S'/\Mv S W S' W')\/∃ S',ah C Kx W' S'/\Mv S W S' W')
def zE {ι:Type} (I:ι->As) (Ix:Code->As) (i':ι) (W:World) (S:Bl):Exit->Act->World->Prop
 | .normal,_,W'=>∃ S',I i' W' S'/\Mv S W S' W'
 | .ret,_,W'=>∃ S',Ix .ret W' S'/\Mv S W S' W'
 | .exit id,_,W'=>∃ S',Ix (.exit id) W' S'/\Mv S W S' W'
 | .goto t,_,W'=>∃ S',Ix (.goto t) W' S'/\Mv S W S' W'
 | .panic _,_,_=>False
 | .outgrown,_,_=>False
variable {F:Fence} {P:Program}
theorem Dl {ι:Type} {B l:Nat} {fn:FuncId} {tmps0:Array Value} {ps:Array Tmp} {assign body:Code} {d:Nat} {args:Array Value} (hfn:F.fn fn) (hps:args.size=ps.size)
  {I:ι->As} {Ix:Code->As} (hI:∀ i,aJ B (I i)) (hIx:∀ c,aJ B (Ix c)) (i i':ι) (Qw:World->Prop)
  (hround:∀ W,assign.wpIn (F.inRound l) 0 P (Exit.then (fun a₁ W₁=>W₁=W/\∀ W' S,I i W' S->Qw W'->body.wpIn (F.inRound l) 0 P (zE I Ix i' W' S) a₁ W') (fun _ _ _=>False)) {tmps:=(ps.zip args).foldl (fun t (p,v)=>t.setIfInBounds p v) tmps0,defers:=[]} W)
  (W:World) (hQ:∀ o,Qw (W.putObj l o)) (S:Bl) (h:ah (I i) (Ob B l (.loop {state:=.ready,pending:=none,fn,tmps:=tmps0,params:=ps,assign,body,defers:=d})) W S):
  YieldAt F 0 P l args W fun e W'=>
   (e=.returned true/\∃ S',ah (I i') (Ob B l (.loop {state:=.ready,pending:=none,fn,tmps:=tmps0,params:=ps,assign,body,defers:=d})) W' S'/\Mv S W S' W')\/
   (e=.returned false/\∃ S' c,ah (Ix c) (Ob B l (.loop {state:=.done,pending:=some c,fn,tmps:=tmps0,params:=ps,assign,body,defers:=d})) W' S'/\Mv S W S' W'):=by
 obtain ⟨S2,h2,_,back2⟩:=ah.snd (hI i) h;have hl:=h2.2.2;have hy:=run_yield (P:=P) (args:=args) hl hps;refine ⟨fn,_,assign,body,hy,roundIn_of_wpIn hfn (wpIn_mono (hround W) ?_)⟩;rintro e a₁ W₁ he
 cases e <;> first | exact he.elim | skip
 obtain ⟨e1,hbody⟩:=he;rw [e1];refine ⟨_,run_beginRound hl rfl,?_⟩;obtain ⟨p1,m1⟩:=h2.put (.loop {state:=.busy,pending:=none,fn,tmps:=tmps0,params:=ps,assign,body,defers:=d});obtain ⟨S3,h3,m3⟩:=back2 _ _ _ p1 m1;obtain ⟨S4,h4,_,back4⟩:=ah.fst (Ob.thing B l _) h3;refine wpIn_mono (hbody _ _ h4 (hQ _)) ?_;have fin:∀ (jump:Option Code) (X:As) (hX:aJ B X) (W3:World) (S5:Bl),X W3 S5->Mv S4 (W.putObj l (.loop {state:=.busy,pending:=none,fn,tmps:=tmps0,params:=ps,assign,body,defers:=d})) S5 W3->
   (Instr.endRound l jump).run P W3=.ok jump.isNone (W3.putObj l (.loop {state:=if jump.isNone then .ready else .done,pending:=jump,fn,tmps:=tmps0,params:=ps,assign,body,defers:=d}))/\
   ∃ S',ah X (Ob B l (.loop {state:=if jump.isNone then .ready else .done,pending:=jump,fn,tmps:=tmps0,params:=ps,assign,body,defers:=d})) (W3.putObj l (.loop {state:=if jump.isNone then .ready else .done,pending:=jump,fn,tmps:=tmps0,params:=ps,assign,body,defers:=d})) S'/\
    Mv S W S' (W3.putObj l (.loop {state:=if jump.isNone then .ready else .done,pending:=jump,fn,tmps:=tmps0,params:=ps,assign,body,defers:=d})):=by
  intro jump X hX W3 S5 h5 m5;obtain ⟨S6,h6,m6⟩:=back4 _ _ _ h5 m5;obtain ⟨S7,h7,_,back7⟩:=ah.snd hX h6;have hl3:=h7.2.2;refine ⟨run_endRound (P:=P) jump hl3,?_⟩;obtain ⟨p8,m8⟩:=h7.put (.loop {state:=if jump.isNone then .ready else .done,pending:=jump,fn,tmps:=tmps0,params:=ps,assign,body,defers:=d});obtain ⟨S9,h9,m9⟩:=back7 _ _ _ p8 m8;exact ⟨S9,h9,(m3.trans m6).trans m9⟩
 rintro e a3 W3 hp
 cases e with
 | normal=>
  obtain ⟨S5,h5,m5⟩:=hp;obtain ⟨hr,S',hs,hm⟩:=fin none _ (hI i') W3 S5 h5 m5;exact ⟨_,_,hr,.inl ⟨rfl,S',hs,hm⟩⟩
 | ret=>
  obtain ⟨S5,h5,m5⟩:=hp;obtain ⟨hr,S',hs,hm⟩:=fin (some .ret) _ (hIx .ret) W3 S5 h5 m5;exact ⟨_,_,hr,.inr ⟨rfl,S',.ret,hs,hm⟩⟩
 | exit id=>
  obtain ⟨S5,h5,m5⟩:=hp;obtain ⟨hr,S',hs,hm⟩:=fin (some (.exit id)) _ (hIx (.exit id)) W3 S5 h5 m5;exact ⟨_,_,hr,.inr ⟨rfl,S',.exit id,hs,hm⟩⟩
 | goto t=>
  obtain ⟨S5,h5,m5⟩:=hp;obtain ⟨hr,S',hs,hm⟩:=fin (some (.goto t)) _ (hIx (.goto t)) W3 S5 h5 m5;exact ⟨_,_,hr,.inr ⟨rfl,S',.goto t,hs,hm⟩⟩
 | panic ch=>exact hp.elim
 | outgrown=>exact hp.elim
variable {F:Fence} {P:Program}
theorem ah.mapR {X Y Y':As} {w:World} {S:Bl} (h:ah X Y w S) (f:∀ w S,Y w S->Y' w S):ah X Y' w S:=by
 obtain ⟨S1,S2,a,b,c,d⟩:=h;exact ⟨S1,S2,a,f _ _ b,c,d⟩
theorem ah.mapL {X X' Y:As} {w:World} {S:Bl} (h:ah X Y w S) (f:∀ w S,X w S->X' w S):ah X' Y w S:=by
 obtain ⟨S1,S2,a,b,c,d⟩:=h;exact ⟨S1,S2,f _ _ a,b,c,d⟩
theorem aJ.any {B:Nat} {α:Type} {K:α->As} (h:∀ c,aJ B (K c)):aJ B (fun w S=>∃ c,K c w S) where
 keep:=by
  rintro w w' S ⟨c,hc⟩ hk hs;exact ⟨c,(h c).keep hc hk hs⟩
 lt:=by
  rintro w S k ⟨c,hc⟩ hk;exact (h c).lt hc hk
 ge:=by
  rintro w S k ⟨c,hc⟩ hk;exact (h c).ge hc hk
theorem Ob.new {B:Nat} {X:As} (hX:aJ B X) {w:World} {S:Bl} (h:X w S) (o:Obj) (hB:B<=w.heap.size):∃ S',ah X (Ob B w.heap.size o) (w.alloc o) S'/\Mv S w S' (w.alloc o):=by
 have hb:Below w w (w.alloc o):=(ZQ _ w).alloc (ZV _) o;refine ⟨cT S (cC w.heap.size),⟨S,cC w.heap.size,hX.grow h hb,⟨rfl,hB,World.alloc_heap_new w o⟩,?_,rfl⟩,⟨⟨hb.os,hb.tape,hb.output,hb.size,fun k hk _=>hb.block k hk⟩,?_⟩⟩
 ·intro k hk e;have:=hX.lt h hk;have e':k=w.heap.size:=e;omega
 ·rintro k (hk | hk)
  ·exact .inl hk
  ·exact .inr (Nat.le_of_eq (Eq.symm hk))
theorem mc {ι:Type} (hro:F.round=none) (hfn:∀ f,F.fn f) (hd:F.depth=none) {g:Operand} {ps:Array Tmp} {assign body:Code} {Q:Exit->Act->World->Prop} {a:Act} {w:World}
  {gf:Nat} {lb:Array Value} (hg:a.eval g=.func (.func gf) #[] lb) (eg:∀ args w,(callFunc gf args).run P w=.ok (.enter gf args) w)
  {B:Nat} {C:As} {xi:World->Prop} {i0:ι} {V:ι->Prop} {Step:ι->Array Value->ι->Prop} {End:ι->Prop} (hseq:rs F P gf lb B C xi i0 V Step End) (hPre:∀ W1,Below B w W1->xi W1) (hC:aJ B C) (hps:∀ i args i',Step i args i'->args.size=ps.size)
  (I:ι->As) (Ix:Code->As) (hI:∀ i,aJ B (I i)) (hIx:∀ c,aJ B (Ix c)) (hIV:∀ i W S,I i W S->V i) (hB:B<=w.heap.size) {S:Bl} (h0:ah C (I i0) w S)
  (hround:∀ l i args i' W,Step i args i'->assign.wpIn (F.inRound l) 0 P (Exit.then (fun a₁ W₁=>W₁=W/\∀ W' S,I i W' S->Below B w W'->body.wpIn (F.inRound l) 0 P (zE I Ix i' W' S) a₁ W') (fun _ _ _=>False)) {tmps:=(ps.zip args).foldl (fun t (p,v)=>t.setIfInBounds p v) a.tmps,defers:=[]} W)
  (hdone:∀ D i W S',End i->ah (ah C (I i)) (Ob B D (.deferred (some []))) W S'->Mv S w S' W->Q .normal {a with defers:={target:=.collected D,args:=#[]}::a.defers} W)
  (hstop:∀ D c W S',ah (ah C (Ix c)) (Ob B D (.deferred (some []))) W S'->Mv S w S' W->c.wpIn F 0 P Q {a with defers:={target:=.collected D,args:=#[]}::a.defers} W):
  (Code.rangeFunc g ps assign body).wpIn F 0 P Q a w:=by
 refine wpIn_rangeFunc ?_;intro fn hf;rw [hro];obtain ⟨l,hl⟩:∃ l,w.heap.size+1=l:=⟨_,rfl⟩;obtain ⟨S1,h1,m1⟩:=Ob.new (ah.thing hC (hI i0)) h0 (.deferred (some [])) hB;obtain ⟨S2,h2,m2⟩:=Ob.new (ah.thing (ah.thing hC (hI i0)) (Ob.thing B _ _)) h1 (.loop {state:=.ready,pending:=none,fn,tmps:=a.tmps,params:=ps,assign,body,defers:=w.heap.size}) (by simp;omega);rw [World.size_alloc,hl] at h2;have m12:=m1.trans m2;obtain ⟨W1,hW1⟩:∃ W1,(w.alloc (.deferred (some []))).alloc (.loop {state:=.ready,pending:=none,fn,tmps:=a.tmps,params:=ps,assign,body,defers:=w.heap.size})=W1:=⟨_,rfl⟩;have hb1:Below B w W1:=by rw [<-hW1];exact ((ZQ _ w).alloc hB _).alloc (by simp;omega) _
 have hBW:B<=W1.heap.size:=ZU hB hb1.size;rw [hW1] at h2 m12;refine ⟨l,[{target:=.collected w.heap.size,args:=#[]}],W1,{target:=.fn (.func gf) lb,args:=#[.func (.yield l) #[] #[]]},W1,gf,#[.func (.yield l) #[] #[]]++lb,W1,?_,?_,?_,?_,fun e=>(by rw [hd] at e;cases e),?_⟩
 ·rw [<-hW1, <-hl];exact run_enterLoop_outer _ _ _ _ _
 ·simp only [resolve,hg];simp [go_sem]
 ·intro f' _;exact hfn f'
 ·simp [invoke,go_sem,eg]
 ·have hD:∀ i,aJ B (ah (I i) (Ob B w.heap.size (.deferred (some [])))):=fun i=>ah.thing (hI i) (Ob.thing B _ _)
  have hDx:∀ c,aJ B (ah (Ix c) (Ob B w.heap.size (.deferred (some [])))):=fun c=>ah.thing (hIx c) (Ob.thing B _ _)
  refine (hseq l (fun i=>ah (ah (I i) (Ob B w.heap.size (.deferred (some [])))) (Ob B l (.loop {state:=.ready,pending:=none,fn,tmps:=a.tmps,params:=ps,assign,body,defers:=w.heap.size})))
   (fun W S=>∃ c,ah (ah (Ix c) (Ob B w.heap.size (.deferred (some [])))) (Ob B l (.loop {state:=.done,pending:=some c,fn,tmps:=a.tmps,params:=ps,assign,body,defers:=w.heap.size})) W S)
   (fun i=>ah.thing (hD i) (Ob.thing B _ _)) (aJ.any fun c=>ah.thing (hDx c) (Ob.thing B _ _))
   (fun i W S hk=>by
    obtain ⟨T1,k1,_,_⟩:=ah.fst (Ob.thing B _ _) hk;obtain ⟨T2,k2,_,_⟩:=ah.fst (Ob.thing B _ _) k1;exact hIV i _ _ k2) W1 (hPre W1 hb1) hBW ?_ S2 ?_).mono ?_
  ·intro i args i' W T hst hK hbl;have hbw:Below B w W:=hb1.trans hbl;have hlB:B<=l:=by omega
   obtain ⟨f1,t1,as1,b1,hy,hR⟩:=Dl (I:=fun i=>ah (I i) (Ob B w.heap.size (.deferred (some [])))) (Ix:=fun c=>ah (Ix c) (Ob B w.heap.size (.deferred (some [])))) hf (hps _ _ _ hst) hD hDx i i' (fun W'=>Below B w W')
    (fun W0=>by
     refine wpIn_mono (hround l i args i' W0 hst) ?_;rintro e a₁ W₁ he
     cases e <;> first | exact he.elim | skip
     obtain ⟨rfl,hbo⟩:=he;refine ⟨rfl,fun W S hs hq=>?_⟩;obtain ⟨T1,k1,_,back⟩:=ah.fst (Ob.thing B _ _) hs;refine wpIn_mono (hbo W T1 k1 hq) ?_;rintro e a3 W3 hp
     cases e with
     | normal=>obtain ⟨T2,k2,n2⟩:=hp;exact back _ _ _ k2 n2
     | ret=>obtain ⟨T2,k2,n2⟩:=hp;exact back _ _ _ k2 n2
     | exit id=>obtain ⟨T2,k2,n2⟩:=hp;exact back _ _ _ k2 n2
     | goto t=>obtain ⟨T2,k2,n2⟩:=hp;exact back _ _ _ k2 n2
     | panic ch=>exact hp.elim
     | outgrown=>exact hp.elim) W (fun o=>hbw.trans ((Mv.putObj W l o).below (fun k e=>by have e':k=l:=e;omega) (ZU hB hbw.size))) T hK
   refine ⟨f1,t1,as1,b1,hy,hR.mono ?_⟩;rintro e W' (⟨he,S',k,n⟩ | ⟨he,S',c,k,n⟩)
   ·exact .inl ⟨he,S',k,n⟩
   ·exact .inr ⟨he,S',⟨c,k⟩,n⟩
  ·exact (ah.assoc (ah.mapL h2 fun w S hs=>ah.assoc hs))
  ·rintro e W2 ⟨⟨v,rfl⟩,(⟨i,S',hE,hs,hm⟩ | ⟨S',hs,hm⟩)⟩
   ·obtain ⟨T1,k1,_,back⟩:=ah.snd (ah.thing hC (hD i)) (ah.assocR hs);have hl2:=k1.2.2;obtain ⟨p1,n1⟩:=k1.put (.loop {state:=.exhausted,pending:=none,fn,tmps:=a.tmps,params:=ps,assign,body,defers:=w.heap.size});obtain ⟨T2,k2,n2⟩:=back _ _ _ p1 n1;obtain ⟨T3,k3,n3⟩:=ah.drop k2;exact ⟨none,_,run_endLoop (P:=P) hl2 (by simp),hdone _ i _ T3 hE (ah.assocR k3) (((m12.trans hm).trans n2).trans n3)⟩
   ·obtain ⟨Sc,Sk,hc,⟨c,hk⟩,ho,rfl⟩:=hs;have hs:ah C (ah (ah (Ix c) (Ob B w.heap.size (.deferred (some [])))) (Ob B l (.loop {state:=.done,pending:=some c,fn,tmps:=a.tmps,params:=ps,assign,body,defers:=w.heap.size}))) W2 (cT Sc Sk):=⟨Sc,Sk,hc,hk,ho,rfl⟩;obtain ⟨T1,k1,_,back⟩:=ah.snd (ah.thing hC (hDx c)) (ah.assocR hs);have hl2:=k1.2.2;obtain ⟨p1,n1⟩:=k1.put (.loop {state:=.exhausted,pending:=some c,fn,tmps:=a.tmps,params:=ps,assign,body,defers:=w.heap.size});obtain ⟨T2,k2,n2⟩:=back _ _ _ p1 n1;obtain ⟨T3,k3,n3⟩:=ah.drop k2;exact ⟨some c,_,run_endLoop (P:=P) hl2 (by simp),hstop _ c _ T3 (ah.assocR k3) (((m12.trans hm).trans n2).trans n3)⟩
section
open Go.RowKit Go.Shelf
attribute [local go_sem] Oper.semAt_some
theorem C7 (F:Fence) (hd:F.depth=none) (hfn:∀ f,F.fn f) (hro:F.round=none) (l b:Nat) (s:ByteArray) (hs:s.size<=2000000000) (gp tk:Nat->Nat) (Pl:Nat->Prop)
  (hgp:Hid (∀ a,a<=s.size->a+gp a<=s.size)) (htk:Hid (∀ a,a<=s.size->a+tk a<=s.size))
  (HG:Hid (∀ a W,a<=s.size->CallsIn F 0 prog 257 #[.string (s.extract a s.size)] W fun e W'=>e=.returned (.int .i64 (gp a:Nat))/\Below W W W'))
  (HT:Hid (∀ a W,a<=s.size->Pl a->CallsIn F 0 prog 258 #[.string (s.extract a s.size)] W fun e W'=>e=.returned (.int .i64 (tk a:Nat))/\Below W W W'))
  (J:Nat->World->Prop) (Jx:World->Prop) (hJ:Hid (∀ a W W',J a W->Below W W W'->J a W')) (hJV:Hid (∀ a W,J a W->Pl (a+gp a))) (hJc:Hid (∀ a W,J a W->W.cell? ⟨b,0,none⟩=some (.string s)))
  (hY:Hid (∀ a W,J a W->a<=s.size->tk (a+gp a)≠0->YieldAt F 0 prog l #[.int .i64 ((a:Int)+(gp a:Int)+(tk (a+gp a):Int)),.string (s.extract (a+gp a) (a+gp a+tk (a+gp a)))] W fun e W'=>
   (e=.returned true/\J (a+gp a+tk (a+gp a)) W')\/(e=.returned false/\Jx W')))
  (W:World) (h0:J 0 W):
  CallsIn F 0 prog 256 #[.func (.yield l) #[] #[],zp b] W fun e W'=>(∃ v,e=.returned v)/\((∃ a,a<=s.size/\tk (a+gp a)=0/\J a W')\/Jx W'):=by
 refine callsIn_of_wp func256 rfl (hfn _) ?_ hro;simp only [ntmps256,List.size_toArray,ZX,ZS,Nat.reduceAdd,Nat.reduceSub,Array.replicate_succ,Array.replicate_zero,List.push_toArray,List.append_toArray,Zt,ZG]
 gi_wp2
 gi_loopw [3] (fun x wr=>∃ a:Nat,a<=s.size/\x=.int .i64 (a:Int)/\J a wr) (fun x _=>s.size - (match x with | .int _ z=>z.toNat | _=>0))
 case atStart=>exact ⟨0,by omega,rfl,h0⟩
 case round=>
  obtain ⟨a,ha,rfl,hj⟩:=hrel;have c0:=hJc.out a _ hj;have hga:=hgp.out a ha;have hta:=htk.out (a+gp a) hga;have CG:=HG.out a;have CT:=HT.out (a+gp a);have CY:=ai (hY.out a);obtain ⟨g,hg⟩:∃ g,gp a=g:=⟨_,rfl⟩;rw [hg] at hga hta CG CT CY;obtain ⟨n,hn⟩:∃ n,tk (a+g)=n:=⟨_,rfl⟩;rw [hn] at hta CT CY
  gi_wp2_with (gi_at_call 257;refine (CG _ ha).mono ?_;rintro e w1 ⟨rfl,hb1⟩;have hj1:=hJ.out _ _ _ hj hb1;have c1:=hJc.out a _ hj1)
  refine (CT _ hga (by have:=hJV.out a _ hj;rwa [hg] at this)).mono ?_;rintro e w2 ⟨rfl,hb2⟩;have hj2:=hJ.out _ _ _ hj1 hb2;have c2:=hJc.out a _ hj2;by_cases h0n:n=0
  ·subst h0n;clear CG CT CY
   gi_wp2
   refine YO (results_none rfl _ _ _) rfl ?_;exact ⟨⟨_,rfl⟩,.inl ⟨a,ha,by rw [hg,hn],hj2⟩⟩
  ·obtain ⟨fn,tmps,assign,body,hy,hR⟩:=CY.out _ hj2 ha h0n;have d0:((n:Int)==0)=false:=by simp;omega
   clear CG CT CY
   gi_wp2
   refine hR.mono ?_;rintro e w3 (⟨rfl,hj3⟩ | ⟨rfl,hjx⟩)
   ·gi_wp2
    go_roundw
    case rel=>exact ⟨a+g+n,by omega,by congr 1,hj3⟩
    case measure=>simp;omega
   ·gi_wp2
    refine YO (results_none rfl _ _ _) rfl ?_;exact ⟨⟨_,rfl⟩,.inr hjx⟩
def uj (s:ByteArray) (gp tk:Nat->Nat) (a:Nat) (args:Array Value) (a':Nat):Prop:=
 a<=s.size/\tk (a+gp a)≠0/\a+gp a+tk (a+gp a)<=s.size/\a'=a+gp a+tk (a+gp a)/\args=#[.int .i64 ((a:Int)+(gp a:Int)+(tk (a+gp a):Int)),.string (s.extract (a+gp a) (a+gp a+tk (a+gp a)))]
theorem D9 (F:Fence) (hd:F.depth=none) (hfn:∀ f,F.fn f) (hro:F.round=none) (B b:Nat) (s:ByteArray) (hs:s.size<=2000000000) (gp tk:Nat->Nat) (Pl:Nat->Prop)
  (hgp:Hid (∀ a,a<=s.size->a+gp a<=s.size)) (htk:Hid (∀ a,a<=s.size->a+tk a<=s.size))
  (HG:Hid (∀ a W,a<=s.size->CallsIn F 0 prog 257 #[.string (s.extract a s.size)] W fun e W'=>e=.returned (.int .i64 (gp a:Nat))/\Below W W W'))
  (HT:Hid (∀ a W,a<=s.size->Pl a->CallsIn F 0 prog 258 #[.string (s.extract a s.size)] W fun e W'=>e=.returned (.int .i64 (tk a:Nat))/\Below W W W')):
  rs F prog 256 #[zp b] B (aS B b [.string s]) (fun _=>True) 0 (fun a=>Pl (a+gp a)) (uj s gp tk) (fun a=>a<=s.size/\tk (a+gp a)=0):=by
 intro l K Kx hK hKx hV W _ hBW hY S h0;have hCt:=aS.thing B b [.string s];refine (C7 F hd hfn hro l b s hs gp tk Pl hgp htk HG HT (fun a W'=>∃ S',ah (aS B b [.string s]) (K a) W' S'/\Mv S W S' W') (fun W'=>∃ S',ah (aS B b [.string s]) Kx W' S'/\Mv S W S' W') ?_ ?_ ?_ ?_ W ⟨S,h0,Mv.refl _ _⟩).mono ?_
 ·rintro a W1 W2 ⟨S',h,m⟩ hb;exact ⟨S',(ah.thing hCt (hK a)).grow h hb,m.trans (Mv.grow hb _)⟩
 ·rintro a W1 ⟨S',h,m⟩;obtain ⟨T,hk,_,_⟩:=ah.snd hCt h;exact hV a _ _ hk
 ·rintro a W1 ⟨S',h,m⟩;obtain ⟨T,hc,_,_⟩:=ah.fst (hK a) h;exact hc.at 0 _ rfl
 ·rintro a W1 ⟨S',h,m⟩ ha hn;obtain ⟨T,hk,_,back⟩:=ah.snd hCt h;obtain ⟨fn,tmps,assign,body,hy,hR⟩:=hY a _ _ W1 T ⟨ha,hn,htk.out _ (hgp.out a ha),rfl,rfl⟩ hk (m.below (fun k e=>(ah.thing hCt (hK 0)).ge h0 e) hBW);refine ⟨fn,tmps,assign,body,hy,hR.mono ?_⟩;rintro e W' (⟨he,T',k,n⟩ | ⟨he,T',k,n⟩)
  ·obtain ⟨U,ku,nu⟩:=back _ _ _ k n;exact .inl ⟨he,U,ku,m.trans nu⟩
  ·obtain ⟨U,ku,nu⟩:=back _ _ _ k n;exact .inr ⟨he,U,ku,m.trans nu⟩
 ·rintro e W' ⟨hv,(⟨a,ha,hn,S',h,m⟩ | ⟨S',h,m⟩)⟩
  ·exact ⟨hv,.inl ⟨a,S',⟨ha,hn⟩,h,m⟩⟩
  ·exact ⟨hv,.inr ⟨S',h,m⟩⟩
theorem iA (s:ByteArray) (a:Nat):(s.extract a s.size).data.toList=s.data.toList.drop a:=by
 rw [Zd,YR];have e:s.data.toList.length=s.size:=aP s;simp only [List.extract, <-e];rw [ZA (by simp)]
theorem DV (l:List UInt8):va l<=l.length:=by
 have:=congrArg List.length (List.takeWhile_append_dropWhile (p:=bX) (l:=l));rw [ZY] at this;unfold va;omega
theorem ug:∀ (l:List UInt8) (n:Nat),dQ l=some n->n<=l.length
 | [],n,h=>by simp [dQ] at h
 | [c],n,h=>by
  simp only [dQ] at h;split at h
  ·cases h;simp
  ·cases h
 | c::d::r,n,h=>by
  simp only [dQ] at h;split at h
  ·cases h;simp
  ·split at h
   ·obtain ⟨m,hm,rfl⟩:=Option.map_eq_some_iff.1 h;have:=ug r m hm;simp;omega
   ·obtain ⟨m,hm,rfl⟩:=Option.map_eq_some_iff.1 h;have:=ug (d::r) m hm;simp at this ⊢;omega
theorem oQ (q:List UInt8):∀ l:List UInt8,Lib.indexAny l q<=l.length
 | []=>by simp [Lib.indexAny]
 | b::l=>by
  have:=oQ q l;unfold Lib.indexAny;split
  ·simp;omega
  ·split <;> simp <;> omega
theorem Ej (l:List UInt8):lu l<=l.length:=by
 cases l with
 | nil=>simp [lu]
 | cons c r=>
  show (if c.toNat=40 then wu (dQ r) else if c.toNat=91\/c.toNat=93 then 1 else if 0<=Lib.indexAny (c::r) jf then (Lib.indexAny (c::r) jf).toNat else r.length+1)<=r.length+1
  have h1:=oQ jf (c::r);have h2:wu (dQ r)<=r.length+1:=by
   unfold wu
   cases e:dQ r with
   | none=>simp
   | some n=>have:=ug r n e;simp;omega
  simp only [ZX] at h1;split
  ·exact h2
  ·split
   ·omega
   ·split <;> omega
def lK (s:ByteArray) (a:Nat):Nat:=va (s.data.toList.drop a)
def rd (s:ByteArray) (a:Nat):Nat:=lu (s.data.toList.drop a)
theorem C9 (B b:Nat) (s:ByteArray) (hs:s.size<=2000000000):
  rs Fence.wide prog 256 #[zp b] B (aS B b [.string s]) (fun _=>True) 0 (fun a=>ed (s.data.toList.drop (a+lK s a))) (uj s (lK s) (rd s)) (fun a=>a<=s.size/\rd s (a+lK s a)=0):=by
 have hsz:∀ a,(s.extract a s.size).size<=2000000000:=fun a=>by rw [<-aP,iA,Zc,aP];omega
 refine D9 Fence.wide rfl (fun _=>trivial) rfl B b s hs (lK s) (rd s) (fun a=>ed (s.data.toList.drop a)) ?_ ?_ ?_ ?_
 ·intro a ha;have:=DV (s.data.toList.drop a);rw [Zc,aP] at this;unfold lK;omega
 ·intro a ha;have:=Ej (s.data.toList.drop a);rw [Zc,aP] at this;unfold rd;omega
 ·intro a W ha;have:=callsIn_wide (n:=0) |>.2 (rU W (s.extract a s.size) (hsz a));rw [iA] at this;exact this
 ·intro a W ha hp;have:=callsIn_wide (n:=0) |>.2 (pE W (s.extract a s.size) (hsz a) (by rw [iA];exact hp));rw [iA] at this;exact this
end
theorem aJ.pure {B:Nat} {K:As} {p:Prop} (h:aJ B K):aJ B (fun w S=>p/\K w S) where
 keep:=by
  rintro w w' S ⟨c,hc⟩ hk hs;exact ⟨c,h.keep hc hk hs⟩
 lt:=by
  rintro w S k ⟨c,hc⟩ hk;exact h.lt hc hk
 ge:=by
  rintro w S k ⟨c,hc⟩ hk;exact h.ge hc hk
def Bx (B n:Nat) (vs:List (List Value)):As:=fun w S=>
 S=(fun k=>n<=k/\k < n+vs.length)/\B<=n/\n+vs.length<=w.heap.size/\∀ i us,vs[i]? =some us->(∀ j v,us[j]? =some v->w.cell? (zq (n+i) j)=some v)/\∀ o,w.frozen? (zq (n+i) o)=false
theorem Bx.thing (B n:Nat) (vs:List (List Value)):aJ B (Bx B n vs) where
 keep:=by
  rintro w w' S ⟨rfl,hB,hn,h⟩ hk hz;refine ⟨rfl,hB,ZU hn hz,fun i us hi=>?_⟩;have hl:i < vs.length:=(Zx.1 hi).1;have e:=hk (n+i) ⟨by omega,by omega⟩;exact ⟨fun j v hv=>(ZR (a:=zq (n+i) j) e).trans ((h i us hi).1 j v hv),fun o=>(ZH (a:=zq (n+i) o) e).trans ((h i us hi).2 o)⟩
 lt:=by
  rintro w S k ⟨rfl,hB,hn,h⟩ ⟨a,b⟩;omega
 ge:=by
  rintro w S k ⟨rfl,hB,hn,h⟩ ⟨a,b⟩;omega
theorem Bx.at {B n:Nat} {vs:List (List Value)} {w:World} {S:Bl} (h:Bx B n vs w S) (i j:Nat) (us:List Value) (v:Value) (hi:vs[i]? =some us) (hj:us[j]? =some v):w.cell? (zq (n+i) j)=some v:=(h.2.2.2 i us hi).1 j v hj
theorem Bx.fz {B n:Nat} {vs:List (List Value)} {w:World} {S:Bl} (h:Bx B n vs w S) (i o:Nat) (hi:i < vs.length):w.frozen? (zq (n+i) o)=false:=(h.2.2.2 i _ (ZN hi)).2 o
theorem Bx.set {B n:Nat} {vs:List (List Value)} {w:World} {S:Bl} (h:Bx B n vs w S) (i j:Nat) (us:List Value) (v:Value) (hi:vs[i]? =some us) (hj:j < us.length):
  Bx B n (vs.set i (us.set j v)) (w.setCell (zq (n+i) j) v) S/\Mv S w S (w.setCell (zq (n+i) j) v):=by
 obtain ⟨rfl,hB,hn,h⟩:=h;have hl:i < vs.length:=(Zx.1 hi).1;have hsz:(w.setCell (zq (n+i) j) v).heap.size=w.heap.size:=by show (w.heap.modify _ _).size=_;rw [Array.size_modify]
 refine ⟨⟨by rw [List.length_set],hB,by rw [List.length_set,hsz];exact hn,fun i' us' hi'=>⟨fun j' v' hv'=>?_,fun o=>?_⟩⟩,⟨⟨rfl,rfl,rfl,Nat.le_of_eq hsz.symm,fun k hk hb=>Za w ⟨n+i,j,none⟩ v k (fun e=>hb (by subst e;exact ⟨by show n<=n+i;omega,by show n+i < _;omega⟩))⟩,fun _ h=>.inl h⟩⟩
 ·by_cases ei:i'=i
  ·subst ei;rw [List.getElem?_set_self hl] at hi';obtain rfl:us.set j v=us':=YM hi';by_cases ej:j'=j
   ·subst ej;rw [List.getElem?_set_self hj] at hv';obtain rfl:v=v':=YM hv';exact World.cell?_setCell_same' _ _ _ (by rw [(h _ us hi).1 j' _ (ZN hj)];rfl)
   ·rw [List.getElem?_set_ne (Yi ej)] at hv';rw [ZW _ _ _ _ (by intro e;cases e;exact ej rfl)];exact (h _ us hi).1 j' v' hv'
  ·rw [List.getElem?_set_ne (Yi ei)] at hi';rw [ZW _ _ _ _ (by intro e;have:=congrArg Addr.block e;simp at this;exact ei this.symm)];exact (h i' us' hi').1 j' v' hv'
 ·rw [ZL];by_cases ei:i'=i
  ·subst ei;exact (h _ us hi).2 o
  ·rw [List.getElem?_set_ne (Yi ei)] at hi';exact (h i' us' hi').2 o
theorem Bx.nil (B:Nat) (w:World) (hB:B<=w.heap.size):Bx B w.heap.size [] w (fun k=>w.heap.size<=k/\k < w.heap.size+([]:List (List Value)).length):=⟨rfl,hB,by simp,fun i us hi=>by simp at hi⟩
theorem Bx.snoc {B n:Nat} {vs:List (List Value)} {w:World} {S:Bl} (h:Bx B n vs w S) (us:List Value) (t:TypeId) (hn:w.heap.size=n+vs.length):
  ∃ S',Bx B n (vs++[us]) (w.alloc (.cells us.toArray t)) S':=by
 have hb:Below w w (w.alloc (.cells us.toArray t)):=(ZQ _ w).alloc (ZV _) _;have h':=(Bx.thing B n vs).grow h hb;have c:=aS.alloc (B:=B) (vs:=us) (w:=w) (t:=t) (by have:=h.2.1;omega);refine ⟨_,rfl,h.2.1,by simp;omega,fun i us' hi=>?_⟩;by_cases hl:i < vs.length
 ·rw [YF hl] at hi;exact h'.2.2.2 i us' hi
 ·have hl2:i < (vs++[us]).length:=(Zx.1 hi).1;have e:i=vs.length:=by simp at hl2;omega
  subst e;rw [Ze (ZV _)] at hi;simp at hi;subst hi;rw [<-hn];exact ⟨fun j v hv=>c.at j v hv,fun o=>c.fz o⟩
section
open Go.RowKit Go.Shelf
attribute [local go_sem] Oper.semAt_some
def js (s:ByteArray) (gp tk:Nat->Nat) (key:ByteArray):Nat->Nat->Bool->Nat->ByteArray
 | 0,_,_,_=>⟨#[]⟩
 | f+1,a,found,k=>
  if tk (a+gp a)=0 then ⟨#[]⟩
  else if found=false then js s gp tk key f (a+gp a+tk (a+gp a)) ((s.extract (a+gp a) (a+gp a+tk (a+gp a))).toList==key.toList) k
  else if k=0 then s.extract (a+gp a) (a+gp a+tk (a+gp a))
  else js s gp tk key f (a+gp a+tk (a+gp a)) true (k - 1)
theorem yZ (s key:ByteArray) (k0:Nat) (w:World) (hk0:k0<=100) (gp tk:Nat->Nat) (V:Nat->Prop) (HV0:Hid (∀ a,V a))
  (HO:Hid (∀ W,CP 223 #[s] W fun e W'=>e=.returned (.func (.func 256) #[] #[zp W.heap.size])/\W'=W.alloc (.cells #[s] 9)))
  (HQ:Hid (∀ B b,rs Fence.wide prog 256 #[zp b] B (aS B b [.string s]) (fun _=>True) 0 V (uj s gp tk) (fun a=>a<=s.size/\tk (a+gp a)=0))):
  QB 189 #[s,key,(k0:Int)] w (.string (js s gp tk key (s.size+1) 0 false k0)):=by
 obtain ⟨R,hR⟩:∃ R,js s gp tk key (s.size+1) 0 false k0=R:=⟨_,rfl⟩;rw [hR];have HR:=ai hR;clear hR;refine (callsIn_wide (n:=0)).1 ?_;refine callsIn_of_wp_marks func189 rfl trivial ?_ rfl;simp only [ntmps189,List.size_toArray,ZX,ZS,Nat.reduceAdd,Nat.reduceSub,Array.replicate_succ,Array.replicate_zero,List.push_toArray,List.append_toArray,Zt,ZG]
 gi_wp2
 refine ⟨trivial,rfl,(callsIn_wide.2 (HO.out _)).mono ?_⟩;rintro e W' ⟨rfl,rfl⟩;obtain ⟨n,hn⟩:∃ n,w.heap.size=n:=⟨_,rfl⟩;obtain ⟨S1,b1⟩:=(Bx.nil w.heap.size w (ZV _)).snoc [.string key] 9 (by simp);obtain ⟨S2,b2⟩:=b1.snoc [.int .i64 (k0:Int)] 3 (by simp);obtain ⟨S3,b3⟩:=b2.snoc [.string ⟨#[]⟩] 9 (by simp);obtain ⟨S4,b4⟩:=b3.snoc [.bool false] 4 (by simp);have hC:=aS.alloc (B:=w.heap.size) (vs:=[.string s]) (w:=(((w.alloc (Obj.cells #[Value.string key] 9)).alloc (Obj.cells #[Value.int IntKind.i64 k0] 3)).alloc (Obj.cells #[Value.string ⟨#[]⟩] 9)).alloc (Obj.cells #[Value.bool false] 4)) (t:=9) (by simp;omega);obtain ⟨st,ms⟩:=ah.new (Bx.thing w.heap.size _ _) b4 hC ((ZQ _ _).alloc (ZV _) _) (fun k e=>Nat.le_of_eq (Eq.symm e));have hsz:((((w.alloc (Obj.cells #[Value.string key] 9)).alloc (Obj.cells #[Value.int IntKind.i64 k0] 3)).alloc (Obj.cells #[Value.string ⟨#[]⟩] 9)).alloc (Obj.cells #[Value.bool false] 4)).heap.size=n+1+1+1+1:=by simp [hn]
 rw [hsz] at st;rw [hn] at st;simp only [Zt,ZG] at st;have hbel:Below n w (((((w.alloc (Obj.cells #[Value.string key] 9)).alloc (Obj.cells #[Value.int IntKind.i64 k0] 3)).alloc (Obj.cells #[Value.string ⟨#[]⟩] 9)).alloc (Obj.cells #[Value.bool false] 4)).alloc (Obj.cells #[Value.string s] 9)):=by
  rw [<-hn];exact (((((ZQ _ w).alloc (ZV _) _).alloc (by simp) _).alloc (by simp;omega) _).alloc (by simp;omega) _).alloc (by simp;omega) _
 have hwb:n<=(((((w.alloc (Obj.cells #[Value.string key] 9)).alloc (Obj.cells #[Value.int IntKind.i64 k0] 3)).alloc (Obj.cells #[Value.string ⟨#[]⟩] 9)).alloc (Obj.cells #[Value.bool false] 4)).alloc (Obj.cells #[Value.string s] 9)).heap.size:=by simp;omega
 clear hsz b1 b2 b3 b4 hC ms
 gi_wp2
 obtain ⟨W1,hW1⟩:∃ W1,(((((w.alloc (Obj.cells #[Value.string key] 9)).alloc (Obj.cells #[Value.int IntKind.i64 k0] 3)).alloc (Obj.cells #[Value.string ⟨#[]⟩] 9)).alloc (Obj.cells #[Value.bool false] 4)).alloc (Obj.cells #[Value.string s] 9))=W1:=⟨_,rfl⟩;rw [hW1] at st hbel hwb ⊢;clear hW1;have hge:=fun k=>(ah.thing (aS.thing n (n+1+1+1+1) [.string s]) (Bx.thing n n [[.string key],[.int .i64 (k0:Int)],[.string ⟨#[]⟩],[.bool false]])).ge (k:=k) st
 refine mc (B:=n) rfl (fun _=>trivial) rfl rfl (enters_of func256 (by kernel_rfl) rfl) (HQ.out _ _) (fun _ _=>trivial) (aS.thing _ _ _) ?hps
  (fun a W S=>∃ (c:Bool×Nat×Nat),(s.size - a < c.2.2/\c.2.1<=100/\Hid (R=js s gp tk key c.2.2 a c.1 c.2.1))/\Bx n n [[.string key],[.int .i64 (c.2.1:Int)],[.string ⟨#[]⟩],[.bool c.1]] W S)
  (fun j W S=>∃ (c:Bool×Nat),j=.ret/\Bx n n [[.string key],[.int .i64 (c.2:Int)],[.string R],[.bool c.1]] W S) ?hI ?hIx (fun a _ _ _=>HV0.out a) hwb (ah.mapR st fun W S h=>⟨(false,k0,s.size+1),⟨by dsimp only;omega,hk0,HR.out.symm⟩,h⟩) ?round ?done ?stop
 case hps=>
  rintro a args a' ⟨_,_,_,_,rfl⟩;rfl
 case hI=>exact fun a=>aJ.any fun c=>aJ.pure (Bx.thing _ _ _)
 case hIx=>exact fun j=>aJ.any fun c=>aJ.pure (Bx.thing _ _ _)
 case round=>
  rintro l a args a' W0 ⟨ha,h0,hle,rfl,rfl⟩
  gi_wp2
  refine ⟨trivial,?_⟩
  ·rintro W S ⟨⟨found,k,f⟩,⟨hf,hk,HV⟩,hb⟩ _;dsimp only at hf hk HV hb;have c0:W.cell? n=key:=hb.at 0 0 _ _ rfl rfl;have c1:W.cell? (zp (n+1))=(k:Int):=hb.at 1 0 _ _ rfl rfl;have c2:W.cell? (zp (n+1+1))=some (.string ⟨#[]⟩):=hb.at 2 0 _ _ rfl rfl;have c3:W.cell? (zp (n+1+1+1))=found:=hb.at 3 0 _ _ rfl rfl;have f1:W.frozen? (zp (n+1))=false:=hb.fz 1 0 (by simp);have f2:W.frozen? (zp (n+1+1))=false:=hb.fz 2 0 (by simp);have f3:W.frozen? (zp (n+1+1+1))=false:=hb.fz 3 0 (by simp)
   cases f with
   | zero=>exact absurd hf (by omega)
   | succ f=>
    obtain ⟨t,ht⟩:∃ t,s.extract (a+gp a) (a+gp a+tk (a+gp a))=t:=⟨_,rfl⟩;have HS:Hid (s.size - (a+gp a+tk (a+gp a)) < f):=by show _ < _;omega
    have hv:=HV.out;rw [js,ZO h0,ht] at hv;rw [ht]
    cases found with
    | false=>
     rw [ZM rfl] at hv;have HV':=ai hv;clear hv HV
     gi_wp2
     obtain ⟨b',m'⟩:=hb.set 3 0 _ (.bool (t.toList==key.toList)) rfl (by simp);exact ⟨_,⟨(t.toList==key.toList,k,f),⟨HS.out,hk,HV'.out⟩,b'⟩,m'⟩
    | true=>
     rw [ZO (by decide)] at hv
     cases k with
     | zero=>
      rw [ZM rfl] at hv;have HV':=ai hv;clear hv HV
      gi_wp2
      obtain ⟨b',m'⟩:=hb.set 2 0 _ (.string t) rfl (by simp);exact ⟨_,⟨(true,0),rfl,by rw [HV'.out];exact b'⟩,m'⟩
     | succ k=>
      rw [ZO (by omega),Nat.add_sub_cancel] at hv;have HV':=ai hv;clear hv HV;have d:(((k+1:Nat):Int)==0)=false:=by simp;omega
      gi_wp2
      obtain ⟨b',m'⟩:=hb.set 1 0 _ (.int .i64 (k:Int)) rfl (by simp);exact ⟨_,⟨(true,k,f),⟨HS.out,by dsimp only;omega,HV'.out⟩,b'⟩,m'⟩
 case done=>
  rintro D a W S' ⟨ha,hn0⟩ hs hm;obtain ⟨T1,k1,_,back1⟩:=ah.fst (Ob.thing _ _ _) hs;obtain ⟨T3,k3,_,back3⟩:=ah.snd (ah.thing (aS.thing _ _ _) (aJ.any fun c=>aJ.pure (Bx.thing _ _ _))) hs;have hK:=k3.2.2;obtain ⟨T2,k2,_,back2⟩:=ah.snd (aS.thing _ _ _) k1;obtain ⟨⟨found,k,f⟩,⟨hf,hk,HV⟩,hb⟩:=k2;dsimp only at hf hk HV hb;have hRe:R=⟨#[]⟩:=by
   cases f with
   | zero=>exact absurd hf (by omega)
   | succ f=>rw [HV.out,js,ZM hn0]
  subst hRe;have c2:W.cell? (zp (n+1+1))=some (.string ⟨#[]⟩):=hb.at 2 0 _ _ rfl rfl;have f2:W.frozen? (zp (n+1+1))=false:=hb.fz 2 0 (by simp);clear HV HR
  gi_wp2
  obtain ⟨b',m'⟩:=hb.set 2 0 _ (.string ⟨#[]⟩) rfl (by simp);obtain ⟨U1,u1,n1⟩:=back2 (Bx n n _) _ _ b' m';obtain ⟨U2,u2,n2⟩:=back1 _ _ _ u1 n1;obtain ⟨T5,k5,_,back5⟩:=ah.snd (ah.thing (aS.thing _ _ _) (Bx.thing _ _ _)) u2;obtain ⟨p6,m6⟩:=k5.put (.deferred none);obtain ⟨T7,k7,m7⟩:=back5 _ _ _ p6 m6;obtain ⟨T8,k8,_,_⟩:=ah.fst (Ob.thing _ _ _) k7;obtain ⟨T9,k9,_,_⟩:=ah.snd (aS.thing _ _ _) k8;have hc5:((W.setCell (zp (n+1+1)) (.string ⟨#[]⟩)).putObj D (.deferred none)).cell? (zp (n+1+1))=some (.string ⟨#[]⟩):=k9.at 2 0 _ _ rfl rfl;refine ⟨by simp,.inl ⟨_,_,rfl,run_takeDeferred k5.2.2,?_⟩⟩;refine ⟨.string ⟨#[]⟩,?_,rfl,?_⟩
  ·simp [results,f189,go_sem,hc5]
  ·rw [hn];exact hbel.trans ((((hm.trans n2).trans m7).below hge hwb).mono (ZV _))
 case stop=>
  rintro D c W S' hs hm;obtain ⟨T1,k1,_,back1⟩:=ah.fst (Ob.thing _ _ _) hs;obtain ⟨T3,k3,_,back3⟩:=ah.snd (ah.thing (aS.thing _ _ _) (aJ.any fun c=>aJ.pure (Bx.thing _ _ _))) hs;have hK:=k3.2.2;obtain ⟨T2,k2,_,back2⟩:=ah.snd (aS.thing _ _ _) k1;obtain ⟨⟨found,k⟩,rfl,hb⟩:=k2;dsimp only at hb;have c2:W.cell? (zp (n+1+1))=R:=hb.at 2 0 _ _ rfl rfl;clear HR
  gi_wp2
  obtain ⟨p6,m6⟩:=k3.put (.deferred none);obtain ⟨T7,k7,m7⟩:=back3 _ _ _ p6 m6;obtain ⟨T8,k8,_,_⟩:=ah.fst (Ob.thing _ _ _) k7;obtain ⟨T9,⟨_,_,k9⟩,_,_⟩:=ah.snd (aS.thing _ _ _) k8;have hc5:(W.putObj D (.deferred none)).cell? (zp (n+1+1))=R:=k9.at 2 0 _ _ rfl rfl;refine ⟨by simp,.inl ⟨_,_,rfl,run_takeDeferred hK,?_⟩⟩;refine ⟨.string R,?_,rfl,?_⟩
  ·simp [results,f189,go_sem,hc5]
  ·exact hbel.trans (((hm.trans m7).below hge hwb).mono (ZV _))
theorem C8 (s:ByteArray) (w:World):
  CP 223 #[s] w fun e W'=>e=.returned (.func (.func 256) #[] #[zp w.heap.size])/\W'=w.alloc (.cells #[s] 9):=by
 have hmf:∀ (fn:Fn) (first cap:Array Value) (w:World),(Instr.makeFunc fn first cap).run prog w=.ok (.func fn first cap) w:=fun _ _ _ _=>rfl
 go_enter func223,ntmps223
 go_wp2;go_ret;exact ⟨rfl,rfl⟩
def jt (s key:ByteArray) (k:Nat):ByteArray:=js s (lK s) (rd s) key (s.size+1) 0 false k
theorem dP (s key:ByteArray) (k:Nat) (w:World) (hs:s.size<=2000000000) (hk:k<=100) (hp:∀ a,ed (s.data.toList.drop a)):
  QB 189 #[s,key,(k:Int)] w (.string (jt s key k)):=
 yZ s key k w hk (lK s) (rd s) _ (fun a=>hp _) (fun W=>C8 s W) (fun B b=>C9 B b s hs)
end
variable {F:Fence} {P:Program}
def Cb (F:Fence) (P:Program) (gf:Nat) (lb:Array Value) (B:Nat) (C:As) (xi:World->Prop) {ι:Type} (i0:ι) (Step:ι->Array Value->ι->Prop) (End:ι->Prop) (X:ι->Array Value->As):Prop:=
 ∀ (l:Nat) (K:ι->As) (Kx:As),(∀ i,aJ B (K i))->aJ B Kx->
  ∀ W,xi W->B<=W.heap.size->
  (∀ i args i' W1 S,Step i args i'->ah (K i) (X i args) W1 S->Below B W W1->YieldAt F 0 P l args W1 fun e W'=>
   (e=.returned true/\∃ S',K i' W' S'/\Mv S W1 S' W')\/(e=.returned false/\∃ S',Kx W' S'/\Mv S W1 S' W'))->
  ∀ S,ah C (K i0) W S->CallsIn F 0 P gf (#[.func (.yield l) #[] #[]]++lb) W fun e W'=>
   (∃ v,e=.returned v)/\((∃ i S',End i/\ah C (K i) W' S'/\Mv S W S' W')\/∃ S',ah C Kx W' S'/\Mv S W S' W')
theorem ah.swap3 {A Bb C D:As} {w:World} {S:Bl} (h:ah (ah (ah A Bb) C) D w S):ah (ah (ah A D) Bb) C w S:=by
 have h1:=ah.assoc h;have h2:=ah.mapR h1 fun _ _ k=>ah.swap k
 have h3:=ah.assocR h2;refine ah.mapL h3 fun _ _ k=>?_
 have k1:=ah.assoc k;have k2:=ah.mapR k1 fun _ _ q=>ah.swap q
 exact ah.assocR k2
variable {F:Fence} {P:Program}
theorem BH {ι:Type} {B l:Nat} {fn:FuncId} {tmps0:Array Value} {ps:Array Tmp} {assign body:Code} {d:Nat} {args:Array Value} (hfn:F.fn fn) (hps:args.size=ps.size)
  {I:ι->As} {Ix:Code->As} (hI:∀ i,aJ B (I i)) (hIx:∀ c,aJ B (Ix c)) (i i':ι) (Qw:World->Prop)
  (hround:∀ W:World,assign.wpIn (F.inRound l) 0 P (Exit.then (fun a₁ W₁=>Below W W W₁/\∀ W' S,I i W' S->Qw W'->(∀ k,W.heap.size<=k->W'.heap[k]? =W₁.heap[k]?)->W'.heap.size=W₁.heap.size->body.wpIn (F.inRound l) 0 P (zE I Ix i' W' S) a₁ W') (fun _ _ _=>False)) {tmps:=(ps.zip args).foldl (fun t (p,v)=>t.setIfInBounds p v) tmps0,defers:=[]} W)
  (W:World) (hQ:∀ o W1,Below W W W1->Qw (W1.putObj l o)) (S:Bl) (h:ah (I i) (Ob B l (.loop {state:=.ready,pending:=none,fn,tmps:=tmps0,params:=ps,assign,body,defers:=d})) W S):
  YieldAt F 0 P l args W fun e W'=>
   (e=.returned true/\∃ S',ah (I i') (Ob B l (.loop {state:=.ready,pending:=none,fn,tmps:=tmps0,params:=ps,assign,body,defers:=d})) W' S'/\Mv S W S' W')\/
   (e=.returned false/\∃ S' c,ah (Ix c) (Ob B l (.loop {state:=.done,pending:=some c,fn,tmps:=tmps0,params:=ps,assign,body,defers:=d})) W' S'/\Mv S W S' W'):=by
 obtain ⟨S2,h2,_,back2⟩:=ah.snd (hI i) h;have hl:=h2.2.2;have hy:=run_yield (P:=P) (args:=args) hl hps;refine ⟨fn,_,assign,body,hy,roundIn_of_wpIn hfn (wpIn_mono (hround W) ?_)⟩;rintro e a₁ W₁ he
 cases e <;> first | exact he.elim | skip
 obtain ⟨hbe,hbody⟩:=he;have h':=(ah.thing (hI i) (Ob.thing B l _)).grow h hbe;have hlW:l < W.heap.size:=(ZF.1 hl).1;obtain ⟨S2',h2',_,back2⟩:=ah.snd (hI i) h';have hl1:=h2'.2.2;refine ⟨_,run_beginRound hl1 rfl,?_⟩;obtain ⟨p1,m1⟩:=h2'.put (.loop {state:=.busy,pending:=none,fn,tmps:=tmps0,params:=ps,assign,body,defers:=d});obtain ⟨S3,h3,m3⟩:=back2 _ _ _ p1 m1;have m0:=Mv.grow hbe S;obtain ⟨S4,h4,_,back4⟩:=ah.fst (Ob.thing B l _) h3;refine wpIn_mono (hbody _ _ h4 (hQ _ _ hbe) (fun k hk=>World.putObj_heap_other (by omega)) (by simp)) ?_;have fin:∀ (jump:Option Code) (X:As) (hX:aJ B X) (W3:World) (S5:Bl),X W3 S5->Mv S4 (W₁.putObj l (.loop {state:=.busy,pending:=none,fn,tmps:=tmps0,params:=ps,assign,body,defers:=d})) S5 W3->
   (Instr.endRound l jump).run P W3=.ok (.bool jump.isNone) (W3.putObj l (.loop {state:=if jump.isNone then .ready else .done,pending:=jump,fn,tmps:=tmps0,params:=ps,assign,body,defers:=d}))/\
   ∃ S',ah X (Ob B l (.loop {state:=if jump.isNone then .ready else .done,pending:=jump,fn,tmps:=tmps0,params:=ps,assign,body,defers:=d})) (W3.putObj l (.loop {state:=if jump.isNone then .ready else .done,pending:=jump,fn,tmps:=tmps0,params:=ps,assign,body,defers:=d})) S'/\
    Mv S W S' (W3.putObj l (.loop {state:=if jump.isNone then .ready else .done,pending:=jump,fn,tmps:=tmps0,params:=ps,assign,body,defers:=d})):=by
  intro jump X hX W3 S5 h5 m5;obtain ⟨S6,h6,m6⟩:=back4 _ _ _ h5 m5;obtain ⟨S7,h7,_,back7⟩:=ah.snd hX h6;have hl3:=h7.2.2;refine ⟨run_endRound (P:=P) jump hl3,?_⟩;obtain ⟨p8,m8⟩:=h7.put (.loop {state:=if jump.isNone then .ready else .done,pending:=jump,fn,tmps:=tmps0,params:=ps,assign,body,defers:=d});obtain ⟨S9,h9,m9⟩:=back7 _ _ _ p8 m8;exact ⟨S9,h9,((m0.trans m3).trans m6).trans m9⟩
 rintro e a3 W3 hp
 cases e with
 | normal=>
  obtain ⟨S5,h5,m5⟩:=hp;obtain ⟨hr,S',hs,hm⟩:=fin none _ (hI i') W3 S5 h5 m5;exact ⟨_,_,hr,.inl ⟨rfl,S',hs,hm⟩⟩
 | ret=>
  obtain ⟨S5,h5,m5⟩:=hp;obtain ⟨hr,S',hs,hm⟩:=fin (some .ret) _ (hIx .ret) W3 S5 h5 m5;exact ⟨_,_,hr,.inr ⟨rfl,S',.ret,hs,hm⟩⟩
 | exit id=>
  obtain ⟨S5,h5,m5⟩:=hp;obtain ⟨hr,S',hs,hm⟩:=fin (some (.exit id)) _ (hIx (.exit id)) W3 S5 h5 m5;exact ⟨_,_,hr,.inr ⟨rfl,S',.exit id,hs,hm⟩⟩
 | goto t=>
  obtain ⟨S5,h5,m5⟩:=hp;obtain ⟨hr,S',hs,hm⟩:=fin (some (.goto t)) _ (hIx (.goto t)) W3 S5 h5 m5;exact ⟨_,_,hr,.inr ⟨rfl,S',.goto t,hs,hm⟩⟩
 | panic ch=>exact hp.elim
 | outgrown=>exact hp.elim
theorem B8 {ι:Type} (hro:F.round=none) (hfn:∀ f,F.fn f) (hd:F.depth=none) {g:Operand} {ps:Array Tmp} {assign body:Code} {Q:Exit->Act->World->Prop} {a:Act} {w:World}
  {gf:Nat} {lb:Array Value} (hg:a.eval g=.func (.func gf) #[] lb) (eg:∀ args w,(callFunc gf args).run P w=.ok (.enter gf args) w)
  {B:Nat} {C:As} {xi:World->Prop} {i0:ι} {Step:ι->Array Value->ι->Prop} {End:ι->Prop} {X:ι->Array Value->As} (hX:∀ i args,aJ B (X i args)) (hseq:Cb F P gf lb B C xi i0 Step End X) (hPre:∀ W1,Below B w W1->xi W1) (hC:aJ B C) (hps:∀ i args i',Step i args i'->args.size=ps.size)
  (I:ι->As) (Ix:Code->As) (hI:∀ i,aJ B (I i)) (hIx:∀ c,aJ B (Ix c)) (hB:B<=w.heap.size) {S:Bl} (h0:ah C (I i0) w S)
  (hround:∀ l i args i' (W:World),Step i args i'->assign.wpIn (F.inRound l) 0 P (Exit.then (fun a₁ W₁=>Below W W W₁/\∀ W' S,ah (I i) (X i args) W' S->Below B w W'->(∀ k,W.heap.size<=k->W'.heap[k]? =W₁.heap[k]?)->W'.heap.size=W₁.heap.size->body.wpIn (F.inRound l) 0 P (zE I Ix i' W' S) a₁ W') (fun _ _ _=>False)) {tmps:=(ps.zip args).foldl (fun t (p,v)=>t.setIfInBounds p v) a.tmps,defers:=[]} W)
  (hdone:∀ D i W S',End i->ah (ah C (I i)) (Ob B D (.deferred (some []))) W S'->Mv S w S' W->Q .normal {a with defers:={target:=.collected D,args:=#[]}::a.defers} W)
  (hstop:∀ D c W S',ah (ah C (Ix c)) (Ob B D (.deferred (some []))) W S'->Mv S w S' W->c.wpIn F 0 P Q {a with defers:={target:=.collected D,args:=#[]}::a.defers} W):
  (Code.rangeFunc g ps assign body).wpIn F 0 P Q a w:=by
 refine wpIn_rangeFunc ?_;intro fn hf;rw [hro];obtain ⟨l,hl⟩:∃ l,w.heap.size+1=l:=⟨_,rfl⟩;obtain ⟨S1,h1,m1⟩:=Ob.new (ah.thing hC (hI i0)) h0 (.deferred (some [])) hB;obtain ⟨S2,h2,m2⟩:=Ob.new (ah.thing (ah.thing hC (hI i0)) (Ob.thing B _ _)) h1 (.loop {state:=.ready,pending:=none,fn,tmps:=a.tmps,params:=ps,assign,body,defers:=w.heap.size}) (by simp;omega);rw [World.size_alloc,hl] at h2;have m12:=m1.trans m2;obtain ⟨W1,hW1⟩:∃ W1,(w.alloc (.deferred (some []))).alloc (.loop {state:=.ready,pending:=none,fn,tmps:=a.tmps,params:=ps,assign,body,defers:=w.heap.size})=W1:=⟨_,rfl⟩;have hb1:Below B w W1:=by rw [<-hW1];exact ((ZQ _ w).alloc hB _).alloc (by simp;omega) _
 have hBW:B<=W1.heap.size:=ZU hB hb1.size;rw [hW1] at h2 m12;refine ⟨l,[{target:=.collected w.heap.size,args:=#[]}],W1,{target:=.fn (.func gf) lb,args:=#[.func (.yield l) #[] #[]]},W1,gf,#[.func (.yield l) #[] #[]]++lb,W1,?_,?_,?_,?_,fun e=>(by rw [hd] at e;cases e),?_⟩
 ·rw [<-hW1, <-hl];exact run_enterLoop_outer _ _ _ _ _
 ·simp only [resolve,hg];simp [go_sem]
 ·intro f' _;exact hfn f'
 ·simp [invoke,go_sem,eg]
 ·have hD:∀ i,aJ B (ah (I i) (Ob B w.heap.size (.deferred (some [])))):=fun i=>ah.thing (hI i) (Ob.thing B _ _)
  have hDx:∀ c,aJ B (ah (Ix c) (Ob B w.heap.size (.deferred (some [])))):=fun c=>ah.thing (hIx c) (Ob.thing B _ _)
  refine (hseq l (fun i=>ah (ah (I i) (Ob B w.heap.size (.deferred (some [])))) (Ob B l (.loop {state:=.ready,pending:=none,fn,tmps:=a.tmps,params:=ps,assign,body,defers:=w.heap.size})))
   (fun W S=>∃ c,ah (ah (Ix c) (Ob B w.heap.size (.deferred (some [])))) (Ob B l (.loop {state:=.done,pending:=some c,fn,tmps:=a.tmps,params:=ps,assign,body,defers:=w.heap.size})) W S)
   (fun i=>ah.thing (hD i) (Ob.thing B _ _)) (aJ.any fun c=>ah.thing (hDx c) (Ob.thing B _ _))
   W1 (hPre W1 hb1) hBW ?_ S2 ?_).mono ?_
  ·intro i args i' W T hst hK hbl;have hbw:Below B w W:=hb1.trans hbl;have hlB:B<=l:=by omega
   have hK':=ah.swap3 hK;obtain ⟨f1,t1,as1,b1,hy,hR⟩:=BH (ι:=Bool) (I:=fun q=>ah (if q=true then ah (I i) (X i args) else I i') (Ob B w.heap.size (.deferred (some [])))) (Ix:=fun c=>ah (Ix c) (Ob B w.heap.size (.deferred (some [])))) hf (hps _ _ _ hst) (fun q=>by cases q;exact hD i';exact ah.thing (ah.thing (hI i) (hX i args)) (Ob.thing B _ _)) hDx true false (fun W'=>Below B w W')
    (fun W0=>by
     refine wpIn_mono (hround l i args i' W0 hst) ?_;rintro e a₁ W₁ he
     cases e <;> first | exact he.elim | skip
     obtain ⟨hbe,hbo⟩:=he;refine ⟨hbe,fun W S hs hq hk1 hk2=>?_⟩;have hs':ah (ah (I i) (X i args)) (Ob B w.heap.size (.deferred (some []))) W S:=hs;obtain ⟨T1,k1,_,back⟩:=ah.fst (Ob.thing B _ _) hs';refine wpIn_mono (hbo W T1 k1 hq hk1 hk2) ?_;rintro e a3 W3 hp
     cases e with
     | normal=>obtain ⟨T2,k2,n2⟩:=hp;exact back _ _ _ k2 n2
     | ret=>obtain ⟨T2,k2,n2⟩:=hp;exact back _ _ _ k2 n2
     | exit id=>obtain ⟨T2,k2,n2⟩:=hp;exact back _ _ _ k2 n2
     | goto t=>obtain ⟨T2,k2,n2⟩:=hp;exact back _ _ _ k2 n2
     | panic ch=>exact hp.elim
     | outgrown=>exact hp.elim) W (fun o W9 hb9=>(hbw.trans (hb9.mono (ZU hB hbw.size))).trans ((Mv.putObj W9 l o).below (fun k e=>by have e':k=l:=e;omega) (ZU hB (ZU hbw.size hb9.size)))) T hK'
   refine ⟨f1,t1,as1,b1,hy,hR.mono ?_⟩;rintro e W' (⟨he,S',k,n⟩ | ⟨he,S',c,k,n⟩)
   ·exact .inl ⟨he,S',k,n⟩
   ·exact .inr ⟨he,S',⟨c,k⟩,n⟩
  ·exact (ah.assoc (ah.mapL h2 fun w S hs=>ah.assoc hs))
  ·rintro e W2 ⟨⟨v,rfl⟩,(⟨i,S',hE,hs,hm⟩ | ⟨S',hs,hm⟩)⟩
   ·obtain ⟨T1,k1,_,back⟩:=ah.snd (ah.thing hC (hD i)) (ah.assocR hs);have hl2:=k1.2.2;obtain ⟨p1,n1⟩:=k1.put (.loop {state:=.exhausted,pending:=none,fn,tmps:=a.tmps,params:=ps,assign,body,defers:=w.heap.size});obtain ⟨T2,k2,n2⟩:=back _ _ _ p1 n1;obtain ⟨T3,k3,n3⟩:=ah.drop k2;exact ⟨none,_,run_endLoop (P:=P) hl2 (by simp),hdone _ i _ T3 hE (ah.assocR k3) (((m12.trans hm).trans n2).trans n3)⟩
   ·obtain ⟨Sc,Sk,hc,⟨c,hk⟩,ho,rfl⟩:=hs;have hs:ah C (ah (ah (Ix c) (Ob B w.heap.size (.deferred (some [])))) (Ob B l (.loop {state:=.done,pending:=some c,fn,tmps:=a.tmps,params:=ps,assign,body,defers:=w.heap.size}))) W2 (cT Sc Sk):=⟨Sc,Sk,hc,hk,ho,rfl⟩;obtain ⟨T1,k1,_,back⟩:=ah.snd (ah.thing hC (hDx c)) (ah.assocR hs);have hl2:=k1.2.2;obtain ⟨p1,n1⟩:=k1.put (.loop {state:=.exhausted,pending:=some c,fn,tmps:=a.tmps,params:=ps,assign,body,defers:=w.heap.size});obtain ⟨T2,k2,n2⟩:=back _ _ _ p1 n1;obtain ⟨T3,k3,n3⟩:=ah.drop k2;exact ⟨some c,_,run_endLoop (P:=P) hl2 (by simp),hstop _ c _ T3 (ah.assocR k3) (((m12.trans hm).trans n2).trans n3)⟩
end Go.Proofs.YtbklfkpjoinofaaGreatDoor
