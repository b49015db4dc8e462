import Derived.Test.YtbklfkpjoinofaaGreatDoorA06
import Derived.RangeFuncNested
import Derived.RangeFuncBound
set_option linter.all false
set_option maxRecDepth 100000
set_option maxHeartbeats 8000000
namespace Go.Proofs.YtbklfkpjoinofaaGreatDoor
open Go.RowKit Go.Proofs.Tryz
theorem Tryz.infoMk:(Tryz.prog.info? 98).map (fun i=>(i.zero,i.size,i.bytes))=some (some (.agg #[.string ⟨#[]⟩,oz]),2,24):=by kernel_rfl
theorem Tryz.infoPg2:(Tryz.prog.info? 100).map (fun i=>(i.zero,i.size,i.bytes))=some (some (.agg #[oz,oz,.slice none 0 0]),3,40):=by kernel_rfl
theorem Tryz.infoOp2:(Tryz.prog.info? 31).map (fun i=>(i.zero,i.size,i.bytes))=some (some (.agg #[oz,oz,oz,oz,oz,oz,oz,oz,.string ⟨#[]⟩]),9,80):=by kernel_rfl
def Ob (B l:Nat) (o:Obj):As:=fun w S=>S=cC l/\B<=l/\w.heap[l]? =some o
theorem Ob.thing (B l:Nat) (o:Obj):aJ B (Ob B l o) where
 keep:=by
  rintro w w' S ⟨rfl,hB,h⟩ hk _;exact ⟨rfl,hB,(hk l rfl).trans h⟩
 lt:=by
  rintro w S k ⟨rfl,hB,h⟩ hk;obtain rfl:k=l:=hk;exact (ZG.1 h).1
 ge:=by
  rintro w S k ⟨rfl,hB,h⟩ hk;obtain rfl:k=l:=hk;exact hB
theorem Mv.putObj (w:World) (l:Nat) (o:Obj):Mv (cC l) w (cC l) (w.putObj l o):=
 ⟨⟨rfl,rfl,rfl,by simp,fun k _ hk=>World.putObj_heap_other (fun e=>hk e)⟩,fun _ h=>.inl h⟩
theorem Ob.put {B l:Nat} {o:Obj} {w:World} {S:Bl} (h:Ob B l o w S) (o':Obj):Ob B l o' (w.putObj l o') S/\Mv S w S (w.putObj l o'):=by
 obtain ⟨rfl,hB,h⟩:=h;exact ⟨⟨rfl,hB,World.putObj_heap_same (ZG.1 h).1⟩,Mv.putObj w l o'⟩
def tO (F:Fence) (P:Program) (gf:Nat) (lb:Array Value) (B:Nat) (C:As) (xi:World->Prop) {ι:Type} (i0:ι) (V:ι->Prop) (Step:ι->Array Value->ι->Prop) (End:ι->Prop):Prop:=
 ∀ (l:Nat) (K:ι->As) (Kx:As),(∀ i,aJ B (K i))->aJ B Kx->(∀ i W S,K i W S->V i)->
  ∀ W,xi W->B<=W.heap.size->
  (∀ i args i' W1 S,Step i args i'->K i W1 S->Below B W W1->YieldAt F 0 P l args W1 fun e W'=>
   (e=.returned true/\∃ S',K i' W' S'/\Mv S W1 S' W')\/(e=.returned false/\∃ S',Kx W' S'/\Mv S W1 S' W'))->
  ∀ S,ah C (K i0) W S->CallsIn F 0 P gf (#[.func (.yield l) #[] #[]]++lb) W fun e W'=>
   (∃ v,e=.returned v)/\((∃ i S',End i/\ah C (K i) W' S'/\Mv S W S' W')\/∃ S',ah C Kx W' S'/\Mv S W S' W')
def Cr {ι:Type} (I:ι->As) (Ix:Code->As) (i':ι) (W:World) (S:Bl):Exit->Act->World->Prop
 | .normal,_,W'=>∃ S',I i' W' S'/\Mv S W S' W'
 | .ret,_,W'=>∃ S',Ix .ret W' S'/\Mv S W S' W'
 | .exit id,_,W'=>∃ S',Ix (.exit id) W' S'/\Mv S W S' W'
 | .goto t,_,W'=>∃ S',Ix (.goto t) W' S'/\Mv S W S' W'
 | .panic _,_,_=>False
 | .outgrown,_,_=>False
variable {F:Fence} {P:Program}
theorem EJ {ι:Type} {B l:Nat} {fn:FuncId} {tmps0:Array Value} {ps:Array Tmp} {assign body:Code} {d:Nat} {args:Array Value} (hfn:F.fn fn) (hps:args.size=ps.size)
  {I:ι->As} {Ix:Code->As} (hI:∀ i,aJ B (I i)) (hIx:∀ c,aJ B (Ix c)) (i i':ι) (Qw:World->Prop)
  (hround:∀ W,assign.wpIn (F.inRound l) 0 P (Exit.then (fun a₁ W₁=>W₁=W/\∀ W' S,I i W' S->Qw W'->body.wpIn (F.inRound l) 0 P (Cr I Ix i' W' S) a₁ W') (fun _ _ _=>False)) {tmps:=(ps.zip args).foldl (fun t (p,v)=>t.setIfInBounds p v) tmps0,defers:=[]} W)
  (W:World) (hQ:∀ o,Qw (W.putObj l o)) (S:Bl) (h:ah (I i) (Ob B l (.loop {state:=.ready,pending:=none,fn,tmps:=tmps0,params:=ps,assign,body,defers:=d})) W S):
  YieldAt F 0 P l args W fun e W'=>
   (e=.returned true/\∃ S',ah (I i') (Ob B l (.loop {state:=.ready,pending:=none,fn,tmps:=tmps0,params:=ps,assign,body,defers:=d})) W' S'/\Mv S W S' W')\/
   (e=.returned false/\∃ S' c,ah (Ix c) (Ob B l (.loop {state:=.done,pending:=some c,fn,tmps:=tmps0,params:=ps,assign,body,defers:=d})) W' S'/\Mv S W S' W'):=by
 obtain ⟨S2,h2,_,back2⟩:=ah.snd (hI i) h;have hl:=h2.2.2;have hy:=run_yield (P:=P) (args:=args) hl hps;refine ⟨fn,_,assign,body,hy,roundIn_of_wpIn hfn (wpIn_mono (hround W) ?_)⟩;rintro e a₁ W₁ he
 cases e <;> first | exact he.elim | skip
 obtain ⟨e1,hbody⟩:=he;rw [e1];refine ⟨_,run_beginRound hl rfl,?_⟩;obtain ⟨p1,m1⟩:=h2.put (.loop {state:=.busy,pending:=none,fn,tmps:=tmps0,params:=ps,assign,body,defers:=d});obtain ⟨S3,h3,m3⟩:=back2 _ _ _ p1 m1;obtain ⟨S4,h4,_,back4⟩:=ah.fst (Ob.thing B l _) h3;refine wpIn_mono (hbody _ _ h4 (hQ _)) ?_;have fin:∀ (jump:Option Code) (X:As) (hX:aJ B X) (W3:World) (S5:Bl),X W3 S5->Mv S4 (W.putObj l (.loop {state:=.busy,pending:=none,fn,tmps:=tmps0,params:=ps,assign,body,defers:=d})) S5 W3->
   (Instr.endRound l jump).run P W3=.ok jump.isNone (W3.putObj l (.loop {state:=if jump.isNone then .ready else .done,pending:=jump,fn,tmps:=tmps0,params:=ps,assign,body,defers:=d}))/\
   ∃ S',ah X (Ob B l (.loop {state:=if jump.isNone then .ready else .done,pending:=jump,fn,tmps:=tmps0,params:=ps,assign,body,defers:=d})) (W3.putObj l (.loop {state:=if jump.isNone then .ready else .done,pending:=jump,fn,tmps:=tmps0,params:=ps,assign,body,defers:=d})) S'/\
    Mv S W S' (W3.putObj l (.loop {state:=if jump.isNone then .ready else .done,pending:=jump,fn,tmps:=tmps0,params:=ps,assign,body,defers:=d})):=by
  intro jump X hX W3 S5 h5 m5;obtain ⟨S6,h6,m6⟩:=back4 _ _ _ h5 m5;obtain ⟨S7,h7,_,back7⟩:=ah.snd hX h6;have hl3:=h7.2.2;refine ⟨run_endRound (P:=P) jump hl3,?_⟩;obtain ⟨p8,m8⟩:=h7.put (.loop {state:=if jump.isNone then .ready else .done,pending:=jump,fn,tmps:=tmps0,params:=ps,assign,body,defers:=d});obtain ⟨S9,h9,m9⟩:=back7 _ _ _ p8 m8;exact ⟨S9,h9,(m3.trans m6).trans m9⟩
 rintro e a3 W3 hp
 cases e with
 | normal=>
  obtain ⟨S5,h5,m5⟩:=hp;obtain ⟨hr,S',hs,hm⟩:=fin none _ (hI i') W3 S5 h5 m5;exact ⟨_,_,hr,.inl ⟨rfl,S',hs,hm⟩⟩
 | ret=>
  obtain ⟨S5,h5,m5⟩:=hp;obtain ⟨hr,S',hs,hm⟩:=fin (some .ret) _ (hIx .ret) W3 S5 h5 m5;exact ⟨_,_,hr,.inr ⟨rfl,S',.ret,hs,hm⟩⟩
 | exit id=>
  obtain ⟨S5,h5,m5⟩:=hp;obtain ⟨hr,S',hs,hm⟩:=fin (some (.exit id)) _ (hIx (.exit id)) W3 S5 h5 m5;exact ⟨_,_,hr,.inr ⟨rfl,S',.exit id,hs,hm⟩⟩
 | goto t=>
  obtain ⟨S5,h5,m5⟩:=hp;obtain ⟨hr,S',hs,hm⟩:=fin (some (.goto t)) _ (hIx (.goto t)) W3 S5 h5 m5;exact ⟨_,_,hr,.inr ⟨rfl,S',.goto t,hs,hm⟩⟩
 | panic ch=>exact hp.elim
 | outgrown=>exact hp.elim
variable {F:Fence} {P:Program}
theorem ah.mapR {X Y Y':As} {w:World} {S:Bl} (h:ah X Y w S) (f:∀ w S,Y w S->Y' w S):ah X Y' w S:=by
 obtain ⟨S1,S2,a,b,c,d⟩:=h;exact ⟨S1,S2,a,f _ _ b,c,d⟩
theorem ah.mapL {X X' Y:As} {w:World} {S:Bl} (h:ah X Y w S) (f:∀ w S,X w S->X' w S):ah X' Y w S:=by
 obtain ⟨S1,S2,a,b,c,d⟩:=h;exact ⟨S1,S2,f _ _ a,b,c,d⟩
theorem aJ.any {B:Nat} {α:Type} {K:α->As} (h:∀ c,aJ B (K c)):aJ B (fun w S=>∃ c,K c w S) where
 keep:=by
  rintro w w' S ⟨c,hc⟩ hk hs;exact ⟨c,(h c).keep hc hk hs⟩
 lt:=by
  rintro w S k ⟨c,hc⟩ hk;exact (h c).lt hc hk
 ge:=by
  rintro w S k ⟨c,hc⟩ hk;exact (h c).ge hc hk
theorem Ob.new {B:Nat} {X:As} (hX:aJ B X) {w:World} {S:Bl} (h:X w S) (o:Obj) (hB:B<=w.heap.size):∃ S',ah X (Ob B w.heap.size o) (w.alloc o) S'/\Mv S w S' (w.alloc o):=by
 have hb:Below w w (w.alloc o):=(ZT _ w).alloc (ZW _) o;refine ⟨cT S (cC w.heap.size),⟨S,cC w.heap.size,hX.grow h hb,⟨rfl,hB,World.alloc_heap_new w o⟩,?_,rfl⟩,⟨⟨hb.os,hb.tape,hb.output,hb.size,fun k hk _=>hb.block k hk⟩,?_⟩⟩
 ·intro k hk e;have:=hX.lt h hk;have e':k=w.heap.size:=e;omega
 ·rintro k (hk | hk)
  ·exact .inl hk
  ·exact .inr (Nat.le_of_eq (Eq.symm hk))
theorem ot {ι:Type} (hro:F.round=none) (hfn:∀ f,F.fn f) (hd:F.depth=none) {g:Operand} {ps:Array Tmp} {assign body:Code} {Q:Exit->Act->World->Prop} {a:Act} {w:World}
  {gf:Nat} {lb:Array Value} (hg:a.eval g=.func (.func gf) #[] lb) (eg:∀ args w,(callFunc gf args).run P w=.ok (.enter gf args) w)
  {B:Nat} {C:As} {xi:World->Prop} {i0:ι} {V:ι->Prop} {Step:ι->Array Value->ι->Prop} {End:ι->Prop} (hseq:tO F P gf lb B C xi i0 V Step End) (hPre:∀ W1,Below B w W1->xi W1) (hC:aJ B C) (hps:∀ i args i',Step i args i'->args.size=ps.size)
  (I:ι->As) (Ix:Code->As) (hI:∀ i,aJ B (I i)) (hIx:∀ c,aJ B (Ix c)) (hIV:∀ i W S,I i W S->V i) (hB:B<=w.heap.size) {S:Bl} (h0:ah C (I i0) w S)
  (hround:∀ l i args i' W,Step i args i'->assign.wpIn (F.inRound l) 0 P (Exit.then (fun a₁ W₁=>W₁=W/\∀ W' S,I i W' S->Below B w W'->body.wpIn (F.inRound l) 0 P (Cr I Ix i' W' S) a₁ W') (fun _ _ _=>False)) {tmps:=(ps.zip args).foldl (fun t (p,v)=>t.setIfInBounds p v) a.tmps,defers:=[]} W)
  (hdone:∀ D i W S',End i->ah (ah C (I i)) (Ob B D (.deferred (some []))) W S'->Mv S w S' W->Q .normal {a with defers:={target:=.collected D,args:=#[]}::a.defers} W)
  (hstop:∀ D c W S',ah (ah C (Ix c)) (Ob B D (.deferred (some []))) W S'->Mv S w S' W->c.wpIn F 0 P Q {a with defers:={target:=.collected D,args:=#[]}::a.defers} W):
  (Code.rangeFunc g ps assign body).wpIn F 0 P Q a w:=by
 refine wpIn_rangeFunc ?_;intro fn hf;rw [hro];obtain ⟨l,hl⟩:∃ l,w.heap.size+1=l:=⟨_,rfl⟩;obtain ⟨S1,h1,m1⟩:=Ob.new (ah.thing hC (hI i0)) h0 (.deferred (some [])) hB;obtain ⟨S2,h2,m2⟩:=Ob.new (ah.thing (ah.thing hC (hI i0)) (Ob.thing B _ _)) h1 (.loop {state:=.ready,pending:=none,fn,tmps:=a.tmps,params:=ps,assign,body,defers:=w.heap.size}) (by simp;omega);rw [World.size_alloc,hl] at h2;have m12:=m1.trans m2;obtain ⟨W1,hW1⟩:∃ W1,(w.alloc (.deferred (some []))).alloc (.loop {state:=.ready,pending:=none,fn,tmps:=a.tmps,params:=ps,assign,body,defers:=w.heap.size})=W1:=⟨_,rfl⟩;have hb1:Below B w W1:=by rw [<-hW1];exact ((ZT _ w).alloc hB _).alloc (by simp;omega) _
 have hBW:B<=W1.heap.size:=ZU hB hb1.size;rw [hW1] at h2 m12;refine ⟨l,[{target:=.collected w.heap.size,args:=#[]}],W1,{target:=.fn (.func gf) lb,args:=#[.func (.yield l) #[] #[]]},W1,gf,#[.func (.yield l) #[] #[]]++lb,W1,?_,?_,?_,?_,fun e=>(by rw [hd] at e;cases e),?_⟩
 ·rw [<-hW1, <-hl];exact run_enterLoop_outer _ _ _ _ _
 ·simp only [resolve,hg];simp [go_sem]
 ·intro f' _;exact hfn f'
 ·simp [invoke,go_sem,eg]
 ·have hD:∀ i,aJ B (ah (I i) (Ob B w.heap.size (.deferred (some [])))):=fun i=>ah.thing (hI i) (Ob.thing B _ _)
  have hDx:∀ c,aJ B (ah (Ix c) (Ob B w.heap.size (.deferred (some [])))):=fun c=>ah.thing (hIx c) (Ob.thing B _ _)
  refine (hseq l (fun i=>ah (ah (I i) (Ob B w.heap.size (.deferred (some [])))) (Ob B l (.loop {state:=.ready,pending:=none,fn,tmps:=a.tmps,params:=ps,assign,body,defers:=w.heap.size})))
   (fun W S=>∃ c,ah (ah (Ix c) (Ob B w.heap.size (.deferred (some [])))) (Ob B l (.loop {state:=.done,pending:=some c,fn,tmps:=a.tmps,params:=ps,assign,body,defers:=w.heap.size})) W S)
   (fun i=>ah.thing (hD i) (Ob.thing B _ _)) (aJ.any fun c=>ah.thing (hDx c) (Ob.thing B _ _))
   (fun i W S hk=>by
    obtain ⟨T1,k1,_,_⟩:=ah.fst (Ob.thing B _ _) hk;obtain ⟨T2,k2,_,_⟩:=ah.fst (Ob.thing B _ _) k1;exact hIV i _ _ k2) W1 (hPre W1 hb1) hBW ?_ S2 ?_).mono ?_
  ·intro i args i' W T hst hK hbl;have hbw:Below B w W:=hb1.trans hbl;have hlB:B<=l:=by omega
   obtain ⟨f1,t1,as1,b1,hy,hR⟩:=EJ (I:=fun i=>ah (I i) (Ob B w.heap.size (.deferred (some [])))) (Ix:=fun c=>ah (Ix c) (Ob B w.heap.size (.deferred (some [])))) hf (hps _ _ _ hst) hD hDx i i' (fun W'=>Below B w W')
    (fun W0=>by
     refine wpIn_mono (hround l i args i' W0 hst) ?_;rintro e a₁ W₁ he
     cases e <;> first | exact he.elim | skip
     obtain ⟨rfl,hbo⟩:=he;refine ⟨rfl,fun W S hs hq=>?_⟩;obtain ⟨T1,k1,_,back⟩:=ah.fst (Ob.thing B _ _) hs;refine wpIn_mono (hbo W T1 k1 hq) ?_;rintro e a3 W3 hp
     cases e with
     | normal=>obtain ⟨T2,k2,n2⟩:=hp;exact back _ _ _ k2 n2
     | ret=>obtain ⟨T2,k2,n2⟩:=hp;exact back _ _ _ k2 n2
     | exit id=>obtain ⟨T2,k2,n2⟩:=hp;exact back _ _ _ k2 n2
     | goto t=>obtain ⟨T2,k2,n2⟩:=hp;exact back _ _ _ k2 n2
     | panic ch=>exact hp.elim
     | outgrown=>exact hp.elim) W (fun o=>hbw.trans ((Mv.putObj W l o).below (fun k e=>by have e':k=l:=e;omega) (ZU hB hbw.size))) T hK
   refine ⟨f1,t1,as1,b1,hy,hR.mono ?_⟩;rintro e W' (⟨he,S',k,n⟩ | ⟨he,S',c,k,n⟩)
   ·exact .inl ⟨he,S',k,n⟩
   ·exact .inr ⟨he,S',⟨c,k⟩,n⟩
  ·exact (ah.assoc (ah.mapL h2 fun w S hs=>ah.assoc hs))
  ·rintro e W2 ⟨⟨v,rfl⟩,(⟨i,S',hE,hs,hm⟩ | ⟨S',hs,hm⟩)⟩
   ·obtain ⟨T1,k1,_,back⟩:=ah.snd (ah.thing hC (hD i)) (ah.assocR hs);have hl2:=k1.2.2;obtain ⟨p1,n1⟩:=k1.put (.loop {state:=.exhausted,pending:=none,fn,tmps:=a.tmps,params:=ps,assign,body,defers:=w.heap.size});obtain ⟨T2,k2,n2⟩:=back _ _ _ p1 n1;obtain ⟨T3,k3,n3⟩:=ah.drop k2;exact ⟨none,_,run_endLoop (P:=P) hl2 (by simp),hdone _ i _ T3 hE (ah.assocR k3) (((m12.trans hm).trans n2).trans n3)⟩
   ·obtain ⟨Sc,Sk,hc,⟨c,hk⟩,ho,rfl⟩:=hs;have hs:ah C (ah (ah (Ix c) (Ob B w.heap.size (.deferred (some [])))) (Ob B l (.loop {state:=.done,pending:=some c,fn,tmps:=a.tmps,params:=ps,assign,body,defers:=w.heap.size}))) W2 (cT Sc Sk):=⟨Sc,Sk,hc,hk,ho,rfl⟩;obtain ⟨T1,k1,_,back⟩:=ah.snd (ah.thing hC (hDx c)) (ah.assocR hs);have hl2:=k1.2.2;obtain ⟨p1,n1⟩:=k1.put (.loop {state:=.exhausted,pending:=some c,fn,tmps:=a.tmps,params:=ps,assign,body,defers:=w.heap.size});obtain ⟨T2,k2,n2⟩:=back _ _ _ p1 n1;obtain ⟨T3,k3,n3⟩:=ah.drop k2;exact ⟨some c,_,run_endLoop (P:=P) hl2 (by simp),hstop _ c _ T3 (ah.assocR k3) (((m12.trans hm).trans n2).trans n3)⟩
theorem aJ.pure {B:Nat} {K:As} {p:Prop} (h:aJ B K):aJ B (fun w S=>p/\K w S) where
 keep:=by
  rintro w w' S ⟨c,hc⟩ hk hs;exact ⟨c,h.keep hc hk hs⟩
 lt:=by
  rintro w S k ⟨c,hc⟩ hk;exact h.lt hc hk
 ge:=by
  rintro w S k ⟨c,hc⟩ hk;exact h.ge hc hk
def Bx (B n:Nat) (vs:List (List Value)):As:=fun w S=>
 S=(fun k=>n<=k/\k < n+vs.length)/\B<=n/\n+vs.length<=w.heap.size/\∀ i us,vs[i]? =some us->(∀ j v,us[j]? =some v->w.cell? (zq (n+i) j)=some v)/\∀ o,w.frozen? (zq (n+i) o)=false
theorem Bx.thing (B n:Nat) (vs:List (List Value)):aJ B (Bx B n vs) where
 keep:=by
  rintro w w' S ⟨rfl,hB,hn,h⟩ hk hz;refine ⟨rfl,hB,ZU hn hz,fun i us hi=>?_⟩;have hl:i < vs.length:=(Zx.1 hi).1;have e:=hk (n+i) ⟨by omega,by omega⟩;exact ⟨fun j v hv=>(ZQ (a:=zq (n+i) j) e).trans ((h i us hi).1 j v hv),fun o=>(ZH (a:=zq (n+i) o) e).trans ((h i us hi).2 o)⟩
 lt:=by
  rintro w S k ⟨rfl,hB,hn,h⟩ ⟨a,b⟩;omega
 ge:=by
  rintro w S k ⟨rfl,hB,hn,h⟩ ⟨a,b⟩;omega
theorem Bx.at {B n:Nat} {vs:List (List Value)} {w:World} {S:Bl} (h:Bx B n vs w S) (i j:Nat) (us:List Value) (v:Value) (hi:vs[i]? =some us) (hj:us[j]? =some v):w.cell? (zq (n+i) j)=some v:=(h.2.2.2 i us hi).1 j v hj
theorem Bx.fz {B n:Nat} {vs:List (List Value)} {w:World} {S:Bl} (h:Bx B n vs w S) (i o:Nat) (hi:i < vs.length):w.frozen? (zq (n+i) o)=false:=(h.2.2.2 i _ (ZM hi)).2 o
theorem Bx.set {B n:Nat} {vs:List (List Value)} {w:World} {S:Bl} (h:Bx B n vs w S) (i j:Nat) (us:List Value) (v:Value) (hi:vs[i]? =some us) (hj:j < us.length):
  Bx B n (vs.set i (us.set j v)) (w.setCell (zq (n+i) j) v) S/\Mv S w S (w.setCell (zq (n+i) j) v):=by
 obtain ⟨rfl,hB,hn,h⟩:=h;have hl:i < vs.length:=(Zx.1 hi).1;have hsz:(w.setCell (zq (n+i) j) v).heap.size=w.heap.size:=by show (w.heap.modify _ _).size=_;rw [Array.size_modify]
 refine ⟨⟨by rw [List.length_set],hB,by rw [List.length_set,hsz];exact hn,fun i' us' hi'=>⟨fun j' v' hv'=>?_,fun o=>?_⟩⟩,⟨⟨rfl,rfl,rfl,Nat.le_of_eq hsz.symm,fun k hk hb=>YX w ⟨n+i,j,none⟩ v k (fun e=>hb (by subst e;exact ⟨by show n<=n+i;omega,by show n+i < _;omega⟩))⟩,fun _ h=>.inl h⟩⟩
 ·by_cases ei:i'=i
  ·subst ei;rw [List.getElem?_set_self hl] at hi';obtain rfl:us.set j v=us':=YI hi';by_cases ej:j'=j
   ·subst ej;rw [List.getElem?_set_self hj] at hv';obtain rfl:v=v':=YI hv';exact World.cell?_setCell_same' _ _ _ (by rw [(h _ us hi).1 j' _ (ZM hj)];rfl)
   ·rw [List.getElem?_set_ne (Yg ej)] at hv';rw [ZV _ _ _ _ (by intro e;cases e;exact ej rfl)];exact (h _ us hi).1 j' v' hv'
  ·rw [List.getElem?_set_ne (Yg ei)] at hi';rw [ZV _ _ _ _ (by intro e;have:=congrArg Addr.block e;simp at this;exact ei this.symm)];exact (h i' us' hi').1 j' v' hv'
 ·rw [ZL];by_cases ei:i'=i
  ·subst ei;exact (h _ us hi).2 o
  ·rw [List.getElem?_set_ne (Yg ei)] at hi';exact (h i' us' hi').2 o
theorem Bx.nil (B:Nat) (w:World) (hB:B<=w.heap.size):Bx B w.heap.size [] w (fun k=>w.heap.size<=k/\k < w.heap.size+([]:List (List Value)).length):=⟨rfl,hB,by simp,fun i us hi=>by simp at hi⟩
theorem Bx.snoc {B n:Nat} {vs:List (List Value)} {w:World} {S:Bl} (h:Bx B n vs w S) (us:List Value) (t:TypeId) (hn:w.heap.size=n+vs.length):
  ∃ S',Bx B n (vs++[us]) (w.alloc (.cells us.toArray t)) S':=by
 have hb:Below w w (w.alloc (.cells us.toArray t)):=(ZT _ w).alloc (ZW _) _;have h':=(Bx.thing B n vs).grow h hb;have c:=aS.alloc (B:=B) (vs:=us) (w:=w) (t:=t) (by have:=h.2.1;omega);refine ⟨_,rfl,h.2.1,by simp;omega,fun i us' hi=>?_⟩;by_cases hl:i < vs.length
 ·rw [YE hl] at hi;exact h'.2.2.2 i us' hi
 ·have hl2:i < (vs++[us]).length:=(Zx.1 hi).1;have e:i=vs.length:=by simp at hl2;omega
  subst e;rw [Zb (ZW _)] at hi;simp at hi;subst hi;rw [<-hn];exact ⟨fun j v hv=>c.at j v hv,fun o=>c.fz o⟩
variable {F:Fence} {P:Program}
def DF (F:Fence) (P:Program) (gf:Nat) (lb:Array Value) (B:Nat) (C:As) (xi:World->Prop) {ι:Type} (i0:ι) (Step:ι->Array Value->ι->Prop) (End:ι->Prop) (X:ι->Array Value->As):Prop:=
 ∀ (l:Nat) (K:ι->As) (Kx:As),(∀ i,aJ B (K i))->aJ B Kx->
  ∀ W,xi W->B<=W.heap.size->
  (∀ i args i' W1 S,Step i args i'->ah (K i) (X i args) W1 S->Below B W W1->YieldAt F 0 P l args W1 fun e W'=>
   (e=.returned true/\∃ S',K i' W' S'/\Mv S W1 S' W')\/(e=.returned false/\∃ S',Kx W' S'/\Mv S W1 S' W'))->
  ∀ S,ah C (K i0) W S->CallsIn F 0 P gf (#[.func (.yield l) #[] #[]]++lb) W fun e W'=>
   (∃ v,e=.returned v)/\((∃ i S',End i/\ah C (K i) W' S'/\Mv S W S' W')\/∃ S',ah C Kx W' S'/\Mv S W S' W')
theorem ah.swap3 {A Bb C D:As} {w:World} {S:Bl} (h:ah (ah (ah A Bb) C) D w S):ah (ah (ah A D) Bb) C w S:=by
 have h1:=ah.assoc h;have h2:=ah.mapR h1 fun _ _ k=>ah.swap k
 have h3:=ah.assocR h2;refine ah.mapL h3 fun _ _ k=>?_
 have k1:=ah.assoc k;have k2:=ah.mapR k1 fun _ _ q=>ah.swap q
 exact ah.assocR k2
variable {F:Fence} {P:Program}
theorem Di {ι:Type} {B l:Nat} {fn:FuncId} {tmps0:Array Value} {ps:Array Tmp} {assign body:Code} {d:Nat} {args:Array Value} (hfn:F.fn fn) (hps:args.size=ps.size)
  {I:ι->As} {Ix:Code->As} (hI:∀ i,aJ B (I i)) (hIx:∀ c,aJ B (Ix c)) (i i':ι) (Qw:World->Prop)
  (hround:∀ W:World,assign.wpIn (F.inRound l) 0 P (Exit.then (fun a₁ W₁=>Below W W W₁/\∀ W' S,I i W' S->Qw W'->(∀ k,W.heap.size<=k->W'.heap[k]? =W₁.heap[k]?)->W'.heap.size=W₁.heap.size->body.wpIn (F.inRound l) 0 P (Cr I Ix i' W' S) a₁ W') (fun _ _ _=>False)) {tmps:=(ps.zip args).foldl (fun t (p,v)=>t.setIfInBounds p v) tmps0,defers:=[]} W)
  (W:World) (hQ:∀ o W1,Below W W W1->Qw (W1.putObj l o)) (S:Bl) (h:ah (I i) (Ob B l (.loop {state:=.ready,pending:=none,fn,tmps:=tmps0,params:=ps,assign,body,defers:=d})) W S):
  YieldAt F 0 P l args W fun e W'=>
   (e=.returned true/\∃ S',ah (I i') (Ob B l (.loop {state:=.ready,pending:=none,fn,tmps:=tmps0,params:=ps,assign,body,defers:=d})) W' S'/\Mv S W S' W')\/
   (e=.returned false/\∃ S' c,ah (Ix c) (Ob B l (.loop {state:=.done,pending:=some c,fn,tmps:=tmps0,params:=ps,assign,body,defers:=d})) W' S'/\Mv S W S' W'):=by
 obtain ⟨S2,h2,_,back2⟩:=ah.snd (hI i) h;have hl:=h2.2.2;have hy:=run_yield (P:=P) (args:=args) hl hps;refine ⟨fn,_,assign,body,hy,roundIn_of_wpIn hfn (wpIn_mono (hround W) ?_)⟩;rintro e a₁ W₁ he
 cases e <;> first | exact he.elim | skip
 obtain ⟨hbe,hbody⟩:=he;have h':=(ah.thing (hI i) (Ob.thing B l _)).grow h hbe;have hlW:l < W.heap.size:=(ZG.1 hl).1;obtain ⟨S2',h2',_,back2⟩:=ah.snd (hI i) h';have hl1:=h2'.2.2;refine ⟨_,run_beginRound hl1 rfl,?_⟩;obtain ⟨p1,m1⟩:=h2'.put (.loop {state:=.busy,pending:=none,fn,tmps:=tmps0,params:=ps,assign,body,defers:=d});obtain ⟨S3,h3,m3⟩:=back2 _ _ _ p1 m1;have m0:=Mv.grow hbe S;obtain ⟨S4,h4,_,back4⟩:=ah.fst (Ob.thing B l _) h3;refine wpIn_mono (hbody _ _ h4 (hQ _ _ hbe) (fun k hk=>World.putObj_heap_other (by omega)) (by simp)) ?_;have fin:∀ (jump:Option Code) (X:As) (hX:aJ B X) (W3:World) (S5:Bl),X W3 S5->Mv S4 (W₁.putObj l (.loop {state:=.busy,pending:=none,fn,tmps:=tmps0,params:=ps,assign,body,defers:=d})) S5 W3->
   (Instr.endRound l jump).run P W3=.ok (.bool jump.isNone) (W3.putObj l (.loop {state:=if jump.isNone then .ready else .done,pending:=jump,fn,tmps:=tmps0,params:=ps,assign,body,defers:=d}))/\
   ∃ S',ah X (Ob B l (.loop {state:=if jump.isNone then .ready else .done,pending:=jump,fn,tmps:=tmps0,params:=ps,assign,body,defers:=d})) (W3.putObj l (.loop {state:=if jump.isNone then .ready else .done,pending:=jump,fn,tmps:=tmps0,params:=ps,assign,body,defers:=d})) S'/\
    Mv S W S' (W3.putObj l (.loop {state:=if jump.isNone then .ready else .done,pending:=jump,fn,tmps:=tmps0,params:=ps,assign,body,defers:=d})):=by
  intro jump X hX W3 S5 h5 m5;obtain ⟨S6,h6,m6⟩:=back4 _ _ _ h5 m5;obtain ⟨S7,h7,_,back7⟩:=ah.snd hX h6;have hl3:=h7.2.2;refine ⟨run_endRound (P:=P) jump hl3,?_⟩;obtain ⟨p8,m8⟩:=h7.put (.loop {state:=if jump.isNone then .ready else .done,pending:=jump,fn,tmps:=tmps0,params:=ps,assign,body,defers:=d});obtain ⟨S9,h9,m9⟩:=back7 _ _ _ p8 m8;exact ⟨S9,h9,((m0.trans m3).trans m6).trans m9⟩
 rintro e a3 W3 hp
 cases e with
 | normal=>
  obtain ⟨S5,h5,m5⟩:=hp;obtain ⟨hr,S',hs,hm⟩:=fin none _ (hI i') W3 S5 h5 m5;exact ⟨_,_,hr,.inl ⟨rfl,S',hs,hm⟩⟩
 | ret=>
  obtain ⟨S5,h5,m5⟩:=hp;obtain ⟨hr,S',hs,hm⟩:=fin (some .ret) _ (hIx .ret) W3 S5 h5 m5;exact ⟨_,_,hr,.inr ⟨rfl,S',.ret,hs,hm⟩⟩
 | exit id=>
  obtain ⟨S5,h5,m5⟩:=hp;obtain ⟨hr,S',hs,hm⟩:=fin (some (.exit id)) _ (hIx (.exit id)) W3 S5 h5 m5;exact ⟨_,_,hr,.inr ⟨rfl,S',.exit id,hs,hm⟩⟩
 | goto t=>
  obtain ⟨S5,h5,m5⟩:=hp;obtain ⟨hr,S',hs,hm⟩:=fin (some (.goto t)) _ (hIx (.goto t)) W3 S5 h5 m5;exact ⟨_,_,hr,.inr ⟨rfl,S',.goto t,hs,hm⟩⟩
 | panic ch=>exact hp.elim
 | outgrown=>exact hp.elim
theorem DA {ι:Type} (hro:F.round=none) (hfn:∀ f,F.fn f) (hd:F.depth=none) {g:Operand} {ps:Array Tmp} {assign body:Code} {Q:Exit->Act->World->Prop} {a:Act} {w:World}
  {gf:Nat} {lb:Array Value} (hg:a.eval g=.func (.func gf) #[] lb) (eg:∀ args w,(callFunc gf args).run P w=.ok (.enter gf args) w)
  {B:Nat} {C:As} {xi:World->Prop} {i0:ι} {Step:ι->Array Value->ι->Prop} {End:ι->Prop} {X:ι->Array Value->As} (hX:∀ i args,aJ B (X i args)) (hseq:DF F P gf lb B C xi i0 Step End X) (hPre:∀ W1,Below B w W1->xi W1) (hC:aJ B C) (hps:∀ i args i',Step i args i'->args.size=ps.size)
  (I:ι->As) (Ix:Code->As) (hI:∀ i,aJ B (I i)) (hIx:∀ c,aJ B (Ix c)) (hB:B<=w.heap.size) {S:Bl} (h0:ah C (I i0) w S)
  (hround:∀ l i args i' (W:World),Step i args i'->assign.wpIn (F.inRound l) 0 P (Exit.then (fun a₁ W₁=>Below W W W₁/\∀ W' S,ah (I i) (X i args) W' S->Below B w W'->(∀ k,W.heap.size<=k->W'.heap[k]? =W₁.heap[k]?)->W'.heap.size=W₁.heap.size->body.wpIn (F.inRound l) 0 P (Cr I Ix i' W' S) a₁ W') (fun _ _ _=>False)) {tmps:=(ps.zip args).foldl (fun t (p,v)=>t.setIfInBounds p v) a.tmps,defers:=[]} W)
  (hdone:∀ D i W S',End i->ah (ah C (I i)) (Ob B D (.deferred (some []))) W S'->Mv S w S' W->Q .normal {a with defers:={target:=.collected D,args:=#[]}::a.defers} W)
  (hstop:∀ D c W S',ah (ah C (Ix c)) (Ob B D (.deferred (some []))) W S'->Mv S w S' W->c.wpIn F 0 P Q {a with defers:={target:=.collected D,args:=#[]}::a.defers} W):
  (Code.rangeFunc g ps assign body).wpIn F 0 P Q a w:=by
 refine wpIn_rangeFunc ?_;intro fn hf;rw [hro];obtain ⟨l,hl⟩:∃ l,w.heap.size+1=l:=⟨_,rfl⟩;obtain ⟨S1,h1,m1⟩:=Ob.new (ah.thing hC (hI i0)) h0 (.deferred (some [])) hB;obtain ⟨S2,h2,m2⟩:=Ob.new (ah.thing (ah.thing hC (hI i0)) (Ob.thing B _ _)) h1 (.loop {state:=.ready,pending:=none,fn,tmps:=a.tmps,params:=ps,assign,body,defers:=w.heap.size}) (by simp;omega);rw [World.size_alloc,hl] at h2;have m12:=m1.trans m2;obtain ⟨W1,hW1⟩:∃ W1,(w.alloc (.deferred (some []))).alloc (.loop {state:=.ready,pending:=none,fn,tmps:=a.tmps,params:=ps,assign,body,defers:=w.heap.size})=W1:=⟨_,rfl⟩;have hb1:Below B w W1:=by rw [<-hW1];exact ((ZT _ w).alloc hB _).alloc (by simp;omega) _
 have hBW:B<=W1.heap.size:=ZU hB hb1.size;rw [hW1] at h2 m12;refine ⟨l,[{target:=.collected w.heap.size,args:=#[]}],W1,{target:=.fn (.func gf) lb,args:=#[.func (.yield l) #[] #[]]},W1,gf,#[.func (.yield l) #[] #[]]++lb,W1,?_,?_,?_,?_,fun e=>(by rw [hd] at e;cases e),?_⟩
 ·rw [<-hW1, <-hl];exact run_enterLoop_outer _ _ _ _ _
 ·simp only [resolve,hg];simp [go_sem]
 ·intro f' _;exact hfn f'
 ·simp [invoke,go_sem,eg]
 ·have hD:∀ i,aJ B (ah (I i) (Ob B w.heap.size (.deferred (some [])))):=fun i=>ah.thing (hI i) (Ob.thing B _ _)
  have hDx:∀ c,aJ B (ah (Ix c) (Ob B w.heap.size (.deferred (some [])))):=fun c=>ah.thing (hIx c) (Ob.thing B _ _)
  refine (hseq l (fun i=>ah (ah (I i) (Ob B w.heap.size (.deferred (some [])))) (Ob B l (.loop {state:=.ready,pending:=none,fn,tmps:=a.tmps,params:=ps,assign,body,defers:=w.heap.size})))
   (fun W S=>∃ c,ah (ah (Ix c) (Ob B w.heap.size (.deferred (some [])))) (Ob B l (.loop {state:=.done,pending:=some c,fn,tmps:=a.tmps,params:=ps,assign,body,defers:=w.heap.size})) W S)
   (fun i=>ah.thing (hD i) (Ob.thing B _ _)) (aJ.any fun c=>ah.thing (hDx c) (Ob.thing B _ _))
   W1 (hPre W1 hb1) hBW ?_ S2 ?_).mono ?_
  ·intro i args i' W T hst hK hbl;have hbw:Below B w W:=hb1.trans hbl;have hlB:B<=l:=by omega
   have hK':=ah.swap3 hK;obtain ⟨f1,t1,as1,b1,hy,hR⟩:=Di (ι:=Bool) (I:=fun q=>ah (if q=true then ah (I i) (X i args) else I i') (Ob B w.heap.size (.deferred (some [])))) (Ix:=fun c=>ah (Ix c) (Ob B w.heap.size (.deferred (some [])))) hf (hps _ _ _ hst) (fun q=>by cases q;exact hD i';exact ah.thing (ah.thing (hI i) (hX i args)) (Ob.thing B _ _)) hDx true false (fun W'=>Below B w W')
    (fun W0=>by
     refine wpIn_mono (hround l i args i' W0 hst) ?_;rintro e a₁ W₁ he
     cases e <;> first | exact he.elim | skip
     obtain ⟨hbe,hbo⟩:=he;refine ⟨hbe,fun W S hs hq hk1 hk2=>?_⟩;have hs':ah (ah (I i) (X i args)) (Ob B w.heap.size (.deferred (some []))) W S:=hs;obtain ⟨T1,k1,_,back⟩:=ah.fst (Ob.thing B _ _) hs';refine wpIn_mono (hbo W T1 k1 hq hk1 hk2) ?_;rintro e a3 W3 hp
     cases e with
     | normal=>obtain ⟨T2,k2,n2⟩:=hp;exact back _ _ _ k2 n2
     | ret=>obtain ⟨T2,k2,n2⟩:=hp;exact back _ _ _ k2 n2
     | exit id=>obtain ⟨T2,k2,n2⟩:=hp;exact back _ _ _ k2 n2
     | goto t=>obtain ⟨T2,k2,n2⟩:=hp;exact back _ _ _ k2 n2
     | panic ch=>exact hp.elim
     | outgrown=>exact hp.elim) W (fun o W9 hb9=>(hbw.trans (hb9.mono (ZU hB hbw.size))).trans ((Mv.putObj W9 l o).below (fun k e=>by have e':k=l:=e;omega) (ZU hB (ZU hbw.size hb9.size)))) T hK'
   refine ⟨f1,t1,as1,b1,hy,hR.mono ?_⟩;rintro e W' (⟨he,S',k,n⟩ | ⟨he,S',c,k,n⟩)
   ·exact .inl ⟨he,S',k,n⟩
   ·exact .inr ⟨he,S',⟨c,k⟩,n⟩
  ·exact (ah.assoc (ah.mapL h2 fun w S hs=>ah.assoc hs))
  ·rintro e W2 ⟨⟨v,rfl⟩,(⟨i,S',hE,hs,hm⟩ | ⟨S',hs,hm⟩)⟩
   ·obtain ⟨T1,k1,_,back⟩:=ah.snd (ah.thing hC (hD i)) (ah.assocR hs);have hl2:=k1.2.2;obtain ⟨p1,n1⟩:=k1.put (.loop {state:=.exhausted,pending:=none,fn,tmps:=a.tmps,params:=ps,assign,body,defers:=w.heap.size});obtain ⟨T2,k2,n2⟩:=back _ _ _ p1 n1;obtain ⟨T3,k3,n3⟩:=ah.drop k2;exact ⟨none,_,run_endLoop (P:=P) hl2 (by simp),hdone _ i _ T3 hE (ah.assocR k3) (((m12.trans hm).trans n2).trans n3)⟩
   ·obtain ⟨Sc,Sk,hc,⟨c,hk⟩,ho,rfl⟩:=hs;have hs:ah C (ah (ah (Ix c) (Ob B w.heap.size (.deferred (some [])))) (Ob B l (.loop {state:=.done,pending:=some c,fn,tmps:=a.tmps,params:=ps,assign,body,defers:=w.heap.size}))) W2 (cT Sc Sk):=⟨Sc,Sk,hc,hk,ho,rfl⟩;obtain ⟨T1,k1,_,back⟩:=ah.snd (ah.thing hC (hDx c)) (ah.assocR hs);have hl2:=k1.2.2;obtain ⟨p1,n1⟩:=k1.put (.loop {state:=.exhausted,pending:=some c,fn,tmps:=a.tmps,params:=ps,assign,body,defers:=w.heap.size});obtain ⟨T2,k2,n2⟩:=back _ _ _ p1 n1;obtain ⟨T3,k3,n3⟩:=ah.drop k2;exact ⟨some c,_,run_endLoop (P:=P) hl2 (by simp),hstop _ c _ T3 (ah.assocR k3) (((m12.trans hm).trans n2).trans n3)⟩
end Go.Proofs.YtbklfkpjoinofaaGreatDoor
