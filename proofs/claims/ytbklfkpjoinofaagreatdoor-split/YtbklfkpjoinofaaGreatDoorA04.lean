import Derived.StillTail
import Derived.OrdersIn
import Derived.Test.YtbklfkpjoinofaaGreatDoorA00
set_option linter.all false
set_option maxRecDepth 100000
set_option maxHeartbeats 8000000
namespace Go.Proofs.YtbklfkpjoinofaaGreatDoor
open Go.RowKit Go.Proofs.Tryz
section
variable {P:Program} {ops:Array Oper} {md:Region.Mode} {C:World->Prop} {n:Nat} {L:Array Bool->Act->Prop}
def iZ (P:Program) (md:Region.Mode) (ops:Array Oper) (C:World->Prop) (n:Nat) (L:Array Bool->Act->Prop):Nat->Array Bool->Act->Prop
 | 0,listed,a=>L listed a
 | f+1,listed,a=>Region.ready md ops listed≠[]/\∀ i∈Region.ready md ops listed,i < n/\qOp P ops C i (iZ P md ops C n L f (listed.setIfInBounds i true)) a
theorem iZ.any {g:Nat} {Q:Exit->Act->World->Prop} (hL:∀ listed a w,C w->L listed a->wpAny P md ops Q g listed a w) (f:Nat):
  ∀ listed a w,C w->iZ P md ops C n L f listed a->wpAny P md ops Q (f+g) listed a w:=by
 induction f with
 | zero=>intro listed a w hw h;rw [YF];exact hL _ _ _ hw h
 | succ f ih=>
  intro listed a w hw h;rw [show f+1+g=(f+g)+1 by omega];exact ⟨fun h0=>absurd h0 h.1,fun i hi=>wpOp_of_qOp hw (fun a' w' hw' h'=>ih _ a' w' hw' h') (h.2 i hi).2⟩
theorem iZ.first {i:Nat} {oi:Oper} {v:Value} (hi:ops[i]? =some oi) (hsel:∀ (j:Nat) (o:Oper) cs b,ops[j]? =some o->o.op≠.select cs b)
  (hs:Region.sinkB md ops n=true) (hc:Region.chainB md ops n=true) (hn:n < ops.size) (hin:i < n)
  (hdone:∀ listed a,L listed a->∀ j∈Region.ready md ops listed,n<=j) (f:Nat):
  ∀ (listed:Array Bool) (a:Act),HeadInv md ops n listed->
   (∀ j oj,ops[j]? =some oj->j≠i->listed.getD j true=false->(∀ e∈oj.after,Region.binds md e=true->e.on≠i)->oi.apart ops oj=true)->
   i∈Region.ready md ops listed->YieldsIn P ops C oi v a->
   iZ P md ops C n L f (listed.setIfInBounds i true) (a.put oi.dst v)->iZ P md ops C n L (f+1) listed a:=by
 induction f with
 | zero=>
  intro listed a inv _ hr hy H;refine ⟨List.ne_nil_of_mem hr,fun j hj=>?_⟩;have hjn:j < n:=XY fun h=>tail_waits hs hc hn inv _ i rfl hin (mem_ready.1 hr).1 j h hj
  refine ⟨hjn,?_⟩;by_cases hji:j=i
  ·subst hji;exact hy.qOp hi H
  ·have:=hdone _ _ H j (ready_mono hj hji);omega
 | succ f ih=>
  intro listed a inv hfree hr hy H;have hun:=(mem_ready.1 hr).1;refine ⟨List.ne_nil_of_mem hr,fun j hj=>?_⟩;have hjn:j < n:=XY fun h=>tail_waits hs hc hn inv _ i rfl hin hun j h hj
  refine ⟨hjn,?_⟩;by_cases hji:j=i
  ·subst hji;exact hy.qOp hi H
  ·obtain ⟨hjun,oj,hoj,hall⟩:=mem_ready.1 hj;have hnot:∀ e∈oj.after,Region.binds md e=true->e.on≠i:=fun e he hb heq=>by
    have h1:=hall e he hb;rw [heq,getD_both hun] at h1;exact XP h1
   have h2:=qOp_put hoj (hfree j oj hoj hji hjun hnot) (fun cs b=>hsel i oi cs b hi) (fun cs b=>hsel j oj cs b hoj) hy (H.2 j (ready_mono hj hji)).2;refine qOp_mono (fun a' h3=>ih (listed.setIfInBounds j true) a' (inv.set hj hjn) ?_ (ready_mono hr (Yg hji)) h3.1 ?_) h2
   ·intro k ok hk hki hunk hno;refine hfree k ok hk hki ?_ hno;by_cases hjk:j=k
    ·subst hjk;exact hjun
    ·rw [Yt true hjk] at hunk;exact hunk
   ·rw [Array.setIfInBounds_comm _ _ hji];exact h3.2
theorem iZ.lex {g:Nat} {K:Act->Prop} (hsel:Region.noSelect ops=true) (hs:Region.sinkB md ops n=true) (hc:Region.chainB md ops n=true) (hn:n < ops.size) (l:List Oper):
  ∀ (k:Nat) (listed:Array Bool) (a:Act),(∀ j,j < l.length->l[j]? =ops[k+j]?)->k+l.length=n->HeadInv md ops n listed->
   Region.lexHead md ops g l.length k listed=true->wpQuiet P ops C K l a->
   iZ P md ops C n (fun listed' a'=>Region.seqB md ops g n listed'=true/\K a') l.length listed a:=by
 induction l with
 | nil=>
  intro k listed a _ hk _ hB h;obtain rfl:k=n:=by simpa using hk
  exact ⟨hB,h⟩
 | cons o l ih=>
  intro k listed a hl hk inv hB h;have h0:ops[k]? =some o:=by simpa using (hl 0 (by simp)).symm
  simp only [ZX,Region.lexHead,Zr] at hB;obtain ⟨⟨hr,hf⟩,hB'⟩:=hB;have hkn:k < n:=by simp only [ZX] at hk;omega
  have hr':k∈Region.ready md ops listed:=by simpa using hr
  have hst:qOp P ops C k (wpQuiet P ops C K l) a:=by unfold qOp;simp only [h0];exact h
  obtain ⟨v,hy,hK⟩:=yieldsIn_of_qOp h0 hst;refine iZ.first h0 (Region.noSelect_spec hsel) hs hc hn hkn (fun _ _ hL=>seqB_ready hL.1) l.length listed a inv (Region.free_spec h0 hf) hr' hy (ih (k+1) _ _ (fun j hj=>?_) (by simp only [ZX] at hk;omega) (inv.set hr' hkn) hB' hK);have:=hl (j+1) (by simp;omega);simpa [YS,Nat.add_comm 1 j] using this
end
theorem bO {P:Program} {id:Nat} {Q:Exit->Act->World->Prop} {a:Act} {w:World} {l:List Oper} (n:Nat) (hm:P.follows .mixedOrders=true) (hB:Region.lexTailB .any l.toArray n=true)
  (h:wpQuiet P l.toArray (fun w'=>∃ q,w'=w.drewN q) (fun a'=>∀ w',(∃ q,w'=w.drewN q)->wpList P l.toArray Q (l.drop n) a' w') (l.take n) a):(Code.region id l.toArray true).wp P Q a w:=by
 simp only [Region.lexTailB,Zr,Zh] at hB;obtain ⟨⟨⟨⟨hsel,hn⟩,hs⟩,hc⟩,hlex⟩:=hB;have hn':n < l.length:=by simpa using hn
 have htl:(l.take n).length=n:=by simp;omega
 have hdl:(l.drop n).length=l.toArray.size - n:=by simp
 have inv0:HeadInv .any l.toArray n (Array.replicate l.toArray.size false):=
  ⟨by simp,fun j oj _ hl=>absurd hl (by rw [getD_replicate_false];exact XP),fun t _ ht=>getD_in (by simpa using ht) (getD_replicate_false _ _)⟩
 have H:=iZ.lex (md:=.any) (g:=l.toArray.size - n) hsel hs hc hn (l.take n) 0 _ a (fun j hj=>by
  have hj':j < n:=by rw [htl] at hj;exact hj
  simp [hj']) (by simpa using htl) inv0 (by rw [htl];exact hlex) h
 refine wp_region_any hm ?_;have:=iZ.any (Q:=Q) (g:=l.toArray.size - n) (fun listed a' w' hw' hL=>by
  have:=wpAny_of_seq (md:=.any) (Q':=Q) (l.drop n) n listed a' w' (fun j=>by simp [Yc]) (by rw [hdl];exact hL.1) (hL.2 w' hw');rwa [hdl] at this) _ _ _ {w with drawn:=w.drawn+1} ⟨1,rfl⟩ H
 rw [htl,show n+(l.toArray.size - n)=l.toArray.size by omega] at this;exact this
section
variable {P:Program} {ops:Array Oper} {md:Region.Mode}
def af (w w':World):Prop:=Below w w w'
theorem af.refl (w:World):af w w:=ZT _ _
theorem af.trans {a b c:World} (h:af a b) (k:af b c):af a c:=Below.trans h (YY k h.size)
def dS (o:Oper) (a:Act):Value:=match o.dst with | some d=>a.eval (.tmp d) | none=>undef
def dB (ops:Array Oper) (k:Nat):Option Tmp:=(ops[k]?).bind (·.dst)
def cQ (ops:Array Oper) (V:Nat->Value) (a:Act):Nat->Act
 | 0=>a
 | k+1=>(cQ ops V a k).put (dB ops k) (V k)
theorem nj (a:Act) (d:Option Tmp) (v:Value):(a.put d v).tmps.size=a.tmps.size:=by
 cases d <;> simp [Act.put]
theorem fq (a:Act) (d:Option Tmp) (v:Value):(a.put d v).defers=a.defers:=by
 cases d <;> simp [Act.put]
theorem e_ (a:Act) (d:Option Tmp) (v:Value) (t:Nat) (h:d≠some t):(a.put d v).tmps[t]? =a.tmps[t]? :=by
 cases d with
 | none=>rfl
 | some d=>
  have:d≠t:=fun e=>h (by rw [e])
  simp [Act.put,Array.getElem?_setIfInBounds_ne this]
theorem n9 (a:Act) (d:Nat) (v:Value) (h:d < a.tmps.size):(a.put (some d) v).tmps[d]? =some v:=by
 simp [Act.put,h]
theorem jq (V:Nat->Value) (a:Act) (k:Nat):(cQ ops V a k).tmps.size=a.tmps.size:=by
 induction k with
 | zero=>rfl
 | succ k ih=>rw [cQ,nj,ih]
theorem qO (V:Nat->Value) (a:Act) (k:Nat):(cQ ops V a k).defers=a.defers:=by
 induction k with
 | zero=>rfl
 | succ k ih=>rw [cQ,fq,ih]
theorem ik (V:Nat->Value) (a:Act) (t k:Nat) (h:∀ j,j < k->dB ops j≠some t):(cQ ops V a k).tmps[t]? =a.tmps[t]? :=by
 induction k with
 | zero=>rfl
 | succ k ih=>rw [cQ,e_ _ _ _ _ (h k (by omega)),ih fun j hj=>h j (by omega)]
theorem oM (V:Nat->Value) (a:Act) (t j k:Nat) (hj:j < k) (hd:dB ops j=some t) (ht:t < a.tmps.size) (h:∀ i,i < k->i≠j->dB ops i≠some t):(cQ ops V a k).tmps[t]? =some (V j):=by
 induction k with
 | zero=>omega
 | succ k ih=>
  rw [cQ];by_cases hk:j=k
  ·subst hk;rw [hd];exact n9 _ _ _ (by rw [jq];exact ht)
  ·rw [e_ _ _ _ _ (h k (by omega) (by omega))];exact ih (by omega) fun i hi=>h i (by omega)
theorem nM (o:Oper) (hs:∀ cs b,o.op≠.select cs b) (a b:Act) (h:∀ t∈o.looksAt ops,a.tmps[t]? =b.tmps[t]?):
  execOp a.eval o=execOp b.eval o/\Region.wanted o (yielded ops a.tmps)=Region.wanted o (yielded ops b.tmps):=by
 constructor
 ·refine execOp_congr o hs fun x hx=>?_
  cases x with
  | tmp t=>
   have:=h t (List.mem_append_left _ (List.mem_filterMap.2 ⟨.tmp t,by simpa using hx,rfl⟩));simp only [Act.eval,Array.getD_eq_getD_getElem?,this]
  | _=>rfl
 ·unfold Region.wanted
  cases hg:o.guard with
  | none=>rfl
  | some gw=>
   obtain ⟨g,want⟩:=gw;have hy:yielded ops a.tmps g=yielded ops b.tmps g:=by
    unfold yielded
    cases ht:(ops[g]?).bind (·.dst) with
    | none=>rfl
    | some t=>
     have:=h t (by simp [Oper.looksAt,hg,ht]);simp [this]
   simp only [hy]
theorem rL (o:Oper) (a:Act) (u:Value) (hd:∀ d,o.dst=some d->d < a.tmps.size):dS o (a.put o.dst u)=match o.dst with | some _=>u | none=>undef:=by
 unfold dS
 cases h:o.dst with
 | none=>rfl
 | some d=>
  have:=n9 a d u (hd d h);simp only [Act.eval,Array.getD_eq_getD_getElem?,this];rfl
theorem kN {Q:Exit->Act->World->Prop} {i:Nat} {o:Oper} {a b:Act} {w:World} {X:Value->World->Prop} (hi:ops[i]? =some o) (he:execOp a.eval o=execOp b.eval o)
  (hw:Region.wanted o (yielded ops a.tmps)=Region.wanted o (yielded ops b.tmps)) (ha:∀ d,o.dst=some d->d < a.tmps.size) (hb:∀ d,o.dst=some d->d < b.tmps.size)
  (h:wpList P ops (fun e b' w'=>e=.normal/\b'.defers=b.defers/\X (dS o b') w') [o] b w):
  wpOp P ops Q i (fun a' w'=>∃ v,a'=a.put o.dst v/\X (match o.dst with | some _=>v | none=>undef) w') a w:=by
 have out:∀ u w',X (dS o (b.put o.dst u)) w'->∃ v,a.put o.dst u=a.put o.dst v/\X (match o.dst with | some _=>v | none=>undef) w':=fun u w' hx=>⟨u,rfl,by rw [rL o b u hb] at hx;exact hx⟩
 unfold wpOp;simp only [hi,wpList] at h ⊢;rw [hw];split
 ·rename_i hq
  simp only [hq,if_true] at h;rcases h with h | ⟨_,hl⟩
  case inr=>
   obtain ⟨_,_,hx,_⟩:=hl
   cases hx
  refine .inl ?_;unfold Oper.wp at*;rw [he];generalize (execOp b.eval o).run P w=r at*
  cases r with
  | ok nx w'=>
   cases nx <;> simp only [Oper.upon] at h ⊢
   case value u=>exact out _ _ h.2.2
   case skip=>exact out _ _ h.2.2
   case defer d=>
    have h2:=congrArg List.length h.2.1;simp [fq] at h2
   case enter f args=>
    refine Calls.mono h fun e w'' he=>?_
    cases e with
    | returned u=>exact out _ _ he.2.2
    | panicked c=>cases he.1
    | outgrown=>
     obtain ⟨_,_,hx,_⟩:=he
     cases hx
   case row row args=>exact Rows.mono h fun u w'' he=>out _ _ he.2.2
  | halt x w'=>
   cases x <;> simp only [Oper.upon] at h ⊢
   case panic u=>cases h.1
 ·rename_i hq
  simp only [hq] at h;exact out _ _ h.2.2
def Region.toldB (md:Region.Mode) (ops:Array Oper) (n m:Nat):Bool:=
 Region.noSelect ops&&decide (n < ops.size)&&Region.sinkB md ops n&&Region.chainB md ops n&&
 (List.range n).all (fun k=>match ops[k]? with
  | some o=>(match o.dst with | some d=>decide (d < m) | none=>true)&&o.after.all (fun e=>!Region.binds md e||decide (e.on < k))
  | none=>false)&&
 (List.range n).all (fun j=>(List.range j).all fun k=>match ops[k]?,ops[j]? with
  | some x,some y=>(Region.waitsFor md ops j k||x.apart ops y)&&(x.dst.isNone||x.dst != y.dst)
  | _,_=>false)&&
 Region.seqB md ops (ops.size - n) n ((Array.range ops.size).map fun i=>decide (i < n))
structure Told (md:Region.Mode) (ops:Array Oper) (n m:Nat):Prop where
 sel:Region.noSelect ops=true
 lt:n < ops.size
 sink:Region.sinkB md ops n=true
 chain:Region.chainB md ops n=true
 dst:∀ k o d,k < n->ops[k]? =some o->o.dst=some d->d < m
 early:∀ k o e,k < n->ops[k]? =some o->e∈o.after->Region.binds md e=true->e.on < k
 looks:∀ j k x y,k < j->j < n->ops[k]? =some x->ops[j]? =some y->Region.waitsFor md ops j k=true\/x.apart ops y=true
 apart:∀ j k d,k < j->j < n->dB ops k=some d->dB ops j≠some d
 tail:Region.seqB md ops (ops.size - n) n ((Array.range ops.size).map fun i=>decide (i < n))=true
theorem wM {n m:Nat} (h:Region.toldB md ops n m=true):Told md ops n m:=by
 simp only [Region.toldB,Zr,Zh,List.all_eq_true,Yw] at h;obtain ⟨⟨⟨⟨⟨⟨h1,h2⟩,h3⟩,h4⟩,h5⟩,h6⟩,h7⟩:=h;refine ⟨h1,h2,h3,h4,fun k o d hk ho hd=>?_,fun k o e hk ho he hb=>?_,fun j k x y hkj hj hx hy=>?_,fun j k d hkj hj hk hd=>?_,h7⟩
 ·have:=h5 k hk;simp only [ho,hd,Zr,Zh] at this;exact this.1
 ·have:=h5 k hk;simp only [ho,Zr] at this;have:=Array.all_eq_true_iff_forall_mem.1 this.2 e he;simpa [hb] using this
 ·have:=h6 j hj k hkj;simp only [hx,hy,Zr,Bool.or_eq_true] at this;exact this.1
 ·have:=h6 j hj k hkj;unfold dB at hk hd
  cases hx:ops[k]? with
  | none=>simp [hx] at hk
  | some x=>
   cases hy:ops[j]? with
   | none=>simp [hy] at hd
   | some y=>
    rw [hx] at hk;rw [hy] at hd;have e1:x.dst=some d:=hk;have e2:y.dst=some d:=hd;simp [hx,hy,e1,e2] at this
def left (n:Nat) (listed:Array Bool):Nat:=(List.range n).countP fun i=>!listed.getD i true
theorem lD (p:Nat->Bool) (q:Nat->Bool) (i n:Nat) (hi:i < n) (hp:p i=true) (hq:q i=false) (h:∀ j,j≠i->q j=p j):(List.range n).countP p=(List.range n).countP q+1:=by
 induction n with
 | zero=>omega
 | succ n ih=>
  rw [List.range_succ,List.countP_append,List.countP_append];by_cases hin:i=n
  ·subst hin;have:(List.range i).countP q=(List.range i).countP p:=List.countP_congr fun j hj=>by
    rw [h j (by have:=Yw.1 hj;omega)]
   rw [this];simp [hp,hq]
  ·rw [ih (by omega)];have:q n=p n:=h n (Yg hin);simp only [List.countP_singleton,this];omega
structure Told.At (ops:Array Oper) (n:Nat) (R:Nat->Value->World->Prop) (a0:Act) (w0:World) (listed:Array Bool) (V:Nat->Value) (a:Act) (w:World):Prop where
 size:a.tmps.size=a0.tmps.size
 defers:a.defers=a0.defers
 other:∀ t,(∀ k,k < n->listed.getD k true=true->dB ops k≠some t)->a.tmps[t]? =a0.tmps[t]?
 here:∀ k d,k < n->listed.getD k true=true->dB ops k=some d->a.tmps[d]? =some (V k)
 told:∀ k,k < n->listed.getD k true=true->R k (V k) w
 grows:af w0 w
end
section
variable {P:Program} {ops:Array Oper} {md:Region.Mode}
theorem Told.uniq {n m:Nat} (T:Told md ops n m) {k k' t:Nat} (hk:k < n) (hk':k' < n) (h:dB ops k=some t) (h':dB ops k'=some t):k=k':=by
 rcases Nat.lt_trichotomy k k' with g | g | g
 ·exact absurd h' (T.apart k' k t g hk' h)
 ·exact g
 ·exact absurd h (T.apart k k' t g hk h')
theorem ql {listed:Array Bool} {i:Nat} (h:listed.getD i false=true):listed.getD i true=true:=by
 rcases Nat.lt_or_ge i listed.size with h' | h'
 ·simp [h'] at h ⊢;exact h
 ·simp [Array.getElem?_eq_none h'] at h
theorem vM {listed:Array Bool} {i:Nat} (hi:i < listed.size) (h:listed.getD i true=true):listed.getD i false=true:=by
 simp [hi] at h ⊢;exact h
theorem Told.ready {n m:Nat} (T:Told md ops n m) {listed:Array Bool} (inv:HeadInv md ops n listed):
  ∀ (d k:Nat),k=d->k < n->listed.getD k true=false->Region.ready md ops listed≠[]:=by
 intro d;induction d using Nat.strongRecOn with
 | _ d ih=>
  intro k hkd hk hun h0;have hks:k < ops.size:=XW hk T.lt;by_cases h:∃ e∈ops[k].after,Region.binds md e=true/\listed.getD e.on false=false
  ·obtain ⟨e,he,hb,hl⟩:=h;have hlt:=T.early k _ e hk (Array.getElem?_eq_getElem hks) he hb;exact ih e.on (by omega) e.on rfl (by omega) (getD_in (by rw [inv.size];omega) hl) h0
  ·have:k∈Region.ready md ops listed:=mem_ready.2 ⟨hun,_,Array.getElem?_eq_getElem hks,fun e he hb=>by
    cases hl:listed.getD e.on false with
    | true=>rfl
    | false=>exact absurd ⟨e,he,hb,hl⟩ h⟩
   rw [h0] at this
   cases this
theorem Told.same {n m i:Nat} (T:Told md ops n m) {R:Nat->Value->World->Prop} {a0 a:Act} {w0 w:World} {listed:Array Bool} {V:Nat->Value} (hm:a0.tmps.size=m) (inv:HeadInv md ops n listed)
  (A:Told.At ops n R a0 w0 listed V a w) (hi:i < n) (hr:i∈Region.ready md ops listed) {o:Oper} (ho:ops[i]? =some o):∀ t∈o.looksAt ops,a.tmps[t]? =(cQ ops V a0 i).tmps[t]? :=by
 intro t ht;obtain ⟨hun,o',ho',hall⟩:=mem_ready.1 hr;obtain rfl:o'=o:=YI (ho'.symm.trans ho);by_cases h:∃ k,k < n/\dB ops k=some t
 ·obtain ⟨k,hk,hkt⟩:=h;obtain ⟨x,hx,hxd⟩:∃ x,ops[k]? =some x/\x.dst=some t:=by
   unfold dB at hkt
   cases hx:ops[k]? with
   | none=>simp [hx] at hkt
   | some x=>exact ⟨x,rfl,by rw [hx] at hkt;exact hkt⟩
  rcases Nat.lt_trichotomy k i with g | g | g
  ·rcases T.looks i k x o' g hi hx ho with hw | hap
   ·obtain ⟨oj,hoj,e,he,hb,hek⟩:=Region.waitsFor_spec hw;obtain rfl:oj=o':=YI (hoj.symm.trans ho);have hl:=hall e he hb;rw [hek] at hl;rw [A.here k t hk (ql hl) hkt];exact (oM V a0 t k i g hkt (by rw [hm];exact T.dst k x t hk hx hxd) fun j hj hjk hjt=>hjk (T.uniq (by omega) hk hjt hkt)).symm
   ·exact absurd ht ((Oper.apart_spec hap).1 t hxd)
  ·subst g;rw [A.other t fun j hj hl hjt=>by
    have:=T.uniq hj hk hjt hkt;subst this;rw [hun] at hl
    cases hl]
   exact (ik V a0 t k fun j hj hjt=>by have:=T.uniq (by omega) hk hjt hkt;omega).symm
  ·rcases T.looks k i o' x g hk ho hx with hw | hap
   ·rw [A.other t fun j hj hl hjt=>by
     have:=T.uniq hj hk hjt hkt;subst this;obtain ⟨oj,hoj,e,he,hb,hek⟩:=Region.waitsFor_spec hw;have h1:=inv.closed j oj hoj (vM (by rw [inv.size];exact XW hj T.lt) hl) e he hb;rw [hek,getD_both hun] at h1
     cases h1]
    exact (ik V a0 t i fun j hj hjt=>by have:=T.uniq (by omega) hk hjt hkt;omega).symm
   ·exact absurd ht ((Oper.apart_spec hap).2.2 t hxd)
 ·rw [A.other t fun j hj _ hjt=>h ⟨j,hj,hjt⟩];exact (ik V a0 t i fun j hj hjt=>h ⟨j,by omega,hjt⟩).symm
theorem Told.all {n m:Nat} (T:Told md ops n m) {R:Nat->Value->World->Prop} {a0 a:Act} {w0 w:World} {listed:Array Bool} {V:Nat->Value} (hm:a0.tmps.size=m)
  (A:Told.At ops n R a0 w0 listed V a w) (hl:∀ k,k < n->listed.getD k true=true):a=cQ ops V a0 n:=by
 obtain ⟨ts,ds⟩:=a;have hd:ds=(cQ ops V a0 n).defers:=by rw [qO];exact A.defers
 have ht:ts=(cQ ops V a0 n).tmps:=by
  apply Array.ext_getElem?;intro t;by_cases h:∃ k,k < n/\dB ops k=some t
  ·obtain ⟨k,hk,hkt⟩:=h;have hts:t < a0.tmps.size:=by
    unfold dB at hkt
    cases hx:ops[k]? with
    | none=>simp [hx] at hkt
    | some x=>rw [hm];exact T.dst k x t hk hx (by rw [hx] at hkt;exact hkt)
   rw [oM V a0 t k n hk hkt hts fun j hj hjk hjt=>hjk (T.uniq hj hk hjt hkt)];exact A.here k t hk (hl k hk) hkt
  ·rw [ik V a0 t n fun j hj hjt=>h ⟨j,hj,hjt⟩];exact A.other t fun j hj _ hjt=>h ⟨j,hj,hjt⟩
 subst hd ht;rfl
theorem mf {n:Nat} {listed:Array Bool} (inv:HeadInv md ops n listed) (hl:∀ k,k < n->listed.getD k true=true):listed=(Array.range ops.size).map fun i=>decide (i < n):=by
 apply Array.ext
 ·simp [inv.size]
 ·intro i h1 h2;simp only [Array.getElem_map,Array.getElem_range];by_cases hi:i < n
  ·have:=hl i hi;simp [h1] at this;simp [hi,this]
  ·have:=inv.tail i (by omega) (by rw [<-inv.size];exact h1);simp [h1] at this;simp [hi,this]
theorem zl {n m g:Nat} {R:Nat->Value->World->Prop} {a0:Act} {w0:World} {Q:Exit->Act->World->Prop} (T:Told md ops n m) (hm:a0.tmps.size=m)
  (hst:∀ k v w w',k < n->R k v w->af w w'->R k v w')
  (hstep:∀ k o,k < n->ops[k]? =some o->∀ V w',af w0 w'->(∀ e∈o.after,Region.binds md e=true->R e.on (V e.on) w')->
   wpList P ops (fun e b w''=>e=.normal/\b.defers=(cQ ops V a0 k).defers/\(R k (dS o b) w''/\af w' w'')) [o] (cQ ops V a0 k) w')
  (hend:∀ V w',af w0 w'->(∀ k,k < n->R k (V k) w')->wpAny P md ops Q g ((Array.range ops.size).map fun i=>decide (i < n)) (cQ ops V a0 n) w') (f:Nat):
  ∀ (listed:Array Bool) (V:Nat->Value) (a:Act) (w:World),left n listed=f->HeadInv md ops n listed->Told.At ops n R a0 w0 listed V a w->wpAny P md ops Q (f+g) listed a w:=by
 induction f with
 | zero=>
  intro listed V a w hf inv A;have hl:∀ k,k < n->listed.getD k true=true:=fun k hk=>by
   have:=List.countP_eq_zero.1 hf k (Yw.2 hk);simpa using this
  rw [mf inv hl,T.all hm A hl,YF];exact hend V w A.grows fun k hk=>A.told k hk (hl k hk)
 | succ f ih=>
  intro listed V a w hf inv A;obtain ⟨k0,hk0,hun0⟩:∃ k,k < n/\listed.getD k true=false:=by
   have:0 < (List.range n).countP fun i=>!listed.getD i true:=by show 0 < left n listed;omega
   obtain ⟨k,hk,hp⟩:=List.countP_pos_iff.1 this;exact ⟨k,Yw.1 hk,by simpa using hp⟩
  rw [show f+1+g=(f+g)+1 by omega];refine ⟨fun h0=>absurd h0 (T.ready inv k0 k0 rfl hk0 hun0),fun i hi=>?_⟩;have hin:i < n:=XY fun h=>tail_waits T.sink T.chain T.lt inv _ k0 rfl hk0 hun0 i h hi
  obtain ⟨hun,o,ho,hall⟩:=mem_ready.1 hi;have hdst:dB ops i=o.dst:=by unfold dB;rw [ho];rfl
  have hS:=nM (ops:=ops) o (Region.noSelect_spec T.sel i o · · ho) a (cQ ops V a0 i) (T.same hm inv A hin hi ho);have hlt:∀ d,o.dst=some d->d < a0.tmps.size:=fun d hd=>by rw [hm];exact T.dst i o d hin ho hd
  have h1:=hstep i o hin ho V w A.grows fun e he hb=>A.told e.on (XW (T.early i o e hin ho he hb) hin) (ql (hall e he hb))
  have h2:=kN (Q:=Q) (i:=i) (a:=a) (X:=fun v w''=>R i v w''/\af w w'') ho hS.1 hS.2 (fun d hd=>by rw [A.size];exact hlt d hd) (fun d hd=>by rw [jq];exact hlt d hd) h1;refine wpOp_mono ?_ h2;rintro a' w' ⟨v,rfl,hR,hG⟩;have hil:i < listed.size:=by rw [inv.size];exact XW hin T.lt
  have hset:(listed.setIfInBounds i true).getD i true=true:=by simp
  refine ih _ (fun k=>if k=i then (match o.dst with | some _=>v | none=>undef) else V k) _ w' ?_ (inv.set hi hin) ⟨?_,?_,?_,?_,?_,A.grows.trans hG⟩
  ·have:=lD (fun j=>!listed.getD j true) (fun j=>!(listed.setIfInBounds i true).getD j true) i n hin (by simp only [hun];rfl) (by simp only [hset];rfl) (fun j hj=>by simp only [Yt true (Yg hj)]);unfold left at hf ⊢;omega
  ·rw [nj,A.size]
  ·rw [fq,A.defers]
  ·intro t ht;rw [e_ _ _ _ _ (by rw [<-hdst];exact ht i hin hset)];refine A.other t fun k hk hl=>ht k hk ?_
   by_cases hki:i=k
   ·subst hki;exact hset
   ·rw [Yt true hki];exact hl
  ·intro k d hk hl hd;by_cases hki:k=i
   ·subst hki;have hod:o.dst=some d:=by rw [<-hdst];exact hd
    rw [hod,n9 _ _ _ (by rw [A.size];exact hlt d hod)];simp
   ·rw [e_ _ _ _ _ (by rw [<-hdst];exact fun h=>hki (T.uniq hk hin hd h))];rw [Yt true (Yg hki)] at hl;simp only [hki,if_false];exact A.here k d hk hl hd
  ·intro k hk hl;by_cases hki:k=i
   ·subst hki;simp only [if_true];exact hR
   ·rw [Yt true (Yg hki)] at hl;simp only [hki,if_false];exact hst k _ w w' hk (A.told k hk hl) hG
end
def jd (P:Program) (ops:Array Oper) (n:Nat) (Q:Exit->Act->World->Prop) (R:Nat->Value->World->Prop) (w0:World) (tl:List Oper):Nat->List Value->List Oper->Act->Prop
 | _,vs,[],a=>∀ w',af w0 w'->(∀ k,k < n->R k (vs.getD k undef) w')->wpList P ops Q tl a w'
 | k,vs,o::l,a=>(∀ w',af w0 w'->(∀ e∈o.after,Region.binds .any e=true->R e.on (vs.getD e.on undef) w')->
   wpList P ops (fun e b w''=>e=.normal/\b.defers=a.defers/\(R k (dS o b) w''/\af w' w'')) [o] a w')/\∀ v,jd P ops n Q R w0 tl (k+1) (vs++[v]) l (a.put o.dst v)
section
variable {P:Program} {ops:Array Oper}
theorem dx (V:Nat->Value) (k j:Nat) (h:j < k):((List.range k).map V).getD j undef=V j:=by
 simp [ZJ,h]
theorem jd.at {n:Nat} {Q:Exit->Act->World->Prop} {R:Nat->Value->World->Prop} {w0:World} {tl:List Oper} (a0:Act) (V:Nat->Value) (l:List Oper):
  ∀ k,(∀ j,j < l.length->l[j]? =ops[k+j]?)->k+l.length=n->jd P ops n Q R w0 tl k ((List.range k).map V) l (cQ ops V a0 k)->
  (∀ j o,k<=j->j < n->ops[j]? =some o->∀ w',af w0 w'->(∀ e∈o.after,Region.binds .any e=true->R e.on (((List.range j).map V).getD e.on undef) w')->
   wpList P ops (fun e b w''=>e=.normal/\b.defers=(cQ ops V a0 j).defers/\(R j (dS o b) w''/\af w' w'')) [o] (cQ ops V a0 j) w')/\
  (∀ w',af w0 w'->(∀ j,j < n->R j (V j) w')->wpList P ops Q tl (cQ ops V a0 n) w'):=by
 induction l with
 | nil=>
  intro k _ hk h;obtain rfl:k=n:=by simpa using hk
  refine ⟨fun j o h1 h2=>by omega,fun w' hG hR=>h w' hG fun j hj=>?_⟩;rw [dx V k j hj];exact hR j hj
 | cons o l ih=>
  intro k hl hk h;have h0:ops[k]? =some o:=by simpa using (hl 0 (by simp)).symm
  have hn:(List.range k).map V++[V k]=(List.range (k+1)).map V:=by rw [List.range_succ,Xz];rfl
  have hp:(cQ ops V a0 k).put o.dst (V k)=cQ ops V a0 (k+1):=by rw [cQ];unfold dB;rw [h0];rfl
  have h2:=h.2 (V k);rw [hn,hp] at h2;have:=ih (k+1) (fun j hj=>by
   have:=hl (j+1) (by simp;omega);simpa [YS,Nat.add_comm 1 j] using this) (by simp only [ZX] at hk;omega) h2
  refine ⟨fun j o' h1 h3 ho=>?_,this.2⟩;by_cases hjk:j=k
  ·subst hjk;obtain rfl:o'=o:=YI (ho.symm.trans h0);exact h.1
  ·exact this.1 j o' (by omega) h3 ho
end
theorem ap {P:Program} {id:Nat} {Q:Exit->Act->World->Prop} {a:Act} {w:World} {l:List Oper} (n m:Nat) (R:Nat->Value->World->Prop) (hm:P.follows .mixedOrders=true) (ha:a.tmps.size=m)
  (hB:Region.toldB .any l.toArray n m=true) (hst:∀ k v w w',k < n->R k v w->af w w'->R k v w')
  (h:jd P l.toArray n Q R w (l.drop n) 0 [] (l.take n) a):(Code.region id l.toArray true).wp P Q a w:=by
 have T:=wM hB;have hn:n < l.length:=by simpa using T.lt
 have htl:(l.take n).length=n:=by simp;omega
 have hdl:(l.drop n).length=l.toArray.size - n:=by simp
 have inv0:HeadInv .any l.toArray n (Array.replicate l.toArray.size false):=
  ⟨by simp,fun j oj _ hl=>absurd hl (by rw [getD_replicate_false];exact XP),fun t _ ht=>getD_in (by simpa using ht) (getD_replicate_false _ _)⟩
 have hun:∀ k,k < n->(Array.replicate l.toArray.size false).getD k true=false:=fun k hk=>getD_in (by simp;omega) (getD_replicate_false _ _)
 have W:=fun V=>jd.at a V (l.take n) 0 (fun j hj=>by
  have hj':j < n:=by rw [htl] at hj;exact hj
  simp [hj']) (by simpa using htl) h
 refine wp_region_any hm ?_;have hleft:left n (Array.replicate l.toArray.size false)=n:=by
  unfold left;rw [List.countP_eq_length.2 fun k hk=>by rw [hun k (Yw.1 hk)];rfl,List.length_range]
 have hG0:af w {w with drawn:=w.drawn+1}:=Below.drew (ZT _ _);have:=zl (P:=P) (md:=.any) (g:=l.toArray.size - n) (R:=R) (a0:=a) (w0:=w) (Q:=Q) T ha hst
  (fun k o hk ho V w' hG hd=>(W V).1 k o (YO _) hk ho w' hG fun e he hb=>by
   rw [dx V k e.on (T.early k o e hk ho he hb)];exact hd e he hb)
  (fun V w' hG hR=>by
   have:=wpAny_of_seq (P:=P) (md:=.any) (Q':=Q) (l.drop n) n _ (cQ l.toArray V a n) w' (fun j=>by simp [Yc]) (by rw [hdl];exact T.tail) ((W V).2 w' hG hR);rwa [hdl] at this) n _ (fun _=>undef) a {w with drawn:=w.drawn+1} hleft inv0
  ⟨rfl,rfl,fun _ _=>rfl,fun k d hk hl=>(by rw [hun k hk] at hl;cases hl),fun k hk hl=>(by rw [hun k hk] at hl;cases hl),hG0⟩
 rw [show n+(l.toArray.size - n)=l.toArray.size by simp;omega] at this;exact this
theorem TN:(∀ l:List Value,[]++l=l)/\(∀ (x:Value) (l m:List Value),x::l++m=x::(l++m))/\(∀ (a:Act) (d:Tmp) (v:Value),a.put (some d) v={a with tmps:=a.tmps.setIfInBounds d v})/\(∀ (a:Act) (v:Value),a.put none v=a)/\(∀ (l:List Value) (i:Nat) (v:Value),l.toArray.setIfInBounds i v=(l.set i v).toArray)/\(∀ (x:Value) (l:List Value) (n:Nat) (v:Value),(x::l).set (n+1) v=x::l.set n v)/\(∀ (x:Value) (l:List Value) (v:Value),(x::l).set 0 v=v::l):=
 ⟨fun _=>rfl,fun _ _ _=>rfl,fun _ _ _=>rfl,fun _ _=>rfl,fun l i v=>List.setIfInBounds_toArray ..,fun _ _ _ _=>rfl,fun _ _ _=>rfl⟩
theorem GD:(∀ (x:Value) (l:List Value) (n:Nat) (d:Value),(x::l).getD (n+1) d=l.getD n d)/\(∀ (x:Value) (l:List Value) (d:Value),(x::l).getD 0 d=x):=⟨fun _ _ _ _=>rfl,fun _ _ _=>rfl⟩
theorem RG {α:Sort _} {x:α} {w:World}:x=x/\af w w:=⟨rfl,af.refl _⟩
theorem CS {a b:ByteArray} {w:World} (h:Hid (a=b)):Value.string a=Value.string b/\af w w:=⟨congrArg Value.string h.out,af.refl _⟩
section
variable {P:Program} {ops:Array Oper} {md:Region.Mode}
structure Told.AtG (ops:Array Oper) (n t:Nat) (G:World->World->Prop) (R:Nat->Value->World->Prop) (a0:Act) (w0:World) (listed:Array Bool) (V:Nat->Value) (a:Act) (w:World):Prop where
 size:a.tmps.size=a0.tmps.size
 defers:a.defers=a0.defers
 other:∀ t,(∀ k,k < n->listed.getD k true=true->dB ops k≠some t)->a.tmps[t]? =a0.tmps[t]?
 here:∀ k d,k < n->listed.getD k true=true->dB ops k=some d->a.tmps[d]? =some (V k)
 told:∀ k,k < n->listed.getD k true=true->R k (V k) w
 grows:G w0 w
 un:listed.getD t true=false->af w0 w
theorem Told.AtG.at {n t:Nat} {G:World->World->Prop} {R:Nat->Value->World->Prop} {a0 a:Act} {w0 w:World} {listed:Array Bool} {V:Nat->Value} (A:Told.AtG ops n t G R a0 w0 listed V a w):Told.At ops n (fun _ _ _=>True) a0 w0 listed V a w0:=⟨A.size,A.defers,A.other,A.here,fun _ _ _=>trivial,af.refl _⟩
theorem w_ {n m g t:Nat} {G:World->World->Prop} {R:Nat->Value->World->Prop} {a0:Act} {w0:World} {Q:Exit->Act->World->Prop} (T:Told md ops n m) (hm:a0.tmps.size=m)
  (hGr:∀ w w' w'',G w w'->af w' w''->G w w'') (hGt:∀ w w' w'',af w w'->G w' w''->G w w'')
  (hst:∀ k v w w',k < n->R k v w->af w w'->R k v w') (hst2:∀ k v w w',k < n->k≠t->R k v w->G w w'->R k v w')
  (hstep:∀ k o,k < n->k≠t->ops[k]? =some o->∀ V w',G w0 w'->(∀ e∈o.after,Region.binds md e=true->R e.on (V e.on) w')->
   wpList P ops (fun e b w''=>e=.normal/\b.defers=(cQ ops V a0 k).defers/\(R k (dS o b) w''/\af w' w'')) [o] (cQ ops V a0 k) w')
  (hturn:∀ o,t < n->ops[t]? =some o->∀ V w',af w0 w'->(∀ e∈o.after,Region.binds md e=true->R e.on (V e.on) w')->
   wpList P ops (fun e b w''=>e=.normal/\b.defers=(cQ ops V a0 t).defers/\(R t (dS o b) w''/\G w' w'')) [o] (cQ ops V a0 t) w')
  (hend:∀ V w',G w0 w'->(∀ k,k < n->R k (V k) w')->wpAny P md ops Q g ((Array.range ops.size).map fun i=>decide (i < n)) (cQ ops V a0 n) w') (f:Nat):
  ∀ (listed:Array Bool) (V:Nat->Value) (a:Act) (w:World),left n listed=f->HeadInv md ops n listed->Told.AtG ops n t G R a0 w0 listed V a w->wpAny P md ops Q (f+g) listed a w:=by
 induction f with
 | zero=>
  intro listed V a w hf inv A;have hl:∀ k,k < n->listed.getD k true=true:=fun k hk=>by
   have:=List.countP_eq_zero.1 hf k (Yw.2 hk);simpa using this
  rw [mf inv hl,T.all hm A.at hl,YF];exact hend V w A.grows fun k hk=>A.told k hk (hl k hk)
 | succ f ih=>
  intro listed V a w hf inv A;obtain ⟨k0,hk0,hun0⟩:∃ k,k < n/\listed.getD k true=false:=by
   have:0 < (List.range n).countP fun i=>!listed.getD i true:=by show 0 < left n listed;omega
   obtain ⟨k,hk,hp⟩:=List.countP_pos_iff.1 this;exact ⟨k,Yw.1 hk,by simpa using hp⟩
  rw [show f+1+g=(f+g)+1 by omega];refine ⟨fun h0=>absurd h0 (T.ready inv k0 k0 rfl hk0 hun0),fun i hi=>?_⟩;have hin:i < n:=XY fun h=>tail_waits T.sink T.chain T.lt inv _ k0 rfl hk0 hun0 i h hi
  obtain ⟨hun,o,ho,hall⟩:=mem_ready.1 hi;have hdst:dB ops i=o.dst:=by unfold dB;rw [ho];rfl
  have hS:=nM (ops:=ops) o (Region.noSelect_spec T.sel i o · · ho) a (cQ ops V a0 i) (T.same hm inv A.at hin hi ho);have hlt:∀ d,o.dst=some d->d < a0.tmps.size:=fun d hd=>by rw [hm];exact T.dst i o d hin ho hd
  have hdep:∀ e∈o.after,Region.binds md e=true->R e.on (V e.on) w:=fun e he hb=>A.told e.on (XW (T.early i o e hin ho he hb) hin) (ql (hall e he hb))
  have hil:i < listed.size:=by rw [inv.size];exact XW hin T.lt
  have hset:(listed.setIfInBounds i true).getD i true=true:=by simp
  have go:∀ (v:Value) (w':World),R i (match o.dst with | some _=>v | none=>undef) w'->(i≠t->af w w')->(i=t->G w w')->wpAny P md ops Q (f+g) (listed.setIfInBounds i true) (a.put o.dst v) w':=by
   intro v w' hR hG1 hG2;have hGG:G w0 w':=by
    by_cases hit:i=t
    ·exact hGt _ _ _ (A.un (by rw [<-hit];exact hun)) (hG2 hit)
    ·exact hGr _ _ _ A.grows (hG1 hit)
   refine ih _ (fun k=>if k=i then (match o.dst with | some _=>v | none=>undef) else V k) _ w' ?_ (inv.set hi hin) ⟨?_,?_,?_,?_,?_,hGG,?_⟩
   ·have:=lD (fun j=>!listed.getD j true) (fun j=>!(listed.setIfInBounds i true).getD j true) i n hin (by simp only [hun];rfl) (by simp only [hset];rfl) (fun j hj=>by simp only [Yt true (Yg hj)]);unfold left at hf ⊢;omega
   ·rw [nj,A.size]
   ·rw [fq,A.defers]
   ·intro t ht;rw [e_ _ _ _ _ (by rw [<-hdst];exact ht i hin hset)];refine A.other t fun k hk hl=>ht k hk ?_
    by_cases hki:i=k
    ·subst hki;exact hset
    ·rw [Yt true hki];exact hl
   ·intro k d hk hl hd;by_cases hki:k=i
    ·subst hki;have hod:o.dst=some d:=by rw [<-hdst];exact hd
     rw [hod,n9 _ _ _ (by rw [A.size];exact hlt d hod)];simp
    ·rw [e_ _ _ _ _ (by rw [<-hdst];exact fun h=>hki (T.uniq hk hin hd h))];rw [Yt true (Yg hki)] at hl;simp only [hki,if_false];exact A.here k d hk hl hd
   ·intro k hk hl;by_cases hki:k=i
    ·subst hki;simp only [if_true];exact hR
    ·rw [Yt true (Yg hki)] at hl;simp only [hki,if_false];by_cases hit:i=t
     ·exact hst2 k _ w w' hk (fun e=>hki (e.trans hit.symm)) (A.told k hk hl) (hG2 hit)
     ·exact hst k _ w w' hk (A.told k hk hl) (hG1 hit)
   ·intro hl;by_cases hit:i=t
    ·rw [<-hit,hset] at hl
     cases hl
    ·rw [Yt true hit] at hl;exact (A.un hl).trans (hG1 hit)
  by_cases hit:i=t
  ·subst hit;have h1:=hturn o hin ho V w (A.un hun) hdep;have h2:=kN (Q:=Q) (i:=i) (a:=a) (X:=fun v w''=>R i v w''/\G w w'') ho hS.1 hS.2 (fun d hd=>by rw [A.size];exact hlt d hd) (fun d hd=>by rw [jq];exact hlt d hd) h1;refine wpOp_mono ?_ h2;rintro a' w' ⟨v,rfl,hR,hG⟩;exact go v w' hR (fun h=>absurd rfl h) (fun _=>hG)
  ·have h1:=hstep i o hin hit ho V w A.grows hdep;have h2:=kN (Q:=Q) (i:=i) (a:=a) (X:=fun v w''=>R i v w''/\af w w'') ho hS.1 hS.2 (fun d hd=>by rw [A.size];exact hlt d hd) (fun d hd=>by rw [jq];exact hlt d hd) h1;refine wpOp_mono ?_ h2;rintro a' w' ⟨v,rfl,hR,hG⟩;exact go v w' hR (fun _=>hG) (fun h=>absurd h hit)
def gL (P:Program) (ops:Array Oper) (n t:Nat) (G:World->World->Prop) (Q:Exit->Act->World->Prop) (R:Nat->Value->World->Prop) (w0:World) (tl:List Oper):Nat->List Value->List Oper->Act->Prop
 | _,vs,[],a=>∀ w',G w0 w'->(∀ k,k < n->R k (vs.getD k undef) w')->wpList P ops Q tl a w'
 | k,vs,o::l,a=>(if k=t then (∀ w',af w0 w'->(∀ e∈o.after,Region.binds .any e=true->R e.on (vs.getD e.on undef) w')->
   wpList P ops (fun e b w''=>e=.normal/\b.defers=a.defers/\(R k (dS o b) w''/\G w' w'')) [o] a w')
   else (∀ w',G w0 w'->(∀ e∈o.after,Region.binds .any e=true->R e.on (vs.getD e.on undef) w')->
   wpList P ops (fun e b w''=>e=.normal/\b.defers=a.defers/\(R k (dS o b) w''/\af w' w'')) [o] a w'))/\∀ v,gL P ops n t G Q R w0 tl (k+1) (vs++[v]) l (a.put o.dst v)
theorem aB {k t:Nat} {A B:Prop} (h:k≠t) (b:B):if k=t then A else B:=by rw [ZO h];exact b
theorem dO {k t:Nat} {A B:Prop} (h:k=t) (a:A):if k=t then A else B:=by rw [ZN h];exact a
theorem gL.at {n t:Nat} {G:World->World->Prop} {Q:Exit->Act->World->Prop} {R:Nat->Value->World->Prop} {w0:World} {tl:List Oper} (a0:Act) (V:Nat->Value) (l:List Oper):
  ∀ k,(∀ j,j < l.length->l[j]? =ops[k+j]?)->k+l.length=n->gL P ops n t G Q R w0 tl k ((List.range k).map V) l (cQ ops V a0 k)->
  (∀ j o,k<=j->j < n->ops[j]? =some o->(if j=t then (∀ w',af w0 w'->(∀ e∈o.after,Region.binds .any e=true->R e.on (((List.range j).map V).getD e.on undef) w')->
   wpList P ops (fun e b w''=>e=.normal/\b.defers=(cQ ops V a0 j).defers/\(R j (dS o b) w''/\G w' w'')) [o] (cQ ops V a0 j) w')
   else (∀ w',G w0 w'->(∀ e∈o.after,Region.binds .any e=true->R e.on (((List.range j).map V).getD e.on undef) w')->
   wpList P ops (fun e b w''=>e=.normal/\b.defers=(cQ ops V a0 j).defers/\(R j (dS o b) w''/\af w' w'')) [o] (cQ ops V a0 j) w')))/\
  (∀ w',G w0 w'->(∀ j,j < n->R j (V j) w')->wpList P ops Q tl (cQ ops V a0 n) w'):=by
 induction l with
 | nil=>
  intro k _ hk h;obtain rfl:k=n:=by simpa using hk
  refine ⟨fun j o h1 h2=>by omega,fun w' hG hR=>h w' hG fun j hj=>?_⟩;rw [dx V k j hj];exact hR j hj
 | cons o l ih=>
  intro k hl hk h;have h0:ops[k]? =some o:=by simpa using (hl 0 (by simp)).symm
  have hn:(List.range k).map V++[V k]=(List.range (k+1)).map V:=by rw [List.range_succ,Xz];rfl
  have hp:(cQ ops V a0 k).put o.dst (V k)=cQ ops V a0 (k+1):=by rw [cQ];unfold dB;rw [h0];rfl
  have h2:=h.2 (V k);rw [hn,hp] at h2;have:=ih (k+1) (fun j hj=>by
   have:=hl (j+1) (by simp;omega);simpa [YS,Nat.add_comm 1 j] using this) (by simp only [ZX] at hk;omega) h2
  refine ⟨fun j o' h1 h3 ho=>?_,this.2⟩;by_cases hjk:j=k
  ·subst hjk;obtain rfl:o'=o:=YI (ho.symm.trans h0);exact h.1
  ·exact this.1 j o' (by omega) h3 ho
end
theorem cW {P:Program} {id:Nat} {Q:Exit->Act->World->Prop} {a:Act} {w:World} {l:List Oper} (n m t:Nat) (G:World->World->Prop) (R:Nat->Value->World->Prop) (hm:P.follows .mixedOrders=true) (ha:a.tmps.size=m)
  (hB:Region.toldB .any l.toArray n m=true)
  (hG0:∀ w,G w w) (hGr:∀ w w' w'',G w w'->af w' w''->G w w'') (hGt:∀ w w' w'',af w w'->G w' w''->G w w'')
  (hst:∀ k v w w',k < n->R k v w->af w w'->R k v w') (hst2:∀ k v w w',k < n->k≠t->R k v w->G w w'->R k v w')
  (h:gL P l.toArray n t G Q R w (l.drop n) 0 [] (l.take n) a):(Code.region id l.toArray true).wp P Q a w:=by
 have T:=wM hB;have hn:n < l.length:=by simpa using T.lt
 have htl:(l.take n).length=n:=by simp;omega
 have hdl:(l.drop n).length=l.toArray.size - n:=by simp
 have inv0:HeadInv .any l.toArray n (Array.replicate l.toArray.size false):=
  ⟨by simp,fun j oj _ hl=>absurd hl (by rw [getD_replicate_false];exact XP),fun t _ ht=>getD_in (by simpa using ht) (getD_replicate_false _ _)⟩
 have hun:∀ k,k < n->(Array.replicate l.toArray.size false).getD k true=false:=fun k hk=>getD_in (by simp;omega) (getD_replicate_false _ _)
 have W:=fun V=>gL.at a V (l.take n) 0 (fun j hj=>by
  have hj':j < n:=by rw [htl] at hj;exact hj
  simp [hj']) (by simpa using htl) h
 refine wp_region_any hm ?_;have hleft:left n (Array.replicate l.toArray.size false)=n:=by
  unfold left;rw [List.countP_eq_length.2 fun k hk=>by rw [hun k (Yw.1 hk)];rfl,List.length_range]
 have hG1:af w {w with drawn:=w.drawn+1}:=Below.drew (ZT _ _);have:=w_ (P:=P) (md:=.any) (g:=l.toArray.size - n) (t:=t) (G:=G) (R:=R) (a0:=a) (w0:=w) (Q:=Q) T ha hGr hGt hst hst2
  (fun k o hk hkt ho V w' hG hd=>by
   have h9:=(W V).1 k o (YO _) hk ho;rw [ZO hkt] at h9;exact h9 w' hG fun e he hb=>by
    rw [dx V k e.on (T.early k o e hk ho he hb)];exact hd e he hb)
  (fun o hk ho V w' hG hd=>by
   have h9:=(W V).1 t o (YO _) hk ho;rw [ZN rfl] at h9;exact h9 w' hG fun e he hb=>by
    rw [dx V t e.on (T.early t o e hk ho he hb)];exact hd e he hb)
  (fun V w' hG hR=>by
   have:=wpAny_of_seq (P:=P) (md:=.any) (Q':=Q) (l.drop n) n _ (cQ l.toArray V a n) w' (fun j=>by simp [Yc]) (by rw [hdl];exact T.tail) ((W V).2 w' hG hR);rwa [hdl] at this) n _ (fun _=>undef) a {w with drawn:=w.drawn+1} hleft inv0
  ⟨rfl,rfl,fun _ _=>rfl,fun k d hk hl=>(by rw [hun k hk] at hl;cases hl),fun k hk hl=>(by rw [hun k hk] at hl;cases hl),hGr _ _ _ (hG0 _) hG1,fun _=>hG1⟩
 rw [show n+(l.toArray.size - n)=l.toArray.size by simp;omega] at this;exact this
def Ek (z kb:Nat) (t:TypeId) (cs:Array Value) (l:List Value) (k:Nat) (v:Value) (w:World):Prop:=
 if k=kb then ∃ g,v=.pointer (some ⟨g,0,none⟩)/\z<=g/\w.heap[g]? =some (.cells cs t (0,0)) else v=l.getD k undef
theorem nO {z kb:Nat} {t:TypeId} {cs:Array Value} {l:List Value} {n:Nat} (k:Nat) (v:Value) (w w':World) (_:k < n) (h:Ek z kb t cs l k v w) (hg:af w w'):Ek z kb t cs l k v w':=by
 unfold Ek at h ⊢;by_cases hk:k=kb
 ·rw [ZN hk] at h ⊢;obtain ⟨g,e,hz,hb⟩:=h;exact ⟨g,e,hz,(hg.block g (ZG.1 hb).1).trans hb⟩
 ·rw [ZO hk] at h ⊢;exact h
section
variable {P:Program} {ops:Array Oper} {md:Region.Mode}
theorem Bz {l:List Oper} (h:(l.all fun o=>match o.op with | .defer _=>false | _=>true)=true):∀ (k:Nat) o,l.toArray[k]? =some o->∀ c,o.op≠.defer c:=by
 intro k o ho c e;have hm:o∈l:=by
  have:l[k]? =some o:=by simpa using ho
  exact YG this
 have:=List.all_eq_true.1 h o hm;rw [e] at this
 cases this
theorem om {F:Fence} {Q':Exit->Act->World->Prop}:∀ (l:List Oper) (k:Nat) (listed:Array Bool) (a:Act) (w:World),(∀ j,l[j]? =ops[k+j]?)->
  Region.seqB md ops l.length k listed=true->wpListIn F 0 P ops Q' l a w->wpAnyIn F 0 P md ops Q' l.length listed a w
 | [],_,_,_,_,_,hB,h=>⟨by simpa [Region.seqB] using hB,h⟩
 | o::l,k,listed,a,w,hl,hB,h=>by
  have h0:ops[k]? =some o:=by simpa using (hl 0).symm
  simp only [ZX,Region.seqB,Zr,Zh] at hB;refine ⟨fun h1=>(by rw [hB.1] at h1;cases h1),fun i hi=>?_⟩;rw [hB.1] at hi;have hik:i=k:=by simpa using hi
  subst hik;have hw:wpOpIn F 0 P ops Q' i (wpListIn F 0 P ops Q' l) a w:=by unfold wpOpIn;simp only [h0];exact h
  exact wpOpIn_mono (fun a' w' h'=>om l (i+1) _ a' w' (fun j=>by have:=hl (j+1);simpa [YS,Nat.add_comm 1 j] using this) hB.2 h') hw
theorem zk {F:Fence} (hF:∀ f,F.fn f) {Q:Exit->Act->World->Prop} {i:Nat} {o:Oper} (hD:∀ c,o.op≠.defer c) {a b:Act} {w:World} {X:Value->World->Prop} (hi:ops[i]? =some o) (he:execOp a.eval o=execOp b.eval o)
  (hw:Region.wanted o (yielded ops a.tmps)=Region.wanted o (yielded ops b.tmps)) (ha:∀ d,o.dst=some d->d < a.tmps.size) (hb:∀ d,o.dst=some d->d < b.tmps.size)
  (h:wpListIn F 0 P ops (fun e b' w'=>e=.normal/\b'.defers=b.defers/\X (dS o b') w') [o] b w):
  wpOpIn F 0 P ops Q i (fun a' w'=>∃ v,a'=a.put o.dst v/\X (match o.dst with | some _=>v | none=>undef) w') a w:=by
 have out:∀ u w',X (dS o (b.put o.dst u)) w'->∃ v,a.put o.dst u=a.put o.dst v/\X (match o.dst with | some _=>v | none=>undef) w':=fun u w' hx=>⟨u,rfl,by rw [rL o b u hb] at hx;exact hx⟩
 unfold wpOpIn;simp only [hi,wpListIn] at h ⊢;rw [hw];split
 ·rename_i hq
  simp only [hq,if_true] at h;unfold Oper.wpIn at*;refine ⟨fun f _=>hF f,?_⟩;have h:=h.2;rw [Oper.semAt_eq _ _ _ hD] at h ⊢;rw [he];generalize (execOp b.eval o).run P w=r at*
  cases r with
  | ok nx w'=>
   cases nx <;> simp only [Oper.uponIn] at h ⊢
   case value u=>exact out _ _ h.2.2
   case skip=>exact out _ _ h.2.2
   case defer d=>
    have h2:=congrArg List.length h.2.1;simp [fq] at h2
   case enter f args=>
    refine ⟨h.1,CallsIn.mono h.2 fun e w'' he=>?_⟩
    cases e with
    | returned u=>exact out _ _ he.2.2
    | panicked c=>cases he.1
    | outgrown=>
     obtain ⟨_,_,hx,_⟩:=he
     cases hx
   case row row args=>exact ⟨h.1,RowsIn.mono h.2 fun u w'' he=>out _ _ he.2.2⟩
   case round l f tmps assign body=>
    refine ⟨h.1,RoundIn.mono h.2 fun e w'' he=>?_⟩
    cases e with
    | returned u=>exact out _ _ he.2.2
    | panicked c=>cases he.1
    | outgrown=>
     obtain ⟨_,_,hx,_⟩:=he
     cases hx
  | halt x w'=>
   cases x <;> simp only [Oper.uponIn] at h ⊢
   case panic u=>cases h.1
 ·rename_i hq
  simp only [hq] at h;exact ⟨fun f _=>hF f,out _ _ h.2.2.2⟩
theorem Dv {F:Fence} {n m g:Nat} (hF:∀ f,F.fn f) (hD:∀ (k:Nat) (o:Oper),ops[k]? =some o->∀ c,o.op≠.defer c) {R:Nat->Value->World->Prop} {a0:Act} {w0:World} {Q:Exit->Act->World->Prop} (T:Told md ops n m) (hm:a0.tmps.size=m)
  (hst:∀ k v w w',k < n->R k v w->af w w'->R k v w')
  (hstep:∀ k o,k < n->ops[k]? =some o->∀ V w',af w0 w'->(∀ e∈o.after,Region.binds md e=true->R e.on (V e.on) w')->
   wpListIn F 0 P ops (fun e b w''=>e=.normal/\b.defers=(cQ ops V a0 k).defers/\(R k (dS o b) w''/\af w' w'')) [o] (cQ ops V a0 k) w')
  (hend:∀ V w',af w0 w'->(∀ k,k < n->R k (V k) w')->wpAnyIn F 0 P md ops Q g ((Array.range ops.size).map fun i=>decide (i < n)) (cQ ops V a0 n) w') (f:Nat):
  ∀ (listed:Array Bool) (V:Nat->Value) (a:Act) (w:World),left n listed=f->HeadInv md ops n listed->Told.At ops n R a0 w0 listed V a w->wpAnyIn F 0 P md ops Q (f+g) listed a w:=by
 induction f with
 | zero=>
  intro listed V a w hf inv A;have hl:∀ k,k < n->listed.getD k true=true:=fun k hk=>by
   have:=List.countP_eq_zero.1 hf k (Yw.2 hk);simpa using this
  rw [mf inv hl,T.all hm A hl,YF];exact hend V w A.grows fun k hk=>A.told k hk (hl k hk)
 | succ f ih=>
  intro listed V a w hf inv A;obtain ⟨k0,hk0,hun0⟩:∃ k,k < n/\listed.getD k true=false:=by
   have:0 < (List.range n).countP fun i=>!listed.getD i true:=by show 0 < left n listed;omega
   obtain ⟨k,hk,hp⟩:=List.countP_pos_iff.1 this;exact ⟨k,Yw.1 hk,by simpa using hp⟩
  rw [show f+1+g=(f+g)+1 by omega];refine ⟨fun h0=>absurd h0 (T.ready inv k0 k0 rfl hk0 hun0),fun i hi=>?_⟩;have hin:i < n:=XY fun h=>tail_waits T.sink T.chain T.lt inv _ k0 rfl hk0 hun0 i h hi
  obtain ⟨hun,o,ho,hall⟩:=mem_ready.1 hi;have hdst:dB ops i=o.dst:=by unfold dB;rw [ho];rfl
  have hS:=nM (ops:=ops) o (Region.noSelect_spec T.sel i o · · ho) a (cQ ops V a0 i) (T.same hm inv A hin hi ho);have hlt:∀ d,o.dst=some d->d < a0.tmps.size:=fun d hd=>by rw [hm];exact T.dst i o d hin ho hd
  have h1:=hstep i o hin ho V w A.grows fun e he hb=>A.told e.on (XW (T.early i o e hin ho he hb) hin) (ql (hall e he hb))
  have h2:=zk hF (hD _ _ ho) (Q:=Q) (i:=i) (a:=a) (X:=fun v w''=>R i v w''/\af w w'') ho hS.1 hS.2 (fun d hd=>by rw [A.size];exact hlt d hd) (fun d hd=>by rw [jq];exact hlt d hd) h1;refine wpOpIn_mono ?_ h2;rintro a' w' ⟨v,rfl,hR,hG⟩;have hil:i < listed.size:=by rw [inv.size];exact XW hin T.lt
  have hset:(listed.setIfInBounds i true).getD i true=true:=by simp
  refine ih _ (fun k=>if k=i then (match o.dst with | some _=>v | none=>undef) else V k) _ w' ?_ (inv.set hi hin) ⟨?_,?_,?_,?_,?_,A.grows.trans hG⟩
  ·have:=lD (fun j=>!listed.getD j true) (fun j=>!(listed.setIfInBounds i true).getD j true) i n hin (by simp only [hun];rfl) (by simp only [hset];rfl) (fun j hj=>by simp only [Yt true (Yg hj)]);unfold left at hf ⊢;omega
  ·rw [nj,A.size]
  ·rw [fq,A.defers]
  ·intro t ht;rw [e_ _ _ _ _ (by rw [<-hdst];exact ht i hin hset)];refine A.other t fun k hk hl=>ht k hk ?_
   by_cases hki:i=k
   ·subst hki;exact hset
   ·rw [Yt true hki];exact hl
  ·intro k d hk hl hd;by_cases hki:k=i
   ·subst hki;have hod:o.dst=some d:=by rw [<-hdst];exact hd
    rw [hod,n9 _ _ _ (by rw [A.size];exact hlt d hod)];simp
   ·rw [e_ _ _ _ _ (by rw [<-hdst];exact fun h=>hki (T.uniq hk hin hd h))];rw [Yt true (Yg hki)] at hl;simp only [hki,if_false];exact A.here k d hk hl hd
  ·intro k hk hl;by_cases hki:k=i
   ·subst hki;simp only [if_true];exact hR
   ·rw [Yt true (Yg hki)] at hl;simp only [hki,if_false];exact hst k _ w w' hk (A.told k hk hl) hG
end
def lO (F:Fence) (P:Program) (ops:Array Oper) (n:Nat) (Q:Exit->Act->World->Prop) (R:Nat->Value->World->Prop) (w0:World) (tl:List Oper):Nat->List Value->List Oper->Act->Prop
 | _,vs,[],a=>∀ w',af w0 w'->(∀ k,k < n->R k (vs.getD k undef) w')->wpListIn F 0 P ops Q tl a w'
 | k,vs,o::l,a=>(∀ w',af w0 w'->(∀ e∈o.after,Region.binds .any e=true->R e.on (vs.getD e.on undef) w')->
   wpListIn F 0 P ops (fun e b w''=>e=.normal/\b.defers=a.defers/\(R k (dS o b) w''/\af w' w'')) [o] a w')/\∀ v,lO F P ops n Q R w0 tl (k+1) (vs++[v]) l (a.put o.dst v)
section
variable {P:Program} {ops:Array Oper}
theorem lO.at {F:Fence} {n:Nat} {Q:Exit->Act->World->Prop} {R:Nat->Value->World->Prop} {w0:World} {tl:List Oper} (a0:Act) (V:Nat->Value) (l:List Oper):
  ∀ k,(∀ j,j < l.length->l[j]? =ops[k+j]?)->k+l.length=n->lO F P ops n Q R w0 tl k ((List.range k).map V) l (cQ ops V a0 k)->
  (∀ j o,k<=j->j < n->ops[j]? =some o->∀ w',af w0 w'->(∀ e∈o.after,Region.binds .any e=true->R e.on (((List.range j).map V).getD e.on undef) w')->
   wpListIn F 0 P ops (fun e b w''=>e=.normal/\b.defers=(cQ ops V a0 j).defers/\(R j (dS o b) w''/\af w' w'')) [o] (cQ ops V a0 j) w')/\
  (∀ w',af w0 w'->(∀ j,j < n->R j (V j) w')->wpListIn F 0 P ops Q tl (cQ ops V a0 n) w'):=by
 induction l with
 | nil=>
  intro k _ hk h;obtain rfl:k=n:=by simpa using hk
  refine ⟨fun j o h1 h2=>by omega,fun w' hG hR=>h w' hG fun j hj=>?_⟩;rw [dx V k j hj];exact hR j hj
 | cons o l ih=>
  intro k hl hk h;have h0:ops[k]? =some o:=by simpa using (hl 0 (by simp)).symm
  have hn:(List.range k).map V++[V k]=(List.range (k+1)).map V:=by rw [List.range_succ,Xz];rfl
  have hp:(cQ ops V a0 k).put o.dst (V k)=cQ ops V a0 (k+1):=by rw [cQ];unfold dB;rw [h0];rfl
  have h2:=h.2 (V k);rw [hn,hp] at h2;have:=ih (k+1) (fun j hj=>by
   have:=hl (j+1) (by simp;omega);simpa [YS,Nat.add_comm 1 j] using this) (by simp only [ZX] at hk;omega) h2
  refine ⟨fun j o' h1 h3 ho=>?_,this.2⟩;by_cases hjk:j=k
  ·subst hjk;obtain rfl:o'=o:=YI (ho.symm.trans h0);exact h.1
  ·exact this.1 j o' (by omega) h3 ho
end
theorem qN {F:Fence} (hF:∀ f,F.fn f) {P:Program} {id:Nat} {Q:Exit->Act->World->Prop} {a:Act} {w:World} {l:List Oper} (n m:Nat) (R:Nat->Value->World->Prop) (hm:P.follows .mixedOrders=true) (ha:a.tmps.size=m)
  (hB:Region.toldB .any l.toArray n m=true) (hD:(l.all fun o=>match o.op with | .defer _=>false | _=>true)=true) (hst:∀ k v w w',k < n->R k v w->af w w'->R k v w')
  (h:lO F P l.toArray n Q R w (l.drop n) 0 [] (l.take n) a):(Code.region id l.toArray true).wpIn F 0 P Q a w:=by
 have T:=wM hB;have hn:n < l.length:=by simpa using T.lt
 have htl:(l.take n).length=n:=by simp;omega
 have hdl:(l.drop n).length=l.toArray.size - n:=by simp
 have inv0:HeadInv .any l.toArray n (Array.replicate l.toArray.size false):=
  ⟨by simp,fun j oj _ hl=>absurd hl (by rw [getD_replicate_false];exact XP),fun t _ ht=>getD_in (by simpa using ht) (getD_replicate_false _ _)⟩
 have hun:∀ k,k < n->(Array.replicate l.toArray.size false).getD k true=false:=fun k hk=>getD_in (by simp;omega) (getD_replicate_false _ _)
 have W:=fun V=>lO.at a V (l.take n) 0 (fun j hj=>by
  have hj':j < n:=by rw [htl] at hj;exact hj
  simp [hj']) (by simpa using htl) h
 refine wpIn_region_any hm ?_;have hleft:left n (Array.replicate l.toArray.size false)=n:=by
  unfold left;rw [List.countP_eq_length.2 fun k hk=>by rw [hun k (Yw.1 hk)];rfl,List.length_range]
 have hG0:af w {w with drawn:=w.drawn+1}:=Below.drew (ZT _ _);have:=Dv (F:=F) (P:=P) hF (Bz hD) (md:=.any) (g:=l.toArray.size - n) (R:=R) (a0:=a) (w0:=w) (Q:=Q) T ha hst
  (fun k o hk ho V w' hG hd=>(W V).1 k o (YO _) hk ho w' hG fun e he hb=>by
   rw [dx V k e.on (T.early k o e hk ho he hb)];exact hd e he hb)
  (fun V w' hG hR=>by
   have:=om (F:=F) (P:=P) (md:=.any) (Q':=Q) (l.drop n) n _ (cQ l.toArray V a n) w' (fun j=>by simp [Yc]) (by rw [hdl];exact T.tail) ((W V).2 w' hG hR);rwa [hdl] at this) n _ (fun _=>undef) a {w with drawn:=w.drawn+1} hleft inv0
  ⟨rfl,rfl,fun _ _=>rfl,fun k d hk hl=>(by rw [hun k hk] at hl;cases hl),fun k hk hl=>(by rw [hun k hk] at hl;cases hl),hG0⟩
 rw [show n+(l.toArray.size - n)=l.toArray.size by simp;omega] at this;exact this
end Go.Proofs.YtbklfkpjoinofaaGreatDoor
