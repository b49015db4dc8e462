import Derived.Test.YtbklfkpjoinofaaGreatDoorA14
import Derived.Deep.Onto
set_option linter.all false
set_option maxRecDepth 100000
set_option maxHeartbeats 8000000
namespace Go.Proofs.YtbklfkpjoinofaaGreatDoor
open Go.RowKit Go.Proofs.Tryz
theorem cU {B:Nat} {w w':World} {n:Nat} (h:Below B w w'):Below B w (w'.drewN n):=⟨h.os,h.tape,h.output,h.size,h.block⟩
theorem aj {w:World} {b i:Nat} {cs:Array Value} {t:TypeId} {fr:Nat×Nat} (h:w.heap[b]? =some (.cells cs t fr)):w.cell? (zq b i)=cs[i]? :=by
 simp [World.cell?,h]
theorem cD {w:World} {b i:Nat} {cs:Array Value} {t:TypeId} (h:w.heap[b]? =some (.cells cs t (0,0))):w.frozen? (zq b i)=false:=by
 simp [World.frozen?,h]
theorem setRow_other (w:World) (g k:Nat) (cs:Array Value) (h:k≠g):(w.setRow g cs).heap[k]? =w.heap[k]? :=by
 simp [World.setRow,Array.getElem?_modify,Yg h]
def bj.val (o:bj):Value:=.agg #[o.k,o.a,o.b,o.c,o.d,o.e,o.co,o.ro,o.s]
def k_:List bj->List Value
 | []=>[]
 | o::r=>.int .i64 o.k::.int .i64 o.a::.int .i64 o.b::.int .i64 o.c::.int .i64 o.d::.int .i64 o.e::.int .i64 o.co::.int .i64 o.ro::.string o.s::k_ r
theorem qG (l:List bj) (o:bj):k_ (l++[o])=k_ l++[.int .i64 o.k,.int .i64 o.a,.int .i64 o.b,.int .i64 o.c,.int .i64 o.d,.int .i64 o.e,.int .i64 o.co,.int .i64 o.ro,.string o.s]:=by
 induction l with
 | nil=>rfl
 | cons a r ih=>simp only [ZE,k_,ih]
theorem Tryz.infoOp:(Tryz.prog.info? 31).map (fun i=>(i.zero,i.size,i.bytes))=some (some (.agg #[oz,oz,oz,oz,oz,oz,oz,oz,.string ⟨#[]⟩]),9,80):=by kernel_rfl
theorem nE (l:List bj):l.length<=(bE l).length:=by
 induction l with
 | nil=>simp [bE]
 | cons o r ih=>
  have:0 < o.text.length:=List.length_pos_iff.mpr o.text_ne;simp only [bE,ZY,ZX];omega
theorem Ew (l m:List bj):bE (l++m)=bE l++bE m:=by
 induction l with
 | nil=>rfl
 | cons o r ih=>simp only [ZE,bE,ih,ZS]
def BJ:As:=fun _ S=>S=fun _=>False
theorem BJ.thing (B:Nat):aJ B BJ where
 keep:=by rintro w w' S h _ _;exact h
 lt:=by rintro w S k rfl hk;exact hk.elim
 ge:=by rintro w S k rfl hk;exact hk.elim
def dh (B:Nat):List (Value×List bj)->As
 | []=>BJ
 | x::l=>ah (dh B l) (aW B 31 9 x.1 x.2.length (k_ x.2))
theorem dh.thing (B:Nat):∀ l,aJ B (dh B l)
 | []=>BJ.thing B
 | _::l=>ah.thing (dh.thing B l) (aW.thing _ _ _ _ _ _)
theorem Am {w:World} {base:Nat} {e:TypeId} {z n g cap:Nat} {xs:List Value} (h:w.ownsRow base e z (.slice g n cap) n xs) (j:Nat) (v:Value):(w.setCell (zq g j) v).ownsRow base e z (.slice g n cap) n (xs.set j v):=by
 obtain ⟨hl,h⟩:=h;refine ⟨by rw [List.length_set];exact hl,?_⟩;rcases h with ⟨h,_⟩ | ⟨g',cap',cur,hv,hb,hg,h1,h2,h3,h4⟩
 ·cases h
 ·cases hv
  refine .inr ⟨g,cap,cur.setIfInBounds j v,rfl,hb,heap_setCell_same w g j cur e v hg,h1,h2,by simpa using h3,?_⟩;rw [Array.toList_setIfInBounds,List.take_set,h4]
theorem aW.put {B:Nat} {e:TypeId} {z n g cap:Nat} {xs:List Value} {w:World} {S:Bl} (h:aW B e z (.slice g n cap) n xs w S) (j:Nat) (v:Value):aW B e z (.slice g n cap) n (xs.set j v) (w.setCell (zq g j) v) S/\Mv S w S (w.setCell (zq g j) v):=by
 obtain ⟨rfl,ow⟩:=h;refine ⟨⟨rfl,Am ow j v⟩,⟨⟨rfl,rfl,rfl,by simp [World.setCell],fun k _ hk=>YX _ _ _ _ (fun e=>hk ?_)⟩,fun k e=>.inl e⟩⟩;subst e;rfl
theorem aW.cellAt {B:Nat} {e:TypeId} {z n g cap:Nat} {xs:List Value} {w:World} {S:Bl} (h:aW B e z (.slice g n cap) n xs w S) (j:Nat) (hj:j < xs.length):(∃ o,w.cell? (zq g j)=some o)/\w.frozen? (zq g j)=false:=by
 obtain ⟨rfl,hl,h⟩:=h;rcases h with ⟨h,_⟩ | ⟨g',cap',cur,hv,hb,hg,h1,h2,h3,h4⟩
 ·cases h
 ·cases hv
  obtain ⟨x,hx⟩:∃ x,xs[j]? =some x:=⟨xs[j],ZM hj⟩;refine ⟨⟨x,?_⟩,cD hg⟩;rw [aj hg, <-Array.getElem?_toList];rw [<-h4,List.getElem?_take] at hx;split at hx
  ·exact hx
  ·cases hx
end Go.Proofs.YtbklfkpjoinofaaGreatDoor
