import Derived.Test.YtbklfkpjoinofaaGreatDoorA19
set_option linter.all false
set_option maxRecDepth 100000
set_option maxHeartbeats 8000000
namespace Go.Proofs.YtbklfkpjoinofaaGreatDoor
open Go.RowKit Go.Proofs.Tryz
theorem aj {w:World} {b i:Nat} {cs:Array Value} {t:TypeId} {fr:Nat×Nat} (h:w.heap[b]? =some (.cells cs t fr)):w.cell? (zq b i)=cs[i]? :=by
 simp [World.cell?,h]
theorem cD {w:World} {b i:Nat} {cs:Array Value} {t:TypeId} (h:w.heap[b]? =some (.cells cs t (0,0))):w.frozen? (zq b i)=false:=by
 simp [World.frozen?,h]
theorem setRow_other (w:World) (g k:Nat) (cs:Array Value) (h:k≠g):(w.setRow g cs).heap[k]? =w.heap[k]? :=by
 simp [World.setRow,Array.getElem?_modify,Yg h]
def bj.val (o:bj):Value:=.agg #[o.k,o.a,o.b,o.c,o.d,o.e,o.co,o.ro,o.s]
def k_:List bj->List Value
 | []=>[]
 | o::r=>.int .i64 o.k::.int .i64 o.a::.int .i64 o.b::.int .i64 o.c::.int .i64 o.d::.int .i64 o.e::.int .i64 o.co::.int .i64 o.ro::.string o.s::k_ r
theorem qG (l:List bj) (o:bj):k_ (l++[o])=k_ l++[.int .i64 o.k,.int .i64 o.a,.int .i64 o.b,.int .i64 o.c,.int .i64 o.d,.int .i64 o.e,.int .i64 o.co,.int .i64 o.ro,.string o.s]:=by
 induction l with
 | nil=>rfl
 | cons a r ih=>simp only [ZE,k_,ih]
theorem Tryz.infoOp:(Tryz.prog.info? 31).map (fun i=>(i.zero,i.size,i.bytes))=some (some (.agg #[oz,oz,oz,oz,oz,oz,oz,oz,.string ⟨#[]⟩]),9,80):=by kernel_rfl
theorem nE (l:List bj):l.length<=(bE l).length:=by
 induction l with
 | nil=>simp [bE]
 | cons o r ih=>
  have:0 < o.text.length:=List.length_pos_iff.mpr o.text_ne;simp only [bE,ZY,ZX];omega
theorem Ew (l m:List bj):bE (l++m)=bE l++bE m:=by
 induction l with
 | nil=>rfl
 | cons o r ih=>simp only [ZE,bE,ih,ZS]
