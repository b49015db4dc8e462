import Derived.Test.YtbklfkpjoinofaaGreatDoorCards
import Derived.Test.YtbklfkpjoinofaaGreatDoorTie
import Derived.Test.YtbklfkpjoinofaaGreatDoorA48
import Derived.Test.YtbklfkpjoinofaaGreatDoorA49
import Derived.OpenShut
import Derived.Deep.DeepHandedRow
import Derived.Stop.LaidErr
set_option linter.all false
set_option maxRecDepth 100000
set_option maxHeartbeats 8000000
namespace Go.Proofs.YtbklfkpjoinofaaGreatDoor
open Go.RowKit Go.Proofs.Tryz
section
open Go.ChangeShapes Go.WideShapes Go.ChangeAt Go.RowKit
theorem Wz.own:ownKnob Tryz.prog.godebug=none:=by kernel_rfl
theorem Wz.laidOut:laidOutB prog=true:=by kernel_rfl
theorem Wz.g0:Tryz.prog.globalNamed "internal/strconv.uint64pow10"=some 0:=by kernel_rfl
theorem Wz.g0t:(Tryz.prog.globals[0]?).map (·.type)=some 302:=by kernel_rfl
theorem Wz.c20:Tryz.prog.cellsOf 302=20:=by kernel_rfl
theorem Wz.c1:Tryz.prog.cellsOf 280=1:=by kernel_rfl
theorem Wz.tab {W:World} (h:laidMetH prog Rows.writesRow.laid W):bU W.heap.size W:=by
 rw [MakeChecks.laidMetH_plain prog Rows.writesRow.laid W (by kernel_rfl)] at h;exact Lib.tabBelow_of_tabIs (Lib.tabIs_of_head Wz.g0 Wz.g0t underlying302 underlying280 Wz.c1 Wz.c20 (laidMet.tail (laidMet.tail h)))
theorem lO (H:Type) (enc:TypeId×Value->H) (W:World) (base:Nat) (args:Array Value) (ds gs:List (DataW H)) (before:List MemPlace)
  (hval:∀ (j:Nat) t v,Tryz.f3.params[j]? =some t->args[j]? =some v->Value.okWide prog W .any base t v)
  (hW:DataW.Whole enc prog Tryz.f3.params.toList Rows.writesSpec.vars false W args.toList ds gs before) (hL:laidMetH prog Rows.writesRow.laid W):
  CP 3 args W fun e W'=>∃ v,e=.returned v/\Rows.writesSpec.post enc prog Tryz.f3 false true false false W args v W':=by
 have hW':=hW;obtain ⟨p,q,hA0,hV,rfl,_,_⟩:=hW;have hA:DataW.TrodAll enc prog W 0 (fun _=>true) true Tryz.f3.params.toList args.toList ds p:=hA0;rw [Tryz.params3] at hA hval;obtain ⟨v0,d0,rfl,rfl,h0⟩:=trodAll_one hA;obtain ⟨rfl,rfl⟩:=trodVars_none hV;obtain ⟨a0,len,cap,rfl⟩:=okWide_slice underlying22 (hval 0 22 v0 rfl rfl);have h0k:=h0;obtain ⟨fuel,hf⟩:=h0;clear hA0;simp only [Zm] at hW';have hlt:∀ x∈p,x.block < W.heap.size:=fun x hx=>by simpa using hW'.lt x hx
 obtain ⟨b,off,sc,hm,ha,hOn,hsz,hsc⟩:=ra hf;refine (sp W.heap.size W a0 len cap b off sc hm ha hOn hsz (ZX _) (Wz.tab hL) hsc).mono fun e W' ⟨he,hn⟩=>?_
 subst he;refine ⟨_,rfl,_,_,_,[],p,[],hW',?_,?_,rfl,hn.frame _,fun h=>by cases h⟩
 ·exact trodAll_mk1 (shut_bool underlying4 true)
 ·exact trodAll_mk1 (Below.trod Wz.laidOut (by kernel_rfl) (of_decide_eq_true (by kernel_rfl)) h0k hn hlt)
def Wz.one:DataW Unit->List Value
 | .lit (.int k n)=>[.int k n]
 | .agg l=>l.flatMap fun
  | .lit (.int k n)=>[.int k n]
  | _=>[]
 | _=>[]
def Wz.cs:DataW Unit->Array Value
 | .agg l=>(l.flatMap Wz.one).toArray
 | _=>#[]
def Wz.lay (d:DataW Unit):Obj->Obj
 | .cells _ t fr=>.cells (Wz.cs d) t fr
 | o=>o
noncomputable def Wz.world (os:Os):World:=
 {World.holding prog os ⟨#[],#[],[]⟩ with heap:=(((((World.holding prog os ⟨#[],#[],[]⟩).heap.modify 0 (Wz.lay Rows.laid_internal_strconv_uint64pow10)).modify 4 (Wz.lay Rows.laid_math_bits_deBruijn32tab)).modify 5 (Wz.lay Rows.laid_math_bits_deBruijn64tab)).modify 6 (Wz.lay Rows.laid_unicode_utf8_first)).modify 7 (Wz.lay Rows.laid_unicode_utf8_acceptRanges)}
theorem Wz.met (os:Os):laidMet prog Rows.writesRow.laid ((Wz.world os).forCall (fun _ _=>0) ⟨#[],#[.slice none 0 0],[]⟩).memory:=
 laidMet_of_run' 8 (by kernel_rfl) (by kernel_rfl)
theorem Wz.reads (os:Os) {H:Type} (enc:TypeId×Value->H):∃ places,DataW.whole enc prog ((Wz.world os).forCall (fun _ _=>0) ⟨#[],#[.slice none 0 0],[]⟩).memory Tryz.f3.params.toList Rows.writesSpec.vars false #[Value.slice none 0 0].toList 8=some ([.nil],[],places):=
 ⟨[],by kernel_rfl⟩
theorem oI (os:Os) (started:os.Started) (H:Type) (enc:TypeId×Value->H) (F:Stop.Interp):
  ReturnsInHanded {} Tryz.checked os 3 .any ((OpenSpec.ofChange Rows.writesSpec).preRow enc prog Tryz.f3 Rows.writesRow.domain false Rows.writesRow.laid) (((OpenSpec.ofChange Rows.writesSpec).at F).post enc prog Tryz.f3 false true false false):=by
 obtain ⟨places,hx⟩:=Wz.reads os enc;refine returnsInHanded_of_row (C:=Tryz.checked) (s:=OpenSpec.ofChange Rows.writesSpec) Wz.own started (by kernel_rfl) func3
  (witness_row_at (enc:=enc) (C:=Tryz.checked) false (Wz.world os) #[.slice none 0 0] rfl (by kernel_rfl) (by kernel_rfl) (by kernel_rfl)
   (OpenSpec.preRow_of_cond 8 hx (by kernel_rfl) (fun k hk=>by cases hk) (by kernel_rfl) (Wz.met os))) ?_
 intro W base args ds gs before hval hW _ _ _ hL _ _;exact lO H enc W base args ds gs before hval hW hL
theorem sd:Rows.WritesSaid:=
 OpenClaim.holds_of_cond 3 Tryz.f3 rfl rfl rfl rfl rfl rfl rfl ⟨rfl,rfl,rfl,rfl,rfl⟩ rfl rfl rfl rfl rfl (by kernel_rfl) func3 Wz.facts
  (of_decide_eq_true (by kernel_rfl)) (by unfold Func.isWrapper;first | (rw [ZO (by decide+kernel)];kernel_rfl) | (rw [ZU (by decide+kernel)];exact ⟨rfl,rfl⟩))
  (fun os started H enc _ F=>by rw [OpenClaim.pre_eq_preRow];exact oI os started H enc F)
theorem qv (f:FuncId) (fn:Func) (hf:Tryz.pinned.checked.prog.funcNamed "press/presslaw.Writes"=some f) (hfn:Tryz.pinned.checked.prog.funcs[f]? =some fn):
  true=Tryz.pinned.checked.prog.looks []/\∀ (j:Nat) t,fn.params[j]? =some t->Tryz.pinned.checked.prog.wantsStandIn t=false:=by
 obtain rfl:f=3:=Zd ((show Tryz.prog.funcNamed "press/presslaw.Writes"=some 3 by kernel_rfl).symm.trans hf) |>.symm;obtain rfl:fn=Tryz.f3:=(Zd (Tryz.func3.symm.trans hfn)).symm;refine ⟨by kernel_rfl,fun j t ht=>?_⟩;rw [Tryz.params3] at ht;obtain rfl:t=22:=by simpa using Array.mem_of_getElem? ht
 exact (show Tryz.prog.wantsStandIn 22=false by kernel_rfl)
theorem writes_card:Rows.WritesCardSaid:=
 Claim7.holds_tied_plain_at .later [] _ _ _ _ sd (fun _ h=>by cases h) (by kernel_rfl) (fun _ h=>by cases h) writes_row_tie rfl ⟨rfl,rfl⟩ (by kernel_rfl) rfl qv (by kernel_rfl)
end
end Go.Proofs.YtbklfkpjoinofaaGreatDoor
