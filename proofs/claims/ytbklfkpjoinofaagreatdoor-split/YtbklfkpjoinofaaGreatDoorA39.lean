import Derived.Test.YtbklfkpjoinofaaGreatDoorCards
import Derived.Test.YtbklfkpjoinofaaGreatDoorTie
import Derived.Test.YtbklfkpjoinofaaGreatDoorA33
import Derived.Test.YtbklfkpjoinofaaGreatDoorA38
import Derived.OpenShut
import Derived.Deep.DeepHandedRow
import Derived.Stop.LaidErr
set_option linter.all false
set_option maxRecDepth 100000
set_option maxHeartbeats 8000000
namespace Go.Proofs.YtbklfkpjoinofaaGreatDoor
open Go.RowKit Go.Proofs.Tryz
section
open Go.ChangeShapes Go.WideShapes Go.ChangeAt Go.RowKit
theorem Ky.own:ownKnob Tryz.prog.godebug=none:=by kernel_rfl
theorem Ky.laidOut:laidOutB prog=true:=by kernel_rfl
theorem Ky.g0:Tryz.prog.globalNamed "internal/strconv.uint64pow10"=some 0:=by kernel_rfl
theorem Ky.g0t:(Tryz.prog.globals[0]?).map (·.type)=some 302:=by kernel_rfl
theorem Ky.c20:Tryz.prog.cellsOf 302=20:=by kernel_rfl
theorem Ky.c1:Tryz.prog.cellsOf 280=1:=by kernel_rfl
theorem Ky.tab {W:World} (h:laidMetH prog Rows.splitRow.laid W):bU W.heap.size W:=by
 rw [MakeChecks.laidMetH_plain prog Rows.splitRow.laid W (by kernel_rfl)] at h;exact Lib.tabBelow_of_tabIs (Lib.tabIs_of_head Ky.g0 Ky.g0t underlying302 underlying280 Ky.c1 Ky.c20 (laidMet.tail (laidMet.tail h)))
theorem Ky.gS:Tryz.prog.globalNamed "strconv.ErrSyntax"=some 2:=by kernel_rfl
theorem Ky.gSt:(Tryz.prog.globals[2]?).map (·.type)=some 127:=by kernel_rfl
theorem Ky.star: "*"++ "errors.errorString"= "*errors.errorString":=by decide
theorem Ky.rowE (u:TypeId) (h:Tryz.prog.typeName? 3 u=some "*errors.errorString"):u=344:=
 typeName_ptr_named (nm:= "errors.errorString") (by rw [Ky.star];kernel_rfl) (by kernel_rfl) (by decide) u (by rw [Ky.star];exact h)
theorem Ky.cE:Tryz.prog.cellsOf 346=1:=by kernel_rfl
theorem Ky.cS:Tryz.prog.cellsOf 9=1:=by kernel_rfl
theorem Ky.errS {W:World} (h:laidMetH prog Rows.splitRow.laid W):nA W.heap.size W:=by
 rw [MakeChecks.laidMetH_plain prog Rows.splitRow.laid W (by kernel_rfl)] at h;obtain ⟨a,s,hv,_⟩:=laid_sentinel (laidMet.tail (laidMet.tail (laidMet.tail (laidMet.tail (laidMet.tail h))))) Ky.gS Ky.gSt underlying127 Ky.rowE underlying344 underlying346 rfl rfl underlying9 Ky.cE Ky.cS;have hc:W.cell? (zp 2)=some (.iface 344 (.pointer (some a))):=by simpa using World.var?_cell Ky.gS hv 0
 exact ⟨ZD W ⟨2,0,none⟩ hc,_,hc,.inr ⟨_,_,rfl⟩⟩
theorem Ky.gM:((begin prog (fun _ _=>0) default).world.heap[1]?).bind Obj.row?=(some (#[oz],3):Option (Array Value×TypeId)):=by kernel_rfl
theorem Ky.bM:Tryz.prog.buildable 3=true:=by kernel_rfl
theorem Ky.ctM:Tryz.prog.cellTypes Tryz.prog.depth 3=some [3]:=by kernel_rfl
theorem Ky.gs:1 < Tryz.prog.globals.size:=of_decide_eq_true (by kernel_rfl)
theorem Ky.shape {P:Program} {W:World} {g:Nat} {t:TypeId} {zero:Array Value} (h:W.ShapedOpen P) (hg:g < P.globals.size)
  (h0:((begin P (fun _ _=>0) default).world.heap[g]?).bind Obj.row?=some (zero,t)) (hz:zero.size=1) (hb:P.buildable t=true) (hc:P.cellTypes P.depth t=some [t]) (hu:P.underlying t=some (.int .i64)):∃ m,W.cell? g=some (.int .i64 m):=by
 obtain ⟨cs,hh,hs,hr⟩:=h.1 g zero t hg h0;obtain ⟨ts,hts,_,hall⟩:=hr hb;rw [hc] at hts
 cases hts
 have h1:0 < cs.size:=by omega
 obtain ⟨u,hu',hok⟩:=hall 0 cs[0] (by simp [h1]);have:u=t:=by simpa using hu'.symm
 subst this;have hcell:W.cell? g=some cs[0]:=by simp [World.cell?,hh,h1]
 rw [hcell];unfold Cell.ok at hok;rw [hu] at hok
 cases hv:cs[0] <;> rw [hv] at hok <;> first | (simp at hok;done) | (simp at hok;obtain ⟨rfl,_⟩:=hok;exact ⟨_,rfl⟩) | (simp at hok;subst hok;exact ⟨_,rfl⟩)
theorem Ky.maxL {W:World} (h:W.ShapedOpen prog):fH W.heap.size W:=by
 obtain ⟨m,hm⟩:=Ky.shape h Ky.gs Ky.gM rfl Ky.bM Ky.ctM underlying3;exact ⟨ZD W ⟨1,0,none⟩ hm,m,hm⟩
theorem tw (H:Type) (enc:TypeId×Value->H) (W:World) (base:Nat) (args:Array Value) (ds gs:List (DataW H)) (before:List MemPlace)
  (hval:∀ (j:Nat) t v,Tryz.f7.params[j]? =some t->args[j]? =some v->Value.okWide prog W .any base t v)
  (hW:DataW.Whole enc prog Tryz.f7.params.toList Rows.splitSpec.vars false W args.toList ds gs before) (hL:laidMetH prog Rows.splitRow.laid W) (hSh:W.ShapedOpen prog):
  CP 7 args W fun e W'=>∃ v,e=.returned v/\Rows.splitSpec.post enc prog Tryz.f7 false true false false W args v W':=by
 have hW':=hW;obtain ⟨p,q,hA0,hV,rfl,_,_⟩:=hW;have hA:DataW.TrodAll enc prog W 0 (fun _=>true) true Tryz.f7.params.toList args.toList ds p:=hA0;rw [Tryz.params7] at hA hval;obtain ⟨v0,vs0,d0,ds0,p0,q0,hv0,rfl,rfl,h0,r0⟩:=trodAll_cons hA;obtain ⟨v1,vs1,d1,ds1,p1,q1,rfl,rfl,rfl,h1,r1⟩:=trodAll_cons r0;obtain ⟨v2,vs2,d2,ds2,p2,q2,rfl,rfl,rfl,h2,r2⟩:=trodAll_cons r1;obtain ⟨rfl,rfl,rfl⟩:=trodAll_nil r2;obtain rfl:args=#[v0,v1,v2]:=by cases args;simp_all
 obtain ⟨rfl,rfl⟩:=trodVars_none hV;obtain ⟨a0,len,cap,rfl⟩:=okWide_slice underlying41 (hval 0 41 v0 rfl rfl);obtain ⟨zs,rfl,rfl,rfl,hs⟩:=open_int underlying3 (hval 1 3 v1 rfl rfl) h1;obtain ⟨zf,rfl,rfl,rfl,hfl⟩:=open_int underlying3 (hval 2 3 v2 rfl rfl) h2;have h0k:=h0;obtain ⟨fuel,hf⟩:=h0;clear hA0;simp only [YZ] at hW';have hlt:∀ x∈p0,x.block < W.heap.size:=fun x hx=>by simpa using hW'.lt x hx
 obtain ⟨b,off,sc,hm,ha,hfit,hsc⟩:=C9 hf;refine (Dl W a0 len cap b off sc zs zf (bounds_i64 hs) (bounds_i64 hfl) (by unfold maxLen at hm;omega) ha hfit (Ky.tab hL) (Ky.maxL hSh) (Ky.errS hL) (by by_cases h:len=0;exact .inr h;exact .inl (hsc 0 (by omega)).1) (fun i hi j u hu=>(hsc i hi).2 j u hu)).mono fun e W' ⟨he,hn⟩=>?_
 subst he;refine ⟨_,rfl,_,_,_,[],p0,[],hW',?_,?_,rfl,hn.frame _,fun h=>by cases h⟩
 ·exact trodAll_mk1 (shut_bool underlying4 true)
 ·have h5:=trodAll_cons_mk (Below.trod Ky.laidOut (by kernel_rfl) (of_decide_eq_true (by kernel_rfl)) h0k hn hlt) (trodAll_cons_mk (shut_int underlying3 hs) (trodAll_cons_mk (shut_int underlying3 hfl) trodAll_mk0));simp only [YZ] at h5;exact h5
def Ky.one:DataW Unit->List Value
 | .lit (.int k n)=>[.int k n]
 | .agg l=>l.flatMap fun
  | .lit (.int k n)=>[.int k n]
  | _=>[]
 | _=>[]
def Ky.cs:DataW Unit->Array Value
 | .agg l=>(l.flatMap Ky.one).toArray
 | _=>#[]
def Ky.lay (d:DataW Unit):Obj->Obj
 | .cells _ t fr=>.cells (Ky.cs d) t fr
 | o=>o
noncomputable def Ky.low:Nat:=(World.holding prog default ⟨#[],#[],[]⟩).heap.size
abbrev Ky.textR:ByteArray:=⟨#[118,97,108,117,101,32,111,117,116,32,111,102,32,114,97,110,103,101]⟩
abbrev Ky.textS:ByteArray:=⟨#[105,110,118,97,108,105,100,32,115,121,110,116,97,120]⟩
def Ky.err (k:Nat):Obj->Obj
 | .cells _ t fr=>.cells #[.iface 344 (zp k)] t fr
 | o=>o
noncomputable def Ky.world (os:Os):World:=
 {World.holding prog os ⟨#[.cells #[Ky.textR] 346,.cells #[Ky.textS] 346],#[],[]⟩ with heap:=(((((((World.holding prog os ⟨#[.cells #[Ky.textR] 346,.cells #[Ky.textS] 346],#[],[]⟩).heap.modify 0 (Ky.lay Rows.laid_internal_strconv_uint64pow10)).modify 4 (Ky.lay Rows.laid_math_bits_deBruijn32tab)).modify 5 (Ky.lay Rows.laid_math_bits_deBruijn64tab)).modify 6 (Ky.lay Rows.laid_unicode_utf8_first)).modify 7 (Ky.lay Rows.laid_unicode_utf8_acceptRanges)).modify 3 (Ky.err Ky.low)).modify 2 (Ky.err (Ky.low+1))}
theorem Ky.met (os:Os):laidMet prog Rows.splitRow.laid ((Ky.world os).forCall (fun _ _=>0) ⟨#[],#[.slice none 0 0,oz,oz],[]⟩).memory:=
 laidMet_of_run' 8 (by kernel_rfl) (by kernel_rfl)
theorem Ky.reads (os:Os) {H:Type} (enc:TypeId×Value->H):∃ places,DataW.whole enc prog ((Ky.world os).forCall (fun _ _=>0) ⟨#[],#[.slice none 0 0,oz,oz],[]⟩).memory Tryz.f7.params.toList Rows.splitSpec.vars false #[Value.slice none 0 0,Value.int .i64 0,Value.int .i64 0].toList 8=some ([.nil,.lit (Lit.int .i64 0),.lit (Lit.int .i64 0)],[],places):=
 ⟨[],by kernel_rfl⟩
theorem wF (os:Os) (started:os.Started) (H:Type) (enc:TypeId×Value->H) (F:Stop.Interp):
  ReturnsInHanded {} Tryz.checked os 7 .any ((OpenSpec.ofChange Rows.splitSpec).preRow enc prog Tryz.f7 Rows.splitRow.domain false Rows.splitRow.laid) (((OpenSpec.ofChange Rows.splitSpec).at F).post enc prog Tryz.f7 false true false false):=by
 obtain ⟨places,hx⟩:=Ky.reads os enc;refine returnsInHanded_of_row (C:=Tryz.checked) (s:=OpenSpec.ofChange Rows.splitSpec) Ky.own started (by kernel_rfl) func7
  (witness_row_at (enc:=enc) (C:=Tryz.checked) false (Ky.world os) #[.slice none 0 0,oz,oz] rfl (by kernel_rfl) (by kernel_rfl) (by kernel_rfl)
   (OpenSpec.preRow_of_cond 8 hx (by kernel_rfl) (fun k hk=>by cases hk) (by kernel_rfl) (Ky.met os))) ?_
 intro W base args ds gs before hval hW _ _ _ hL hSh _;exact tw H enc W base args ds gs before hval hW hL hSh
theorem BU:Rows.SplitSaid:=
 OpenClaim.holds_of_cond 7 Tryz.f7 rfl rfl rfl rfl rfl rfl rfl ⟨rfl,rfl,rfl,rfl,rfl⟩ rfl rfl rfl rfl rfl (by kernel_rfl) func7 Ky.facts
  (of_decide_eq_true (by kernel_rfl)) (by unfold Func.isWrapper;first | (rw [ZN (by decide+kernel)];kernel_rfl) | (rw [ZO (by decide+kernel)];exact ⟨rfl,rfl⟩))
  (fun os started H enc _ F=>by rw [OpenClaim.pre_eq_preRow];exact wF os started H enc F)
theorem yU (f:FuncId) (fn:Func) (hf:Tryz.pinned.checked.prog.funcNamed "press/presskeep.Split"=some f) (hfn:Tryz.pinned.checked.prog.funcs[f]? =some fn):
  true=Tryz.pinned.checked.prog.looks []/\∀ (j:Nat) t,fn.params[j]? =some t->Tryz.pinned.checked.prog.wantsStandIn t=false:=by
 obtain rfl:f=7:=YI ((show Tryz.prog.funcNamed "press/presskeep.Split"=some 7 by kernel_rfl).symm.trans hf) |>.symm;obtain rfl:fn=Tryz.f7:=(YI (Tryz.func7.symm.trans hfn)).symm;refine ⟨by kernel_rfl,fun j t ht=>?_⟩;rw [Tryz.params7] at ht;have h:=Array.mem_of_getElem? ht;simp only [List.mem_toArray,Zk,List.mem_nil_iff,or_false] at h;rcases h with rfl | rfl | rfl
 ·exact (show Tryz.prog.wantsStandIn 41=false by kernel_rfl)
 all_goals exact (show Tryz.prog.wantsStandIn 3=false by kernel_rfl)
theorem split_card:Rows.SplitCardSaid:=
 Claim7.holds_tied_plain_at .later [] _ _ _ _ BU (fun _ h=>by cases h) (by kernel_rfl) (fun _ h=>by cases h) split_row_tie rfl ⟨rfl,rfl⟩ (by kernel_rfl) rfl yU (by kernel_rfl)
end
end Go.Proofs.YtbklfkpjoinofaaGreatDoor
