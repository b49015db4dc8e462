import Derived.Test.YtbklfkpjoinofaaGreatDoorCards
import Derived.Test.YtbklfkpjoinofaaGreatDoorTie
import Derived.Test.YtbklfkpjoinofaaGreatDoorA37
import Derived.Test.YtbklfkpjoinofaaGreatDoorA38
import Derived.OpenShut
import Derived.Deep.DeepHandedRow
import Derived.Stop.LaidErr
import Derived.MakeChecks
set_option linter.all false
set_option maxRecDepth 100000
set_option maxHeartbeats 8000000
namespace Go.Proofs.YtbklfkpjoinofaaGreatDoor
open Go.RowKit Go.Proofs.Tryz
section
open Go.ChangeShapes Go.WideShapes Go.ChangeAt Go.RowKit
theorem Kz.own:ownKnob Tryz.prog.godebug=none:=by kernel_rfl
theorem Kz.laidOut:laidOutB prog=true:=by kernel_rfl
theorem Kz.g0:Tryz.prog.globalNamed "internal/strconv.uint64pow10"=some 0:=by kernel_rfl
theorem Kz.g0t:(Tryz.prog.globals[0]?).map (·.type)=some 302:=by kernel_rfl
theorem Kz.c20:Tryz.prog.cellsOf 302=20:=by kernel_rfl
theorem Kz.c1:Tryz.prog.cellsOf 280=1:=by kernel_rfl
theorem Kz.tab {W:World} (h:laidMetH prog Rows.roundRow.laid W):bU W.heap.size W:=by
 rw [MakeChecks.laidMetH_plain prog Rows.roundRow.laid W (by kernel_rfl)] at h;exact Lib.tabBelow_of_tabIs (Lib.tabIs_of_head Kz.g0 Kz.g0t underlying302 underlying280 Kz.c1 Kz.c20 (laidMet.tail (laidMet.tail h)))
theorem Kz.gS:Tryz.prog.globalNamed "strconv.ErrSyntax"=some 2:=by kernel_rfl
theorem Kz.gSt:(Tryz.prog.globals[2]?).map (·.type)=some 127:=by kernel_rfl
theorem Kz.star: "*"++ "errors.errorString"= "*errors.errorString":=by decide
theorem Kz.rowE (u:TypeId) (h:Tryz.prog.typeName? 3 u=some "*errors.errorString"):u=344:=
 typeName_ptr_named (nm:= "errors.errorString") (by rw [Kz.star];kernel_rfl) (by kernel_rfl) (by decide) u (by rw [Kz.star];exact h)
theorem Kz.cE:Tryz.prog.cellsOf 346=1:=by kernel_rfl
theorem Kz.cS:Tryz.prog.cellsOf 9=1:=by kernel_rfl
theorem Kz.errS {W:World} (h:laidMetH prog Rows.roundRow.laid W):ng W.heap.size W:=by
 rw [MakeChecks.laidMetH_plain prog Rows.roundRow.laid W (by kernel_rfl)] at h;obtain ⟨a,s,hv,_⟩:=laid_sentinel (laidMet.tail (laidMet.tail (laidMet.tail (laidMet.tail (laidMet.tail h))))) Kz.gS Kz.gSt underlying127 Kz.rowE underlying344 underlying346 rfl rfl underlying9 Kz.cE Kz.cS;have hc:W.cell? (zp 2)=some (.iface 344 (.pointer (some a))):=by simpa using World.var?_cell Kz.gS hv 0
 exact ⟨ZD W ⟨2,0,none⟩ hc,_,hc,.inr ⟨_,_,rfl⟩⟩
theorem Kz.gM:((begin prog (fun _ _=>0) default).world.heap[1]?).bind Obj.row?=some (#[.int .i64 0],3):=by kernel_rfl
theorem Kz.bM:Tryz.prog.buildable 3=true:=by kernel_rfl
theorem Kz.ctM:Tryz.prog.cellTypes Tryz.prog.depth 3=some [3]:=by kernel_rfl
theorem Kz.gs:1 < Tryz.prog.globals.size:=of_decide_eq_true (by kernel_rfl)
theorem Kz.shape {P:Program} {W:World} {g:Nat} {t:TypeId} {zero:Array Value} (h:W.ShapedOpen P) (hg:g < P.globals.size)
  (h0:((begin P (fun _ _=>0) default).world.heap[g]?).bind Obj.row?=some (zero,t)) (hz:zero.size=1) (hb:P.buildable t=true) (hc:P.cellTypes P.depth t=some [t]) (hu:P.underlying t=some (.int .i64)):∃ m,W.cell? g=some (.int .i64 m):=by
 obtain ⟨cs,hh,hs,hr⟩:=h.1 g zero t hg h0;obtain ⟨ts,hts,_,hall⟩:=hr hb;rw [hc] at hts
 cases hts
 have h1:0 < cs.size:=by omega
 obtain ⟨u,hu',hok⟩:=hall 0 cs[0] (by simp [h1]);have:u=t:=by simpa using hu'.symm
 subst this;have hcell:W.cell? g=some cs[0]:=by simp [World.cell?,hh,h1]
 rw [hcell];unfold Cell.ok at hok;rw [hu] at hok
 cases hv:cs[0] <;> rw [hv] at hok <;> first | (simp at hok;done) | (simp at hok;obtain ⟨rfl,_⟩:=hok;exact ⟨_,rfl⟩) | (simp at hok;subst hok;exact ⟨_,rfl⟩)
theorem Kz.maxL {W:World} (h:W.ShapedOpen prog):ft W.heap.size W:=by
 obtain ⟨m,hm⟩:=Kz.shape h Kz.gs Kz.gM rfl Kz.bM Kz.ctM underlying3;exact ⟨ZD W ⟨1,0,none⟩ hm,m,hm⟩
theorem qZ (H:Type) (enc:TypeId×Value->H) (W:World) (base:Nat) (args:Array Value) (ds gs:List (DataW H)) (before:List MemPlace)
  (hval:∀ (j:Nat) t v,Tryz.f6.params[j]? =some t->args[j]? =some v->Value.okWide prog W .any base t v)
  (hW:DataW.Whole enc prog Tryz.f6.params.toList Rows.roundSpec.vars false W args.toList ds gs before) (hL:laidMetH prog Rows.roundRow.laid W) (hSh:W.ShapedOpen prog):
  CP 6 args W fun e W'=>∃ v,e=.returned v/\Rows.roundSpec.post enc prog Tryz.f6 false true false false W args v W':=by
 have hW':=hW;obtain ⟨p,q,hA0,hV,rfl,_,_⟩:=hW;have hA:DataW.TrodAll enc prog W 0 (fun _=>true) true Tryz.f6.params.toList args.toList ds p:=hA0;rw [Tryz.params6] at hA hval;obtain ⟨v0,d0,rfl,rfl,h0⟩:=trodAll_one hA;obtain ⟨rfl,rfl⟩:=trodVars_none hV;obtain ⟨a0,len,cap,rfl⟩:=okWide_slice underlying41 (hval 0 41 v0 rfl rfl);have h0k:=h0;obtain ⟨fuel,hf⟩:=h0;clear hA0;simp only [YX] at hW';have hlt:∀ x∈p,x.block < W.heap.size:=fun x hx=>by simpa using hW'.lt x hx
 obtain ⟨b,off,sc,hm,ha,hfit,hsc⟩:=Bh hf;refine (BG W a0 len cap b off sc (by unfold maxLen at hm;omega) ha hfit (Kz.tab hL) (Kz.maxL hSh) (Kz.errS hL) (by by_cases h:len=0;exact .inr h;exact .inl (hsc 0 (by omega)).1) (fun i hi j u hu=>(hsc i hi).2 j u hu)).mono fun e W' ⟨he,hn⟩=>?_
 subst he;refine ⟨_,rfl,_,_,_,[],p,[],hW',?_,?_,rfl,hn.frame _,fun h=>by cases h⟩
 ·exact trodAll_mk1 (shut_bool underlying4 true)
 ·exact trodAll_mk1 (Below.trod Kz.laidOut (by kernel_rfl) (of_decide_eq_true (by kernel_rfl)) h0k hn hlt)
def Kz.one:DataW Unit->List Value
 | .lit (.int k n)=>[.int k n]
 | .agg l=>l.flatMap fun
  | .lit (.int k n)=>[.int k n]
  | _=>[]
 | _=>[]
def Kz.cs:DataW Unit->Array Value
 | .agg l=>(l.flatMap Kz.one).toArray
 | _=>#[]
def Kz.lay (d:DataW Unit):Obj->Obj
 | .cells _ t fr=>.cells (Kz.cs d) t fr
 | o=>o
noncomputable def Kz.low:Nat:=(World.holding prog default ⟨#[],#[],[]⟩).heap.size
abbrev Kz.textR:ByteArray:=⟨#[118,97,108,117,101,32,111,117,116,32,111,102,32,114,97,110,103,101]⟩
abbrev Kz.textS:ByteArray:=⟨#[105,110,118,97,108,105,100,32,115,121,110,116,97,120]⟩
def Kz.err (k:Nat):Obj->Obj
 | .cells _ t fr=>.cells #[.iface 344 (zp k)] t fr
 | o=>o
noncomputable def Kz.world (os:Os):World:=
 {World.holding prog os ⟨#[.cells #[Kz.textR] 346,.cells #[Kz.textS] 346],#[],[]⟩ with heap:=(((((((World.holding prog os ⟨#[.cells #[Kz.textR] 346,.cells #[Kz.textS] 346],#[],[]⟩).heap.modify 0 (Kz.lay Rows.laid_internal_strconv_uint64pow10)).modify 4 (Kz.lay Rows.laid_math_bits_deBruijn32tab)).modify 5 (Kz.lay Rows.laid_math_bits_deBruijn64tab)).modify 6 (Kz.lay Rows.laid_unicode_utf8_first)).modify 7 (Kz.lay Rows.laid_unicode_utf8_acceptRanges)).modify 3 (Kz.err Kz.low)).modify 2 (Kz.err (Kz.low+1))}
theorem Kz.met (os:Os):laidMet prog Rows.roundRow.laid ((Kz.world os).forCall (fun _ _=>0) ⟨#[],#[.slice none 0 0],[]⟩).memory:=
 laidMet_of_run' 8 (by kernel_rfl) (by kernel_rfl)
theorem Kz.reads (os:Os) {H:Type} (enc:TypeId×Value->H):∃ places,DataW.whole enc prog ((Kz.world os).forCall (fun _ _=>0) ⟨#[],#[.slice none 0 0],[]⟩).memory Tryz.f6.params.toList Rows.roundSpec.vars false #[Value.slice none 0 0].toList 8=some ([.nil],[],places):=
 ⟨[],by kernel_rfl⟩
theorem t8 (os:Os) (started:os.Started) (H:Type) (enc:TypeId×Value->H) (F:Stop.Interp):
  ReturnsInHanded {} Tryz.checked os 6 .any ((OpenSpec.ofChange Rows.roundSpec).preRow enc prog Tryz.f6 Rows.roundRow.domain false Rows.roundRow.laid) (((OpenSpec.ofChange Rows.roundSpec).at F).post enc prog Tryz.f6 false true false false):=by
 obtain ⟨places,hx⟩:=Kz.reads os enc;refine returnsInHanded_of_row (C:=Tryz.checked) (s:=OpenSpec.ofChange Rows.roundSpec) Kz.own started (by kernel_rfl) func6
  (witness_row_at (enc:=enc) (C:=Tryz.checked) false (Kz.world os) #[.slice none 0 0] rfl (by kernel_rfl) (by kernel_rfl) (by kernel_rfl)
   (OpenSpec.preRow_of_cond 8 hx (by kernel_rfl) (fun k hk=>by cases hk) (by kernel_rfl) (Kz.met os))) ?_
 intro W base args ds gs before hval hW _ _ _ hL hSh _;exact qZ H enc W base args ds gs before hval hW hL hSh
theorem yM:Rows.RoundSaid:=
 OpenClaim.holds_of_cond 6 Tryz.f6 rfl rfl rfl rfl rfl rfl rfl ⟨rfl,rfl,rfl,rfl,rfl⟩ rfl rfl rfl rfl rfl (by kernel_rfl) func6 Kz.facts
  (of_decide_eq_true (by kernel_rfl)) (by unfold Func.isWrapper;first | (rw [ZM (by decide+kernel)];kernel_rfl) | (rw [ZO (by decide+kernel)];exact ⟨rfl,rfl⟩))
  (fun os started H enc _ F=>by rw [OpenClaim.pre_eq_preRow];exact t8 os started H enc F)
theorem wo (f:FuncId) (fn:Func) (hf:Tryz.pinned.checked.prog.funcNamed "press/presskeep.Round"=some f) (hfn:Tryz.pinned.checked.prog.funcs[f]? =some fn):
  true=Tryz.pinned.checked.prog.looks []/\∀ (j:Nat) t,fn.params[j]? =some t->Tryz.pinned.checked.prog.wantsStandIn t=false:=by
 obtain rfl:f=6:=YM ((show Tryz.prog.funcNamed "press/presskeep.Round"=some 6 by kernel_rfl).symm.trans hf) |>.symm;obtain rfl:fn=Tryz.f6:=(YM (Tryz.func6.symm.trans hfn)).symm;refine ⟨by kernel_rfl,fun j t ht=>?_⟩;rw [Tryz.params6] at ht;obtain rfl:t=41:=by simpa using Array.mem_of_getElem? ht
 exact (show Tryz.prog.wantsStandIn 41=false by kernel_rfl)
theorem round_card:Rows.RoundCardSaid:=
 Claim7.holds_tied_plain_at .later [] _ _ _ _ yM (fun _ h=>by cases h) (by kernel_rfl) (fun _ h=>by cases h) round_row_tie rfl ⟨rfl,rfl⟩ (by kernel_rfl) rfl wo (by kernel_rfl)
end
end Go.Proofs.YtbklfkpjoinofaaGreatDoor
