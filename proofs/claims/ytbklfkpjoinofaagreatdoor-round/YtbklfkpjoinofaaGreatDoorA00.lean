import Derived.Test.YtbklfkpjoinofaaGreatDoorRows
import Derived.WalkSpells
import Derived.WalkLawsBesides
import Derived.BigQuiet
import Derived.Deep.RegionLaw
import Derived.Deep.LoopGhost
set_option linter.all false
set_option maxRecDepth 100000
set_option maxHeartbeats 8000000
namespace Go.Proofs.YtbklfkpjoinofaaGreatDoor
open Go.RowKit Go.Proofs.Tryz
theorem TD {α:Type}:(∀ (x:α) (l:List α) (n:Nat),(x::l).take (n+1)=x::l.take n)∧(∀ l:List α,l.take 0=[])∧(∀ (x:α) (l:List α) (n:Nat),(x::l).drop (n+1)=l.drop n)∧(∀ l:List α,l.drop 0=l):=⟨fun _ _ _=>rfl,fun _=>rfl,fun _ _ _=>rfl,fun _=>rfl⟩
abbrev QB (f:FuncId) (a:Array Value) (w:World) (v:Value):Prop:=Calls Tryz.prog f a w fun e w'=>e=.returned v∧Below w.heap.size w w'
abbrev QE (f:FuncId) (a:Array Value) (w:World) (v:Value):Prop:=Calls Tryz.prog f a w fun e w'=>e=.returned v∧w'=w
abbrev QD (f:FuncId) (a:Array Value) (w:World) (v:Value):Prop:=Calls Tryz.prog f a w fun e w'=>e=.returned v∧∃ q,w'=w.drewN q
instance:Coe Int Value:=⟨.int .i64⟩
instance:Coe Nat Value:=⟨fun n=>.int .i64 n⟩
instance:Coe Bool Value:=⟨.bool⟩
instance:Coe ByteArray Value:=⟨.string⟩
instance:Coe World Nat:=⟨fun w=>w.heap.size⟩
structure ZP (b i:Nat)
def zp (b:Nat):ZP b 0:=⟨⟩
def zq (b i:Nat):ZP b i:=⟨⟩
instance {b i}:CoeOut (ZP b i) Value:=⟨fun _=>.pointer (some ⟨b,i,none⟩)⟩
abbrev CP:=Calls Tryz.prog
structure ZI
def oz:ZI:=⟨⟩
instance:CoeOut ZI Value:=⟨fun _=>.int .i64 0⟩
instance {b i}:CoeOut (ZP b i) Addr:=⟨fun _=>⟨b,i,none⟩⟩
instance:Coe Nat Addr:=⟨fun b=>⟨b,0,none⟩⟩
abbrev ZY:=@List.length_append
abbrev ZX:=@List.length_cons
abbrev ZW:=@World.cell?_setCell_other
abbrev ZV:=@Nat.le_refl
abbrev ZU:=@Nat.le_trans
abbrev ZT:=@List.append_assoc
abbrev ZS:=@List.length_nil
abbrev ZR:=@World.cell?_of_block
abbrev ZQ:=@Below.refl
abbrev ZO:=@if_neg
abbrev ZN:=@List.getElem?_eq_getElem
abbrev ZM:=@if_pos
abbrev ZL:=@World.frozen?_setCell
abbrev ZK:=@Nat.lt_of_lt_of_le
abbrev ZJ:=@List.getD_eq_getElem?_getD
abbrev ZH:=@World.frozen?_of_block
abbrev ZG:=@List.cons_append
abbrev ZF:=@Array.getElem?_eq_some_iff
abbrev ZE:=@World.cell?_setCell_same
abbrev ZD:=@World.block_lt_of_cell?
abbrev ZC:=@List.forall_mem_cons
abbrev ZB:=@heap_alloc_new
abbrev ZA:=@List.take_of_length_le
abbrev Zy:=@List.Mem.head
abbrev Zx:=@List.getElem?_eq_some_iff
abbrev Zw:=@cell_of_row
abbrev Zv:=@List.take_succ_eq_append_getElem
abbrev Zu:=@List.mem_append
abbrev Zt:=@List.nil_append
abbrev Zr:=@List.eq_nil_of_length_eq_zero
abbrev Zq:=@decide_eq_true
abbrev Zp:=@Bool.and_eq_true
abbrev Zo:=@List.drop_eq_getElem_cons
abbrev Zn:=@ByteArray.toList_eq
abbrev Zm:=@Nat.lt_succ_self
abbrev Zl:=@List.mem_cons
abbrev Zk:=@List.length_take
abbrev Zj:=@decide_eq_false
abbrev Zi:=@wpList_store_row
abbrev Zh:=@ByteArray.ext
abbrev Zg:=@Below.cell
abbrev Zf:=@decide_eq_true_eq
abbrev Ze:=@List.getElem?_append_right
abbrev Zd:=@ByteArray.data_extract
abbrev Zc:=@List.length_drop
abbrev Zb:=@Below.mono
abbrev Za:=@Below.heap_setCell
abbrev YZ:=@UInt8.toNat_ofNat'
abbrev YY:=@IntWalk.wrap64_in
abbrev YX:=@List.append_nil
abbrev YW:=@Nat.add_assoc
abbrev YV:=@List.getElem?_map
abbrev YU:=@List.not_mem_nil
abbrev YT:=@List.prefix_append
abbrev YS:=@Nat.pow_le_pow_right
abbrev YR:=@Array.toList_extract
abbrev YQ:=@Below.heap_alloc
abbrev YP:=@Nat.pow_add
abbrev YO:=@bodyPost_ret
abbrev YN:=@Or.inl
abbrev YM:=@Option.some.inj
abbrev YL:=@Nat.two_pow_pos
abbrev YK:=@setRow_heap
abbrev YJ:=@List.mem_of_getElem?
abbrev YI:=@Nat.zero_le
abbrev YH:=@Nat.zero_add
abbrev YG:=@wpList_load_row
abbrev YF:=@List.getElem?_append_left
abbrev YE:=@List.drop_of_length_le
abbrev YD:=@results_cell_row
abbrev YC:=@List.mem_map
abbrev YB:=@wpList_nil
abbrev YA:=@Or.inr
abbrev Yz:=@run_convert_bytes_back
abbrev Yy:=@List.mem_range
abbrev Yx:=@List.length_map
abbrev Yw:=@getD_set_ne
abbrev Yv:=@beq_eq_false_iff_ne
abbrev Yu:=@heap_alloc2_new
abbrev Yt:=@Nat.mod_lt
abbrev Ys:=@List.getElem_mem
abbrev Yr:=@heap_setCell_other
abbrev Yq:=@Nat.min_eq_left
abbrev Yp:=@List.length_pos_iff
abbrev Yo:=@Array.ext'
abbrev Yn:=@List.mem_reverse
abbrev Ym:=@List.take_append_drop
abbrev Yl:=@World.ownsRow_nil
abbrev Yk:=@Result.andThen_ok
abbrev Yj:=@Option.some.injEq
abbrev Yi:=@Ne.symm
abbrev Yh:=@List.map_cons
abbrev Yg:=@List.map_toArray
abbrev Yf:=@wpQuiet_nil
abbrev Ye:=@Nat.mul_comm
abbrev Yc:=@List.getElem?_drop
abbrev Yb:=@Nat.add_zero
abbrev Ya:=@List.take_length
abbrev XZ:=@List.map_nil
abbrev XY:=@Nat.lt_of_not_le
abbrev XX:=@Sem.run_pure
abbrev XW:=@Nat.lt_trans
abbrev XV:=@Nat.mul_assoc
abbrev XU:=@Prod.mk.injEq
abbrev XT:=@Nat.lt_of_le_of_lt
abbrev XS:=@Nat.and_two_pow_sub_one_eq_mod
abbrev XR:=@info_parts
abbrev XQ:=@Bool.false_ne_true
abbrev XP:=@Nat.mul_add
abbrev XO:=@List.length_singleton
abbrev XN:=@Sem.run_bind
abbrev XM:=@Nat.mod_eq_of_lt
abbrev XL:=@bne_eq_false_iff_eq
abbrev XK:=@List.map_congr_left
abbrev XJ:=@Nat.mul_le_mul_left
abbrev XI:=@Int.toNat_of_nonneg
abbrev XH:=@heap_alloc2_old
abbrev XG:=@heap_alloc_old
abbrev XF:=@Nat.div_div_eq_div_mul
abbrev XE:=@Nat.div_eq_of_lt
abbrev XD:=@List.set_append_right
abbrev XC:=@List.getElem?_eq_none
abbrev XB:=@List.map_append
abbrev XA:=@Int.mul_le_mul
abbrev Xz:=@Nat.mul_le_mul
abbrev Xy:=@BitVec.toNat_ofInt
abbrev Xx:=@Nat.add_sub_cancel_left
end Go.Proofs.YtbklfkpjoinofaaGreatDoor
