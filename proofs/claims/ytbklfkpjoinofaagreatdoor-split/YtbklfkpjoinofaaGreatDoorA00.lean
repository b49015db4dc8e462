import Derived.Test.YtbklfkpjoinofaaGreatDoorRows
import Derived.WalkSpells
import Derived.WalkLawsBesides
import Derived.BigQuiet
import Derived.Deep.RegionLaw
import Derived.Deep.LoopGhost
set_option linter.all false
set_option maxRecDepth 100000
set_option maxHeartbeats 8000000
namespace Go.Proofs.YtbklfkpjoinofaaGreatDoor
open Go.RowKit Go.Proofs.Tryz
theorem TD {α:Type}:(∀ (x:α) (l:List α) (n:Nat),(x::l).take (n+1)=x::l.take n)∧(∀ l:List α,l.take 0=[])∧(∀ (x:α) (l:List α) (n:Nat),(x::l).drop (n+1)=l.drop n)∧(∀ l:List α,l.drop 0=l):=⟨fun _ _ _=>rfl,fun _=>rfl,fun _ _ _=>rfl,fun _=>rfl⟩
abbrev QB (f:FuncId) (a:Array Value) (w:World) (v:Value):Prop:=Calls Tryz.prog f a w fun e w'=>e=.returned v∧Below w.heap.size w w'
abbrev QE (f:FuncId) (a:Array Value) (w:World) (v:Value):Prop:=Calls Tryz.prog f a w fun e w'=>e=.returned v∧w'=w
abbrev QD (f:FuncId) (a:Array Value) (w:World) (v:Value):Prop:=Calls Tryz.prog f a w fun e w'=>e=.returned v∧∃ q,w'=w.drewN q
instance:Coe Int Value:=⟨.int .i64⟩
instance:Coe Nat Value:=⟨fun n=>.int .i64 n⟩
instance:Coe Bool Value:=⟨.bool⟩
instance:Coe ByteArray Value:=⟨.string⟩
instance:Coe World Nat:=⟨fun w=>w.heap.size⟩
structure ZP (b i:Nat)
def zp (b:Nat):ZP b 0:=⟨⟩
def zq (b i:Nat):ZP b i:=⟨⟩
instance {b i}:CoeOut (ZP b i) Value:=⟨fun _=>.pointer (some ⟨b,i,none⟩)⟩
abbrev CP:=Calls Tryz.prog
structure ZI
def oz:ZI:=⟨⟩
instance:CoeOut ZI Value:=⟨fun _=>.int .i64 0⟩
instance {b i}:CoeOut (ZP b i) Addr:=⟨fun _=>⟨b,i,none⟩⟩
instance:Coe Nat Addr:=⟨fun b=>⟨b,0,none⟩⟩
abbrev ZY:=@List.length_append
abbrev ZX:=@List.length_cons
abbrev ZW:=@Nat.le_refl
abbrev ZV:=@World.cell?_setCell_other
abbrev ZU:=@Nat.le_trans
abbrev ZT:=@Below.refl
abbrev ZS:=@List.append_assoc
abbrev ZR:=@List.length_nil
abbrev ZQ:=@World.cell?_of_block
abbrev ZO:=@if_neg
abbrev ZN:=@if_pos
abbrev ZM:=@List.getElem?_eq_getElem
abbrev ZL:=@World.frozen?_setCell
abbrev ZK:=@Nat.lt_of_lt_of_le
abbrev ZJ:=@List.getD_eq_getElem?_getD
abbrev ZH:=@World.frozen?_of_block
abbrev ZG:=@Array.getElem?_eq_some_iff
abbrev ZF:=@heap_alloc_new
abbrev ZE:=@List.cons_append
abbrev ZD:=@World.block_lt_of_cell?
abbrev ZC:=@World.cell?_setCell_same
abbrev ZB:=@List.Mem.head
abbrev ZA:=@List.forall_mem_cons
abbrev Zy:=@List.take_of_length_le
abbrev Zx:=@List.getElem?_eq_some_iff
abbrev Zw:=@cell_of_row
abbrev Zv:=@List.take_succ_eq_append_getElem
abbrev Zu:=@List.mem_append
abbrev Zt:=@decide_eq_true
abbrev Zr:=@Bool.and_eq_true
abbrev Zq:=@List.nil_append
abbrev Zp:=@List.eq_nil_of_length_eq_zero
abbrev Zo:=@decide_eq_false
abbrev Zn:=@List.drop_eq_getElem_cons
abbrev Zm:=@ByteArray.toList_eq
abbrev Zl:=@Nat.lt_succ_self
abbrev Zk:=@List.mem_cons
abbrev Zj:=@wpList_store_row
abbrev Zi:=@wpList_load_row
abbrev Zh:=@decide_eq_true_eq
abbrev Zg:=@ByteArray.data_extract
abbrev Zf:=@Below.heap_alloc
abbrev Ze:=@List.length_take
abbrev Zd:=@ByteArray.ext
abbrev Zc:=@Below.cell
abbrev Zb:=@List.getElem?_append_right
abbrev Za:=@List.length_drop
abbrev YZ:=@List.append_nil
abbrev YY:=@Below.mono
abbrev YX:=@Below.heap_setCell
abbrev YW:=@UInt8.toNat_ofNat'
abbrev YV:=@Array.toList_extract
abbrev YU:=@IntWalk.wrap64_in
abbrev YT:=@bodyPost_ret
abbrev YS:=@Nat.add_assoc
abbrev YR:=@List.getElem?_map
abbrev YQ:=@List.not_mem_nil
abbrev YP:=@List.prefix_append
abbrev YO:=@Nat.zero_le
abbrev YN:=@wpList_nil
abbrev YM:=@Nat.pow_le_pow_right
abbrev YL:=@Nat.pow_add
abbrev YK:=@setRow_heap
abbrev YJ:=@Or.inl
abbrev YI:=@Option.some.inj
abbrev YH:=@Nat.two_pow_pos
abbrev YG:=@List.mem_of_getElem?
abbrev YF:=@Nat.zero_add
abbrev YE:=@List.getElem?_append_left
abbrev YD:=@List.drop_of_length_le
abbrev YC:=@results_cell_row
abbrev YB:=@Or.inr
abbrev YA:=@List.mem_map
abbrev Yz:=@heap_alloc2_new
abbrev Yy:=@Nat.mod_lt
abbrev Yx:=@run_convert_bytes_back
abbrev Yw:=@List.mem_range
abbrev Yv:=@List.length_map
abbrev Yu:=@heap_setCell_other
abbrev Yt:=@getD_set_ne
abbrev Ys:=@beq_eq_false_iff_ne
abbrev Yr:=@Nat.min_eq_left
abbrev Yq:=@List.take_append_drop
abbrev Yp:=@List.getElem_mem
abbrev Yo:=@List.map_cons
abbrev Yn:=@List.length_pos_iff
abbrev Ym:=@wpQuiet_nil
abbrev Yl:=@Array.ext'
abbrev Yk:=@List.mem_reverse
abbrev Yj:=@World.ownsRow_nil
abbrev Yi:=@Result.andThen_ok
abbrev Yh:=@Option.some.injEq
abbrev Yg:=@Ne.symm
abbrev Yf:=@List.map_toArray
abbrev Ye:=@Nat.mul_comm
abbrev Yc:=@List.getElem?_drop
abbrev Yb:=@Nat.add_zero
abbrev Ya:=@List.take_length
abbrev XZ:=@List.map_nil
abbrev XY:=@Nat.lt_of_not_le
abbrev XX:=@Sem.run_pure
abbrev XW:=@Nat.lt_trans
abbrev XV:=@Int.toNat_of_nonneg
abbrev XU:=@Nat.mul_assoc
abbrev XT:=@Prod.mk.injEq
abbrev XS:=@Nat.lt_of_le_of_lt
abbrev XR:=@Nat.and_two_pow_sub_one_eq_mod
abbrev XQ:=@info_parts
abbrev XP:=@Bool.false_ne_true
abbrev XO:=@Nat.mul_add
abbrev XN:=@List.length_singleton
abbrev XM:=@Int.mul_le_mul
abbrev XL:=@Sem.run_bind
abbrev XK:=@Nat.mod_eq_of_lt
abbrev XJ:=@bne_eq_false_iff_eq
abbrev XI:=@List.map_congr_left
abbrev XH:=@Nat.mul_le_mul_left
abbrev XG:=@heap_alloc2_old
abbrev XF:=@Nat.mul_le_mul
abbrev XE:=@heap_alloc_old
abbrev XD:=@Nat.div_div_eq_div_mul
abbrev XC:=@Nat.div_eq_of_lt
abbrev XB:=@List.set_append_right
abbrev XA:=@List.getElem?_eq_none
abbrev Xz:=@List.map_append
abbrev Xy:=@Int.mul_nonneg
abbrev Xx:=@BitVec.toNat_ofInt
abbrev Xw:=@Decidable.not_not
abbrev Xv:=@Nat.add_sub_cancel_left
end Go.Proofs.YtbklfkpjoinofaaGreatDoor
