import Derived.Test.YtbklfkpjoinofaaGreatDoorRows
import Derived.WalkSpells
import Derived.WalkLawsBesides
import Derived.BigQuiet
import Derived.Deep.RegionLaw
import Derived.Deep.LoopGhost
set_option linter.all false
set_option maxRecDepth 100000
set_option maxHeartbeats 8000000
namespace Go.Proofs.YtbklfkpjoinofaaGreatDoor
open Go.RowKit Go.Proofs.Tryz
theorem TD {α:Type}:(∀ (x:α) (l:List α) (n:Nat),(x::l).take (n+1)=x::l.take n)∧(∀ l:List α,l.take 0=[])∧(∀ (x:α) (l:List α) (n:Nat),(x::l).drop (n+1)=l.drop n)∧(∀ l:List α,l.drop 0=l):=⟨fun _ _ _=>rfl,fun _=>rfl,fun _ _ _=>rfl,fun _=>rfl⟩
abbrev QB (f:FuncId) (a:Array Value) (w:World) (v:Value):Prop:=Calls Tryz.prog f a w fun e w'=>e=.returned v∧Below w.heap.size w w'
abbrev QE (f:FuncId) (a:Array Value) (w:World) (v:Value):Prop:=Calls Tryz.prog f a w fun e w'=>e=.returned v∧w'=w
abbrev QD (f:FuncId) (a:Array Value) (w:World) (v:Value):Prop:=Calls Tryz.prog f a w fun e w'=>e=.returned v∧∃ q,w'=w.drewN q
instance:Coe Int Value:=⟨.int .i64⟩
instance:Coe Nat Value:=⟨fun n=>.int .i64 n⟩
instance:Coe Bool Value:=⟨.bool⟩
instance:Coe ByteArray Value:=⟨.string⟩
instance:Coe World Nat:=⟨fun w=>w.heap.size⟩
structure ZP (b i:Nat)
def zp (b:Nat):ZP b 0:=⟨⟩
def zq (b i:Nat):ZP b i:=⟨⟩
instance {b i}:CoeOut (ZP b i) Value:=⟨fun _=>.pointer (some ⟨b,i,none⟩)⟩
abbrev CP:=Calls Tryz.prog
structure ZI
def oz:ZI:=⟨⟩
instance:CoeOut ZI Value:=⟨fun _=>.int .i64 0⟩
instance {b i}:CoeOut (ZP b i) Addr:=⟨fun _=>⟨b,i,none⟩⟩
instance:Coe Nat Addr:=⟨fun b=>⟨b,0,none⟩⟩
abbrev ZZ:=@List.length_append
abbrev ZY:=@List.length_cons
abbrev ZX:=@Nat.le_refl
abbrev ZW:=@List.length_nil
abbrev ZV:=@Below.refl
abbrev ZU:=@if_neg
abbrev ZT:=@World.cell?_setCell_other
abbrev ZS:=@World.cell?_of_block
abbrev ZR:=@Nat.lt_of_lt_of_le
abbrev ZQ:=@List.append_assoc
abbrev ZO:=@if_pos
abbrev ZN:=@Nat.le_trans
abbrev ZM:=@List.Mem.head
abbrev ZL:=@cell_of_row
abbrev ZK:=@List.getElem?_eq_getElem
abbrev ZJ:=@World.frozen?_of_block
abbrev ZH:=@List.take_succ_eq_append_getElem
abbrev ZG:=@World.frozen?_setCell
abbrev ZF:=@List.take_of_length_le
abbrev ZE:=@heap_alloc_new
abbrev ZD:=@heap_setCell_same
abbrev ZC:=@Below.heap_alloc
abbrev ZB:=@List.getD_eq_getElem?_getD
abbrev ZA:=@World.cell?_setCell_same
abbrev Zy:=@List.cons_append
abbrev Zx:=@List.length_take
abbrev Zw:=@Below.cell
abbrev Zv:=@List.getElem?_eq_some_iff
abbrev Zu:=@wpList_load_row
abbrev Zt:=@decide_eq_true_eq
abbrev Zr:=@Nat.min_eq_left
abbrev Zq:=@wpList_nil
abbrev Zo:=@Or.inr
abbrev Zn:=@Nat.add_assoc
abbrev Zm:=@List.append_nil
abbrev Zl:=@List.forall_mem_cons
abbrev Zj:=@ByteArray.ext
abbrev Zi:=@Bool.and_eq_true
abbrev Zh:=@List.eq_nil_of_length_eq_zero
abbrev Zg:=@Or.inl
abbrev Zf:=@decide_eq_false
abbrev Ze:=@Nat.pow_add
abbrev Zd:=@Option.some.inj
abbrev Zc:=@Nat.zero_add
abbrev Zb:=@bodyPost_ret
abbrev Za:=@List.getElem?_append_left
abbrev YZ:=@List.drop_eq_getElem_cons
abbrev YY:=@Below.mono
abbrev YX:=@Nat.pow_le_pow_right
abbrev YW:=@Nat.lt_succ_self
abbrev YV:=@List.length_drop
abbrev YU:=@Int.le_trans
abbrev YT:=@List.getElem?_map
abbrev YS:=@IntWalk.wrap64_in
abbrev YR:=@decide_eq_true
abbrev YQ:=@List.getElem?_append_right
abbrev YP:=@Below.heap_setCell
abbrev YN:=@List.mem_map
abbrev YM:=@wpList_store_row
abbrev YL:=@results_cell_row
abbrev YK:=@List.getElem_mem
abbrev YJ:=@List.mem_cons
abbrev YI:=@List.take_append_drop
abbrev YH:=@Nat.two_pow_pos
abbrev YG:=@List.length_map
abbrev YF:=@Array.ext'
abbrev YE:=@heap_alloc2_new
abbrev YD:=@List.drop_of_length_le
abbrev YC:=@List.map_cons
abbrev YB:=@List.mem_append
abbrev YA:=@ByteArray.data_extract
abbrev Yz:=@bne_eq_false_iff_eq
abbrev Yy:=@ByteArray.toList_eq
abbrev Yx:=@List.nil_append
abbrev Yw:=@heap_setCell_other
abbrev Yv:=@List.mem_reverse
abbrev Yu:=@Nat.le_of_lt
abbrev Yt:=@setRow_heap
abbrev Ys:=@List.mem_of_getElem?
abbrev Yr:=@World.block_lt_of_cell?
abbrev Yq:=@World.ownsRow_nil
abbrev Yp:=@Nat.add_zero
abbrev Yo:=@List.mem_range
abbrev Yn:=@List.length_singleton
abbrev Ym:=@List.map_map
abbrev Yl:=@Nat.mod_lt
abbrev Yk:=@Array.eq_empty_of_size_eq_zero
abbrev Yj:=@Nat.mul_assoc
abbrev Yi:=@List.map_congr_left
abbrev Yh:=@wpQuiet_nil
abbrev Yg:=@getD_set_ne
abbrev Yf:=@run_convert_bytes_back
abbrev Ye:=@Nat.div_div_eq_div_mul
abbrev Yc:=@Result.andThen_ok
abbrev Yb:=@Option.some.injEq
abbrev Ya:=@Decidable.not_not
abbrev XZ:=@Array.toList_extract
abbrev XY:=@Int.mul_le_mul
abbrev XX:=@Nat.mul_comm
abbrev XW:=@List.take_length
abbrev XV:=@List.not_mem_nil
abbrev XU:=@List.map_toArray
abbrev XT:=@List.map_nil
abbrev XS:=@Nat.add_sub_cancel_left
abbrev XR:=@heap_alloc2_old
abbrev XQ:=@List.map_append
abbrev XP:=@Nat.lt_of_le_of_lt
abbrev XO:=@List.getElem?_drop
abbrev XN:=@Nat.and_two_pow_sub_one_eq_mod
abbrev XM:=@Nat.zero_le
abbrev XL:=@Nat.mul_add
abbrev XK:=@List.take_append_of_le_length
abbrev XJ:=@Nat.mul_le_mul
abbrev XI:=@Int.mul_nonneg
abbrev XH:=@List.set_append_right
abbrev XG:=@List.getElem?_eq_none
abbrev XF:=@Nat.mod_eq_of_lt
abbrev XE:=@Nat.min_le_right
abbrev XD:=@Nat.lt_of_not_le
abbrev XC:=@Nat.div_eq_of_lt
abbrev XB:=@Prod.mk.injEq
abbrev XA:=@Array.getElem?_eq_some_iff
abbrev Xz:=@Ne.symm
abbrev Xy:=@beq_eq_false_iff_ne
abbrev Xx:=@Nat.mul_le_mul_left
abbrev Xw:=@List.length_pos_iff
abbrev Xv:=@Int.toNat_of_nonneg
abbrev Xu:=@Sem.run_pure
abbrev Xt:=@Sem.run_bind
abbrev Xs:=@Nat.lt_trans
abbrev Xr:=@UInt8.toNat_ofNat'
abbrev Xq:=@List.prefix_append
abbrev Xp:=@Bool.false_ne_true
abbrev Xo:=@BitVec.toNat_ofInt
abbrev Xn:=@info_parts
abbrev Xm:=@heap_alloc_old
abbrev Xl:=@IntWalk.i64_in
end Go.Proofs.YtbklfkpjoinofaaGreatDoor
