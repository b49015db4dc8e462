import Derived.Test.YtbklfkpjoinofaaRows
import Derived.Test.YtbklfkpjoinofaaNum
import Derived.WalkKit
import Derived.WalkSpells
import Derived.WalkLawsBesides
import Derived.Deep.QuietTactic
import Derived.BigQuiet
set_option linter.unusedVariables false
set_option linter.unusedSimpArgs false
namespace Go.Proofs.Ytbklfkpjoinofaa
open Go.RowKit

theorem hide {p : Prop} (h : p) : Hid p := h

theorem ret_int {k : IntKind} {a b : Int} (h : a = b) : Ending.returned (.int k a) = .returned (.int k b) := by rw [h]

theorem i64_and1 (n : Int) : bits .and .i64 n 1 = n % 2 := by
  have h1 : (BitVec.ofInt 64 1).toNat = 2 ^ 1 - 1 := by decide
  have key : (BitVec.ofInt 64 n &&& BitVec.ofInt 64 1).toNat = (n % ((2 ^ 64 : Nat) : Int)).toNat % 2 ^ 1 := by
    rw [BitVec.toNat_and, BitVec.toNat_ofInt, h1, Nat.and_two_pow_sub_one_eq_mod]
  show IntKind.i64.wrap ((BitVec.ofInt 64 n &&& BitVec.ofInt 64 1).toNat : Nat) = n % 2
  rw [key, IntKind.wrap_i64]
  omega

theorem wrap64_byteI (c : UInt8) : wrap64 (c.toNat : Int) = (c.toNat : Int) := by
  have := c.toNat_lt
  exact IntWalk.wrap64_in _ (by omega)

/-- Only block b may have turned, and new blocks may lie behind. -/
abbrev Only (b : Nat) (w w' : World) : Prop := w.grownBy w' (some b)

theorem Only.refl (b : Nat) (w : World) : Only b w w := ⟨rfl, rfl, rfl, Nat.le_refl _, fun _ _ _ => rfl⟩
theorem Only.trans {b : Nat} {u v w : World} (h : Only b u v) (k : Only b v w) : Only b u w :=
  ⟨k.os.trans h.os, k.tape.trans h.tape, k.output.trans h.output, Nat.le_trans h.size k.size, fun i hi hn => (k.block i (Nat.lt_of_lt_of_le hi h.size) hn).trans (h.block i hi hn)⟩
theorem Only.drewN {b : Nat} {u w : World} (h : Only b u w) (n : Nat) : Only b u (w.drewN n) := ⟨h.os, h.tape, h.output, h.size, h.block⟩
theorem Only.drew {b : Nat} {u w : World} (h : Only b u w) : Only b u w.drew := ⟨h.os, h.tape, h.output, h.size, h.block⟩
theorem Only.setCell {b : Nat} {u w : World} (h : Only b u w) (o : Nat) (v : Value) : Only b u (w.setCell ⟨b, o, none⟩ v) :=
  h.trans ⟨rfl, rfl, rfl, by simp [World.setCell], fun k _ hn => Below.heap_setCell _ _ _ _ (by intro e; exact hn (by rw [e]))⟩
theorem Only.below {b : Nat} {w w' : World} (h : Only b w w') (hb : b < w.heap.size) : Below b w w' :=
  ⟨h.os, h.tape, h.output, h.size, fun k hk => h.block k (by omega) (by intro e; cases e; omega)⟩
theorem Only.cell {b : Nat} {w w' : World} (h : Only b w w') {a : Addr} {v : Value} (hc : w.cell? a = some v) (hn : a.block ≠ b) : w'.cell? a = some v :=
  World.grownBy.cell h hc (by intro e; exact hn (by cases e; rfl))
theorem Only.owns {b : Nat} {w w' : World} (h : Only b w w') {base : Nat} {e : TypeId} {size : Nat} {v : Value} {n : Nat} {xs : List Value} (ho : w.ownsRow base e size v n xs) (hb : b < base) : w'.ownsRow base e size v n xs := by
  refine ho.kept h ?_
  right; intro he
  have := (ho.lt b he).1
  omega

/-- The reference's bits, at block b: the string, the place, whether it is bad. -/
structure RB (w : World) (b : Nat) (s : ByteArray) (p : Nat) (bad : Bool) : Prop where
  c0 : w.cell? ⟨b, 0, none⟩ = some (.string s)
  c1 : w.cell? ⟨b, 1, none⟩ = some (.int .i64 p)
  c2 : w.cell? ⟨b, 2, none⟩ = some (.bool bad)
  f1 : w.frozen? ⟨b, 1, none⟩ = false
  f2 : w.frozen? ⟨b, 2, none⟩ = false

theorem RB.drewN {w : World} {b : Nat} {s : ByteArray} {p : Nat} {bad : Bool} (h : RB w b s p bad) (n : Nat) : RB (w.drewN n) b s p bad := ⟨h.c0, h.c1, h.c2, h.f1, h.f2⟩
theorem RB.drew {w : World} {b : Nat} {s : ByteArray} {p : Nat} {bad : Bool} (h : RB w b s p bad) : RB w.drew b s p bad := ⟨h.c0, h.c1, h.c2, h.f1, h.f2⟩
theorem RB.lt {w : World} {b : Nat} {s : ByteArray} {p : Nat} {bad : Bool} (h : RB w b s p bad) : b < w.heap.size := World.block_lt_of_cell? w _ h.c0
theorem RB.at {w : World} {b : Nat} {s : ByteArray} {p : Nat} {bad : Bool} (h : RB w b s p bad) (q : Nat) (v : Value) (hv : v = .int .i64 q) : RB (w.setCell ⟨b, 1, none⟩ v) b s q bad := by
  subst hv
  refine ⟨?_, ?_, ?_, ?_, ?_⟩
  · rw [World.cell?_setCell_other _ _ _ _ (by simp)]; exact h.c0
  · exact World.cell?_setCell_same _ _ _ h.c1
  · rw [World.cell?_setCell_other _ _ _ _ (by simp)]; exact h.c2
  · rw [World.frozen?_setCell]; exact h.f1
  · rw [World.frozen?_setCell]; exact h.f2
theorem RB.spoil {w : World} {b : Nat} {s : ByteArray} {p : Nat} {bad : Bool} (h : RB w b s p bad) (c : Bool) : RB (w.setCell ⟨b, 2, none⟩ (.bool c)) b s p c := by
  refine ⟨?_, ?_, ?_, ?_, ?_⟩
  · rw [World.cell?_setCell_other _ _ _ _ (by simp)]; exact h.c0
  · rw [World.cell?_setCell_other _ _ _ _ (by simp)]; exact h.c1
  · exact World.cell?_setCell_same _ _ _ h.c2
  · rw [World.frozen?_setCell]; exact h.f1
  · rw [World.frozen?_setCell]; exact h.f2
end Go.Proofs.Ytbklfkpjoinofaa
