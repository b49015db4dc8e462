import Derived.Test.YtbklfkpjoinofaaPr5
import Derived.Test.YtbklfkpjoinofaaNum2
import Derived.Deep.RegionHeldLaw
set_option linter.unusedVariables false
set_option linter.unusedSimpArgs false
namespace Go.Proofs.Ytbklfkpjoinofaa
open Go.RowKit

/-- The program's unpacker at block b. -/
structure PU (w : World) (b : Nat) (s : ByteArray) (p n : Nat) (v : Value) (out : List UInt8) : Prop where
  r : PR w b s p n
  c4 : w.cell? ⟨b, 4, none⟩ = some v
  c5 : w.cell? ⟨b, 5, none⟩ = some (.int .i64 1048576)
  f4 : w.frozen? ⟨b, 4, none⟩ = false
  o : Out w b v out

theorem PU.few {w w' : World} {b : Nat} {s : ByteArray} {p n p' n' : Nat} {v : Value} {out : List UInt8} (h : PU w b s p n v out) (k : Few b w w') (hr : PR w' b s p' n') : PU w' b s p' n' v out :=
  ⟨hr, (k.cell 4 (by omega)).trans h.c4, (k.cell 5 (by omega)).trans h.c5, (k.frz 4).trans h.f4, h.o.only k.only⟩
theorem PU.drewN {w : World} {b : Nat} {s : ByteArray} {p n : Nat} {v : Value} {out : List UInt8} (h : PU w b s p n v out) (q : Nat) : PU (w.drewN q) b s p n v out := ⟨h.r.drewN q, h.c4, h.c5, h.f4, h.o.drewN q⟩
theorem PU.lt {w : World} {b : Nat} {s : ByteArray} {p n : Nat} {v : Value} {out : List UInt8} (h : PU w b s p n v out) : b < w.heap.size := h.r.lt

theorem PR.kept {w w' : World} {b : Nat} {s : ByteArray} {p n : Nat} (h : PR w b s p n) (k : Below (b + 1) w w') : PR w' b s p n :=
  ⟨h.at8, h.le, (k.cell (Nat.lt_succ_self b)).trans h.c0, (k.cell (Nat.lt_succ_self b)).trans h.c1, (k.cell (Nat.lt_succ_self b)).trans h.c2, (k.cell (Nat.lt_succ_self b)).trans h.c3,
   (k.frozen (Nat.lt_succ_self b)).trans h.f1, (k.frozen (Nat.lt_succ_self b)).trans h.f2, (k.frozen (Nat.lt_succ_self b)).trans h.f3⟩

/-- A new slice in the field: what has been appended. -/
theorem PU.grow {w w' : World} {b : Nat} {s : ByteArray} {p n : Nat} {v v' : Value} {out out' : List UInt8} (h : PU w b s p n v out) (k : Below (b + 1) w w') (ho : Out w' b v' out') : PU (w'.setCell ⟨b, 4, none⟩ v') b s p n v' out' := by
  have h4 := (k.cell (p := ⟨b, 4, none⟩) (Nat.lt_succ_self b)).trans h.c4
  have hr := h.r.kept k
  refine ⟨?_, World.cell?_setCell_same _ _ _ h4, ?_, ?_, ho.only ((Only.refl b _).setCell _ _)⟩
  · exact hr.put hr.at8 hr.le (World.cell?_setCell_other _ _ _ _ (by simp)) ((World.cell?_setCell_other _ _ _ _ (by simp)).trans hr.c1) ((World.cell?_setCell_other _ _ _ _ (by simp)).trans hr.c2) ((World.cell?_setCell_other _ _ _ _ (by simp)).trans hr.c3) (fun _ => World.frozen?_setCell ..)
  · rw [World.cell?_setCell_other _ _ _ _ (by simp)]; exact (k.cell (p := ⟨b, 5, none⟩) (Nat.lt_succ_self b)).trans h.c5
  · rw [World.frozen?_setCell]; exact (k.frozen (p := ⟨b, 4, none⟩) (Nat.lt_succ_self b)).trans h.f4

set_option maxRecDepth 100000 in
set_option maxHeartbeats 1000000 in
theorem hasRoom_any (w : World) (b : Nat) (s : ByteArray) (p n k : Nat) (v : Value) (out : List UInt8) (h : PU w b s p n v out) (hk : k ≤ 100000) (ho : out.length ≤ 1048576) :
    Calls Try.prog 53 #[.pointer (some ⟨b, 0, none⟩), .int .i64 k] w fun e w' => e = .returned (.bool (decide (out.length + k ≤ 1048576))) ∧ ∃ q, w' = w.drewN q := by
  have c4 := h.c4
  have c5 := h.c5
  obtain ⟨ad, cap, hform, _⟩ := h.o.form
  subst hform
  go_enter Try.func53, Try.ntmps53
  go_wp2
  go_quiet (fail)
  go_wp2
  go_ret
  refine ⟨congrArg (fun z => Ending.returned (.bool z)) ?_, _, rfl⟩
  rw [Bool.eq_iff_iff]
  simp
  omega
end Go.Proofs.Ytbklfkpjoinofaa
