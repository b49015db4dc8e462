import Derived.Test.YtbklfkpjoinofaaWk2
import Derived.OneCell
import Derived.Laws.OwnMore
set_option linter.unusedVariables false
set_option linter.unusedSimpArgs false
namespace Go.Proofs.Ytbklfkpjoinofaa
open Go.RowKit

/-- What going on by some bytes leaves alone: all but the place and what was seen. -/
structure PassFr (P : Nat) (vs : Value) (w w' : World) : Prop where
  os : w'.os = w.os
  tape : w'.tape = w.tape
  output : w'.output = w.output
  size : w.heap.size ≤ w'.heap.size
  keep : ∀ k, k < w.heap.size → k ≠ P → some k ≠ vs.ownBlock → w'.heap[k]? = w.heap[k]?
  cell : ∀ o, o ≠ 7 → w'.cell? ⟨P, o, none⟩ = w.cell? ⟨P, o, none⟩
  frz : ∀ o, w'.frozen? ⟨P, o, none⟩ = w.frozen? ⟨P, o, none⟩

theorem PassFr.refl (P : Nat) (vs : Value) (w : World) : PassFr P vs w w := ⟨rfl, rfl, rfl, Nat.le_refl _, fun _ _ _ _ => rfl, fun _ _ => rfl, fun _ => rfl⟩
theorem PassFr.drew {P : Nat} {vs : Value} {w w' : World} (h : PassFr P vs w w') : PassFr P vs w w'.drew := ⟨h.os, h.tape, h.output, h.size, h.keep, h.cell, h.frz⟩
theorem PassFr.drewN {P : Nat} {vs : Value} {w w' : World} (h : PassFr P vs w w') (q : Nat) : PassFr P vs w (w'.drewN q) := ⟨h.os, h.tape, h.output, h.size, h.keep, h.cell, h.frz⟩
theorem PassFr.at {P : Nat} {vs : Value} {w w' : World} (h : PassFr P vs w w') (x : Value) : PassFr P vs w (w'.setCell ⟨P, 7, none⟩ x) := by
  refine ⟨h.os, h.tape, h.output, by have := h.size; simpa [World.setCell] using this, ?_, ?_, ?_⟩
  · intro k hk hP hv
    rw [Below.heap_setCell _ _ _ _ hP]; exact h.keep k hk hP hv
  · intro k a
    rw [World.cell?_setCell_other _ _ _ _ (by intro e; cases e; omega)]; exact h.cell k a
  · intro k; rw [World.frozen?_setCell]; exact h.frz k
theorem PassFr.seen {P gs n cap : Nat} {w w' : World} (h : PassFr P (.slice (some ⟨gs, 0, none⟩) n cap) w w') (hne : gs ≠ P) (j : Nat) (x : Value) : PassFr P (.slice (some ⟨gs, 0, none⟩) n cap) w (w'.setCell ⟨gs, j, none⟩ x) := by
  refine ⟨h.os, h.tape, h.output, by have := h.size; simpa [World.setCell] using this, ?_, ?_, ?_⟩
  · intro k hk hP hv
    rw [Below.heap_setCell _ _ _ _ (by intro e; exact hv (by simp [Value.ownBlock, e]))]; exact h.keep k hk hP hv
  · intro k a
    rw [World.cell?_setCell_other _ _ _ _ (by intro e; cases e; exact hne rfl)]; exact h.cell k a
  · intro k; rw [World.frozen?_setCell]; exact h.frz k

theorem PW.drew {w : World} {P base : Nat} {vw vs : Value} {W : List UInt8} {Sn : List Int} {at_ gone : Nat} (h : PW w P base vw vs W Sn at_ gone) : PW w.drew P base vw vs W Sn at_ gone := ⟨h.c6, h.c7, h.c8, h.c9, h.f7, h.ow, h.os, h.nw, h.ns, h.hP⟩

theorem PW.go {w : World} {P base : Nat} {vw vs : Value} {W : List UInt8} {Sn : List Int} {at_ gone : Nat} (h : PW w P base vw vs W Sn at_ gone) (at' : Nat) {x : Value} (hx : x = .int .i64 at') : PW (w.setCell ⟨P, 7, none⟩ x) P base vw vs W Sn at' gone := by
  subst hx
  refine ⟨?_, World.cell?_setCell_same _ _ _ h.c7, ?_, ?_, ?_, own_set h.ow h.nw _ _, own_set h.os h.ns _ _, h.nw, h.ns, by have := h.hP; simpa [World.setCell] using this⟩
  · rw [World.cell?_setCell_other _ _ _ _ (by simp)]; exact h.c6
  · rw [World.cell?_setCell_other _ _ _ _ (by simp)]; exact h.c8
  · rw [World.cell?_setCell_other _ _ _ _ (by simp)]; exact h.c9
  · rw [World.frozen?_setCell]; exact h.f7

theorem PW.seen {w : World} {P base gs cap : Nat} {vw : Value} {W : List UInt8} {Sn : List Int} {at_ gone : Nat} (h : PW w P base vw (.slice (some ⟨gs, 0, none⟩) 4096 cap) W Sn at_ gone) (hne : vw.ownBlock ≠ some gs) (j : Nat) (z : Int) {x : Value} (hx : x = .int .i64 z) : PW (w.setCell ⟨gs, j, none⟩ x) P base vw (.slice (some ⟨gs, 0, none⟩) 4096 cap) W (Sn.set j z) at_ gone := by
  subst hx
  have hgP : gs ≠ P := fun e => h.ns (by simp [Value.ownBlock, e])
  have hst := (h.os.stored j (.int .i64 z)).1
  refine ⟨?_, ?_, ?_, ?_, ?_, own_set h.ow hne _ _, ?_, h.nw, h.ns, by have := h.hP; simpa [World.setCell] using this⟩
  · rw [World.cell?_setCell_other _ _ _ _ (by intro e; cases e; exact hgP rfl)]; exact h.c6
  · rw [World.cell?_setCell_other _ _ _ _ (by intro e; cases e; exact hgP rfl)]; exact h.c7
  · rw [World.cell?_setCell_other _ _ _ _ (by intro e; cases e; exact hgP rfl)]; exact h.c8
  · rw [World.cell?_setCell_other _ _ _ _ (by intro e; cases e; exact hgP rfl)]; exact h.c9
  · rw [World.frozen?_setCell]; exact h.f7
  · rw [List.map_set]; exact hst

/-- Every place that was seen lies before m. -/
def Seen (Sn : List Int) (m : Nat) : Prop := ∀ j, j < 4096 → 0 ≤ Sn.getD j 0 ∧ Sn.getD j 0 ≤ (m : Nat)
theorem Seen.le {Sn : List Int} {m m' : Nat} (h : Seen Sn m) (hm : m ≤ m') : Seen Sn m' := fun j hj => ⟨(h j hj).1, by have := (h j hj).2; omega⟩
theorem Seen.set {Sn : List Int} {m : Nat} (h : Seen Sn m) (k : Nat) : Seen (Sn.set k ((m + 1 : Nat) : Int)) (m + 1) := by
  intro j hj
  have := h j hj
  simp only [List.getD_eq_getElem?_getD] at this ⊢
  by_cases e : k = j
  · subst e
    by_cases hl : k < Sn.length
    · simp [List.getElem?_set, hl]; omega
    · simp [List.getElem?_set, hl]; omega
  · rw [List.getElem?_set_ne e]; omega
end Go.Proofs.Ytbklfkpjoinofaa
