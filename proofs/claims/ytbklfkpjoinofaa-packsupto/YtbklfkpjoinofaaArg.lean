import Derived.Test.YtbklfkpjoinofaaKit
import Derived.ProofKit
import Derived.SizedLaws
import Derived.SliceStrings
set_option linter.unusedVariables false
set_option linter.unusedSimpArgs false
namespace Go.Proofs.Ytbklfkpjoinofaa
open Go.ChangeShapes Go.WideShapes Go.ChangeAt Go.RowKit

theorem Try.own : ownKnob Try.prog.godebug = none := by kernel_rfl
theorem Try.laidOut : laidOutB Try.prog = true := by kernel_rfl
theorem Try.cells9 : Try.prog.cellsOf 9 = 1 := by kernel_rfl

/-- A list of strings that came in, nil or not, as the walk wants it. -/
theorem open_arg {H : Type} {enc : TypeId × Value → H} {W : World} {a0 : Option Addr} {len cap fuel : Nat} {x : DataW H × List MemPlace}
    (hf : DataW.trod enc Try.prog W 0 (fun _ => true) true fuel 22 [.slice a0 len cap] = some x) :
    ∃ (b off : Nat) (Xs : List ByteArray), Xs.length = len ∧ (0 < len → a0 = some ⟨b, off, none⟩ ∧ b < W.heap.size) ∧ (∀ (j : Nat) X, Xs[j]? = some X → W.cell? ⟨b, off + j, none⟩ = some (.string X)) ∧
      len ≤ maxLen ∧ (Xs = [] ∨ ∃ spare, x.1 = .slice (strs Xs) spare) := by
  rcases open_strings Try.underlying22 Try.underlying9 Try.cells9 hf with ⟨hcs, hx⟩ | ⟨a, len', cap', ss, hcs, _, hl, hm, hz, hx, hcell, _⟩
  · simp at hcs
    obtain ⟨rfl, rfl, rfl⟩ := hcs
    subst hx
    exact ⟨0, 0, [], rfl, fun h => absurd h (by omega), fun j X h => by simp at h, Nat.zero_le _, Or.inl rfl⟩
  · simp at hcs
    obtain ⟨rfl, rfl, rfl⟩ := hcs
    subst hx
    simp only [if_true] at hz
    obtain ⟨b, off, spot⟩ := a
    refine ⟨b, off, ss.take len, by simp; omega, fun h0 => ?_, fun j X hX => ?_, by omega, Or.inr ⟨_, rfl⟩⟩
    · have hspot : spot = none := by simpa [Addr.add] using World.cell?_spot (hcell 0 (by omega))
      subst hspot
      exact ⟨rfl, World.block_lt_of_cell? W _ (hcell 0 (by omega))⟩
    · have hj : j < len := by
        have := (List.getElem?_eq_some_iff.1 hX).1
        simp at this
        omega
      have hspot : spot = none := by simpa [Addr.add] using World.cell?_spot (hcell 0 (by omega))
      subst hspot
      have hX' : ss.getD j ByteArray.empty = X := by
        rw [List.getElem?_take_of_lt hj] at hX
        simp [List.getD, hX]
      have hadd : (⟨b, off, none⟩ : Addr).add j = ⟨b, off + j, none⟩ := by unfold Addr.add; split <;> simp_all
      rw [← hadd, ← hX']
      exact hcell j (by omega)

theorem weights_strs {H : Type} (P : Program) (e : TypeId) (Xs : List ByteArray) : ∀ X ∈ Xs, X.size ∈ DataW.weightsAll P e (strs (H := H) Xs) := by
  induction Xs with
  | nil => intro X h; cases h
  | cons Y r ih =>
    intro X h
    simp only [strs, List.map_cons, DataW.weightsAll, DataW.weights, List.mem_append, List.mem_singleton]
    rcases List.mem_cons.1 h with rfl | h
    · left; simp
    · right; exact ih X h
end Go.Proofs.Ytbklfkpjoinofaa
