import Derived.Test.YtbklfkpjoinofaaPr11
import Derived.ProofKit
import Derived.SizedLaws
import Derived.SliceStrings
set_option linter.unusedVariables false
set_option linter.unusedSimpArgs false
namespace Go.Proofs.Ytbklfkpjoinofaa
open Go.ChangeShapes Go.WideShapes Go.ChangeAt Go.RowKit

theorem last_ans : ansV (Pm.unpackM (⟨#[120, 156, 75, 4, 0, 0, 98, 0, 98]⟩ : ByteArray).data.toList) = .tuple #[.string ⟨#[97]⟩, .int .i64 9, .int .i64 0] := by
  have h : Pm.unpackM [120, 156, 75, 4, 0, 0, 98, 0, 98] = some ([97], 9) := by decide +kernel
  show ansV (Pm.unpackM [120, 156, 75, 4, 0, 0, 98, 0, 98]) = _
  rw [h]
  rfl

set_option maxRecDepth 100000 in
set_option maxHeartbeats 2000000 in
theorem unpacks_walk (w : World) (a0 : Option Addr) (len cap b off : Nat) (Xs : List ByteArray) (hl : Xs.length = len) (hm : len ≤ maxLen) (ha : 0 < len → a0 = some ⟨b, off, none⟩ ∧ b < w.heap.size) (hc : ∀ (j : Nat) X, Xs[j]? = some X → w.cell? ⟨b, off + j, none⟩ = some (.string X)) (hX : ∀ X ∈ Xs, X.size ≤ 140737488355328) :
    Calls Try.prog 3 #[.slice a0 len cap] w fun e w' => e = .returned (.bool true) ∧ Below w.heap.size w w' := by
  unfold maxLen at hm
  have HLast := hide (fun wx => Unpack_any wx ⟨#[120, 156, 75, 4, 0, 0, 98, 0, 98]⟩ (by decide))
  rw [last_ans] at HLast
  go_enter Try.func3, Try.ntmps3
  go_wp2
  go_loopg [3] (len + 1) (fun g i wr => ∃ k : Nat, k ≤ len ∧ len - k < g ∧ i = .int .i64 k ∧ Below w.heap.size w wr)
  case atStart => exact ⟨0, by omega, by omega, rfl, Below.refl _ _⟩
  case round =>
    obtain ⟨k, hk, hg, rfl, hb⟩ := hrel
    by_cases hlt : k < len
    · obtain ⟨rfl, hbl⟩ := ha (by omega)
      have hkX : k < Xs.length := by omega
      have hXk : Xs[k]? = some Xs[k] := List.getElem?_eq_getElem hkX
      have hs := hX Xs[k] (List.getElem_mem hkX)
      have hcw := hc k _ hXk
      have hcell : wr.cell? ⟨b, off + k, none⟩ = some (.string Xs[k]) := (hb.cell (p := ⟨b, off + k, none⟩) hbl).trans hcw
      clear hXk hc hX ha HLast
      generalize Xs[k] = s at *
      go_wp2_with fail
      refine (Unpack_any wr s hs).mono ?_
      rintro e w1 ⟨rfl, hb1⟩
      have hsz : w.heap.size ≤ wr.heap.size := hb.size
      have hcell1 : w1.cell? ⟨b, off + k, none⟩ = some (.string s) := (hb1.cell (p := ⟨b, off + k, none⟩) (by show b < _; omega)).trans hcell
      have HR := hide (fun wx => refUnpack_any wx s hs)
      have hb2 := hb.trans (hb1.mono hsz)
      have hsz2 : w.heap.size ≤ w1.heap.size := hb2.size
      clear hb hb1 hcell
      generalize Pm.unpackM s.data.toList = r at *
      cases r with
      | none =>
        unfold ansV at *
        go_wp2_with fail
        refine (HR.out w1).mono ?_
        rintro e w2 ⟨rfl, hb3⟩
        go_wp2
        go_roundg (gk - 1)
        case measure => omega
        case rel => exact ⟨k + 1, by omega, by omega, by go_num, hb2.trans (hb3.mono hsz2)⟩
      | some x =>
        obtain ⟨o, n⟩ := x
        unfold ansV at *
        go_wp2_with fail
        refine (HR.out w1).mono ?_
        rintro e w2 ⟨rfl, hb3⟩
        go_wp2
        go_roundg (gk - 1)
        case measure => omega
        case rel => exact ⟨k + 1, by omega, by omega, by go_num, hb2.trans (hb3.mono hsz2)⟩
    · clear hc hX ha
      go_wp2_with fail
      refine (HLast.out wr).mono ?_
      rintro e w1 ⟨rfl, hb1⟩
      go_wp2
      go_ret
      exact ⟨rfl, hb.trans (hb1.mono hb.size)⟩
end Go.Proofs.Ytbklfkpjoinofaa
