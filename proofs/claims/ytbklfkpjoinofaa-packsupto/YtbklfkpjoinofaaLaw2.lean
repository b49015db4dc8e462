import Derived.Test.YtbklfkpjoinofaaPk12
import Derived.Test.YtbklfkpjoinofaaRef8
set_option linter.unusedVariables false
set_option linter.unusedSimpArgs false
namespace Go.Proofs.Ytbklfkpjoinofaa
open Go.RowKit

set_option maxRecDepth 100000 in
set_option maxHeartbeats 4000000 in
theorem packs_walk (w : World) (a0 : Option Addr) (len cap b off : Nat) (Xs : List ByteArray) (hl : Xs.length = len) (hm : len ≤ maxLen) (ha : 0 < len → a0 = some ⟨b, off, none⟩ ∧ b < w.heap.size) (hc : ∀ (j : Nat) X, Xs[j]? = some X → w.cell? ⟨b, off + j, none⟩ = some (.string X)) (hX : (catB Xs).length ≤ 1048576) :
    Calls Try.prog 4 #[.slice a0 len cap] w fun e w' => e = .returned (.bool true) ∧ Below w.heap.size w w' := by
  have HP := hide (pressPack_any mute_keeps w a0 len cap b off Xs hl hm ha hc hX (fun _ _ _ _ _ => trivial))
  unfold maxLen at hm
  go_enter Try.func4, Try.ntmps4
  go_wp2_with fail
  refine HP.out.mono ?_
  rintro e w1 ⟨l, rfl, ⟨hU, hsz, h6, _⟩, hB1⟩
  have HU := hide (refUnpack_any w1 ⟨l.toArray⟩ (by simp [ByteArray.size]; omega))
  have hls : (⟨l.toArray⟩ : ByteArray).size = l.length := by simp [ByteArray.size]
  rw [show (⟨l.toArray⟩ : ByteArray).data.toList = l by simp, hU] at HU
  unfold ansV at HU
  clear HP hU
  obtain ⟨S, hS⟩ : ∃ S : ByteArray, S = ⟨l.toArray⟩ := ⟨_, rfl⟩
  rw [← hS] at HU hls ⊢
  clear hS
  go_wp2
  go_loopg [4, 5] (len + 1) (fun g x i wr => ∃ k : Nat, k ≤ len ∧ len - k < g ∧ i = .int .i64 k ∧ x = .string (bytesOf (catB (Xs.take k))) ∧ wr = w1)
  case atStart => exact ⟨0, by omega, by omega, rfl, by simp [catB, bytesOf], rfl⟩
  case round =>
    obtain ⟨k, hk, hg, rfl, rfl, rfl⟩ := hrel
    have hle := catB_le Xs k
    by_cases hlt : k < len
    · obtain ⟨rfl, hbl⟩ := ha (by omega)
      have hkX : k < Xs.length := by omega
      have hXk : Xs[k]? = some Xs[k] := List.getElem?_eq_getElem hkX
      have hcw := hc k _ hXk
      have hcell : wr.cell? ⟨b, off + k, none⟩ = some (.string Xs[k]) := (hB1.cell (p := ⟨b, off + k, none⟩) hbl).trans hcw
      have hsn := catB_take Xs k hkX
      have HSn := hide hsn
      have HAdd := hide (bytes_add (catB (Xs.take k)) Xs[k])
      have hle2 := catB_le Xs (k + 1)
      have hls : (catB (Xs.take k)).length + Xs[k].size ≤ 1048576 := by
        rw [hsn, List.length_append] at hle2
        have : Xs[k].data.toList.length = Xs[k].size := by simp
        omega
      have hbs := bytes_size (catB (Xs.take k))
      rw [← hsn] at HAdd
      clear hXk hc ha hsn hcw hle2 HSn
      generalize Xs[k] = s at *
      go_wp2
      go_roundg (gk - 1)
      case measure => omega
      case rel => exact ⟨k + 1, by omega, by omega, by go_num, by rw [HAdd.out], rfl⟩
    · have hkl : Xs.take k = Xs := List.take_of_length_le (by omega)
      rw [hkl]
      have hbs := bytes_size (catB Xs)
      rw [show (⟨(catB Xs).toArray⟩ : ByteArray) = bytesOf (catB Xs) from rfl] at HU
      have hbi : (bytesOf (catB Xs)).size ≤ 1048576 := by omega
      clear hc ha hkl hbs
      generalize bytesOf (catB Xs) = A at *
      go_wp2_with fail
      refine HU.out.mono ?_
      rintro e w2 ⟨rfl, hB2⟩
      have HB := hide (hB1.trans (hB2.mono hB1.size))
      clear hB1 hB2
      go_wp2
      go_ret
      exact ⟨rfl, HB.out⟩
end Go.Proofs.Ytbklfkpjoinofaa
