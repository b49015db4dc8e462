import Derived.Test.YtbklfkpjoinofaaPk11
set_option linter.unusedVariables false
set_option linter.unusedSimpArgs false
namespace Go.Proofs.Ytbklfkpjoinofaa
open Go.RowKit

/-- Strings, one behind the other. -/
def catB : List ByteArray → List UInt8
  | [] => []
  | X :: r => X.data.toList ++ catB r
theorem catB_snoc (Xs : List ByteArray) (X : ByteArray) : catB (Xs ++ [X]) = catB Xs ++ X.data.toList := by
  induction Xs with
  | nil => simp [catB]
  | cons Y r ih => simp only [List.cons_append, catB, ih, List.append_assoc]
theorem catB_take (Xs : List ByteArray) (k : Nat) (h : k < Xs.length) : catB (Xs.take (k + 1)) = catB (Xs.take k) ++ Xs[k].data.toList := by
  rw [List.take_succ_eq_append_getElem h, catB_snoc]
theorem catB_append (Xs Ys : List ByteArray) : catB (Xs ++ Ys) = catB Xs ++ catB Ys := by
  induction Xs with
  | nil => rfl
  | cons Y r ih => simp only [List.cons_append, catB, ih, List.append_assoc]
theorem catB_le (Xs : List ByteArray) (k : Nat) : (catB (Xs.take k)).length ≤ (catB Xs).length := by
  have h := catB_append (Xs.take k) (Xs.drop k)
  rw [List.take_append_drop] at h
  rw [h, List.length_append]; omega

set_option maxRecDepth 100000 in
theorem newSink_any (w : World) :
    Calls Try.prog 26 #[.int .i64 (-1)] w fun e w' => e = .returned (.pointer (some ⟨w.heap.size, 0, none⟩)) ∧ w' = w.alloc (.cells #[.int .i64 (-1), .slice none 0 0, .bool false] 71) := by
  go_enter Try.func26, Try.ntmps26
  go_wp2
  go_ret
  exact ⟨rfl, rfl⟩

theorem newSink_SK (w : World) : SK (w.alloc (.cells #[.int .i64 (-1), .slice none 0 0, .bool false] 71)) w.heap.size w.heap.size (.slice none 0 0) [] :=
  ⟨by simp, by simp, by simp, fun o => by simp, World.ownsRow_nil _ _ _ _, by simp [Value.ownBlock], by simp, by simp⟩

set_option maxRecDepth 100000 in
theorem sinkString_any (w : World) (T base : Nat) (vt : Value) (l : List UInt8) (h : SK w T base vt l) (hl : 0 < l.length) :
    Calls Try.prog 30 #[.pointer (some ⟨T, 0, none⟩)] w fun e w' => e = .returned (.string ⟨l.toArray⟩) ∧ w' = w := by
  obtain ⟨g, cap, hv, hle, hb, hcell⟩ := row_at h.own hl
  have c1 := h.c1
  rw [hv] at c1
  have hconv : (convert 29 9 (.slice (some ⟨g, 0, none⟩) l.length cap)).run Try.prog w = .ok (.string ⟨l.toArray⟩) w := by
    refine run_convert_bytes_back _ 29 9 5 ⟨g, 0, none⟩ cap l Try.underlying29 Try.underlying5 Try.underlying9 ?_
    intro j hj
    have hadd : (⟨g, 0, none⟩ : Addr).add j = ⟨g, j, none⟩ := by unfold Addr.add; split <;> simp_all
    rw [hadd, hcell j hj]
    simp [List.getD_eq_getElem?_getD, List.getElem?_eq_getElem hj]
  go_enter Try.func30, Try.ntmps30
  go_wp2
  go_ret
  exact ⟨rfl, rfl⟩

/-- What packing gives. -/
def Packd (Ψ : Tale) (D l : List UInt8) : Prop := Pm.unpackM l = some (D, l.length) ∧ 8 * l.length ≤ 80 + 9 * D.length ∧ 6 < l.length ∧ ∃ Sn nb, Ψ D D.length Sn nb ∧ 8 * l.length ≤ nb + 46

set_option maxRecDepth 100000 in
set_option maxHeartbeats 4000000 in
theorem pack_any {Φ Ψ : Tale} (hKp : Keeps Φ Ψ) (w : World) (a0 : Option Addr) (len cap b off : Nat) (Xs : List ByteArray) (hl : Xs.length = len) (hm : len ≤ maxLen) (ha : 0 < len → a0 = some ⟨b, off, none⟩ ∧ b < w.heap.size) (hc : ∀ (j : Nat) X, Xs[j]? = some X → w.cell? ⟨b, off + j, none⟩ = some (.string X)) (hX : (catB Xs).length ≤ 1048576) (hTurn : ∀ p Sn nb, (catB Xs).length - p < 261 → Φ (catB Xs) p Sn nb → Ψ (catB Xs) p Sn nb) :
    Calls Try.prog 17 #[.slice a0 len cap] w fun e w' => ∃ l, e = .returned (.string ⟨l.toArray⟩) ∧ Packd Ψ (catB Xs) l ∧ Below w.heap.size w w' := by
  unfold maxLen at hm
  go_enter Try.func17, Try.ntmps17
  go_wp2_with fail
  refine (newSink_any w).mono ?_
  rintro e w1 ⟨rfl, hw1⟩
  have h1 := newSink_SK w
  rw [← hw1] at h1
  have HB1 : Hid (Below w.heap.size w w1) := by rw [hw1]; exact (Below.refl _ w).alloc (Nat.le_refl _) _
  clear hw1
  go_wp2_with fail
  refine (newPacker_any hKp w1 w.heap.size w.heap.size h1 (Nat.le_refl _)).mono ?_
  rintro e w2 ⟨P, rfl, hI2, hB2⟩
  have HB2 := hide (HB1.out.trans hB2)
  clear hB2 HB1 h1
  go_wp2
  go_loopg [6, 13] (len + 1) (fun g _ i wr => ∃ k p : Nat, k ≤ len ∧ len - k < g ∧ i = .int .i64 k ∧ InvP Φ wr P w.heap.size w.heap.size (catB (Xs.take k)) p ∧ Below w.heap.size w wr ∧ (catB (Xs.take k)).length - p < 261)
  case atStart => exact ⟨0, 0, by omega, by omega, rfl, by simpa [catB] using hI2, HB2.out, by simp [catB]⟩
  case round =>
    clear hI2 HB2
    obtain ⟨k, p, hk, hg, rfl, hI, hb, hR⟩ := hrel
    have hle := catB_le Xs k
    by_cases hlt : k < len
    · obtain ⟨rfl, hbl⟩ := ha (by omega)
      have hkX : k < Xs.length := by omega
      have hXk : Xs[k]? = some Xs[k] := List.getElem?_eq_getElem hkX
      have hcw := hc k _ hXk
      have hcell : wr.cell? ⟨b, off + k, none⟩ = some (.string Xs[k]) := (hb.cell (p := ⟨b, off + k, none⟩) hbl).trans hcw
      have hsn := catB_take Xs k hkX
      have hle2 := catB_le Xs (k + 1)
      have hls : (catB (Xs.take k)).length + Xs[k].size ≤ 1048576 := by
        rw [hsn, List.length_append] at hle2
        have : Xs[k].data.toList.length = Xs[k].size := by simp
        omega
      have HSn := hide hsn
      clear hXk hc ha hsn hle2 hcw
      generalize Xs[k] = s at *
      have HW := hide (fun wx hx => write_any hKp wx P w.heap.size w.heap.size (catB (Xs.take k)) p s hx hls hR)
      go_wp2_with fail
      refine (HW.out wr hI).mono ?_
      rintro e w3 ⟨rfl, p3, hI3, hR3, hB3⟩
      rw [← HSn.out] at hI3 hR3
      go_wp2
      go_roundg (gk - 1)
      case measure => omega
      case rel => exact ⟨k + 1, p3, by omega, by omega, by go_num, hI3, hb.trans hB3, hR3⟩
    · have hkl : Xs.take k = Xs := List.take_of_length_le (by omega)
      rw [hkl] at hI hle hR
      clear hc ha hkl
      have HCl := hide (close_any hKp wr P w.heap.size w.heap.size (catB Xs) p (hI.turn (fun Sn nb => hTurn p Sn nb hR)) hX)
      go_wp2_with fail
      refine HCl.out.mono ?_
      rintro e w3 ⟨rfl, ⟨vt, l, hSK, hU, hsz, h6, hEnd⟩, hB3⟩
      go_wp2_with fail
      refine (sinkString_any w3 w.heap.size w.heap.size vt l hSK (by omega)).mono ?_
      rintro e w4 ⟨rfl, rfl⟩
      go_wp2
      go_ret
      exact ⟨l, rfl, ⟨hU, hsz, h6, hEnd⟩, hb.trans hB3⟩

set_option maxRecDepth 100000 in
theorem pressPack_any {Φ Ψ : Tale} (hKp : Keeps Φ Ψ) (w : World) (a0 : Option Addr) (len cap b off : Nat) (Xs : List ByteArray) (hl : Xs.length = len) (hm : len ≤ maxLen) (ha : 0 < len → a0 = some ⟨b, off, none⟩ ∧ b < w.heap.size) (hc : ∀ (j : Nat) X, Xs[j]? = some X → w.cell? ⟨b, off + j, none⟩ = some (.string X)) (hX : (catB Xs).length ≤ 1048576) (hTurn : ∀ p Sn nb, (catB Xs).length - p < 261 → Φ (catB Xs) p Sn nb → Ψ (catB Xs) p Sn nb) :
    Calls Try.prog 8 #[.slice a0 len cap] w fun e w' => ∃ l, e = .returned (.string ⟨l.toArray⟩) ∧ Packd Ψ (catB Xs) l ∧ Below w.heap.size w w' := by
  have HP := hide (pack_any hKp w a0 len cap b off Xs hl hm ha hc hX hTurn)
  clear hc
  go_enter Try.func8, Try.ntmps8
  go_wp2_with fail
  refine HP.out.mono ?_
  rintro e w1 ⟨l, rfl, hl1, hB⟩
  go_wp2
  go_ret
  exact ⟨l, rfl, hl1, hB⟩

/-- Nothing is said. -/
def mute : Tale := fun _ _ _ _ => True
theorem mute_keeps : Keeps mute mute := ⟨trivial, fun _ _ _ _ _ _ _ => trivial, fun _ _ _ _ _ _ _ _ _ _ _ _ _ _ _ _ => trivial, fun _ _ _ _ _ _ _ _ _ _ _ _ _ _ _ _ => trivial⟩

def bytesOf (D : List UInt8) : ByteArray := ⟨D.toArray⟩
theorem bytes_add (D : List UInt8) (s : ByteArray) : bytesOf D ++ s = bytesOf (D ++ s.data.toList) := by
  apply ByteArray.ext
  unfold bytesOf
  rw [ByteArray.data_append]
  apply Array.ext'
  simp
theorem bytes_size (D : List UInt8) : (bytesOf D).size = D.length := by simp [bytesOf, ByteArray.size]
end Go.Proofs.Ytbklfkpjoinofaa
