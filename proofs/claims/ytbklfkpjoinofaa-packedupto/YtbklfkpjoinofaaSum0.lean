import Derived.Test.YtbklfkpjoinofaaBit0
import Derived.Test.YtbklfkpjoinofaaNum2
import Derived.Laws.IdiomStrings
import Derived.Laws.BytesArg
set_option linter.unusedVariables false
set_option linter.unusedSimpArgs false
namespace Go.Proofs.Ytbklfkpjoinofaa
open Go.RowKit

theorem take_snoc' (s : ByteArray) (k : Nat) (h : k < s.size) : s.data.toList.take (k + 1) = s.data.toList.take k ++ [s[k]] := by
  rw [List.take_succ_eq_append_getElem (by simpa using h)]; rfl

set_option maxRecDepth 100000 in
set_option maxHeartbeats 1000000 in
theorem newSum_any (w : World) :
    Calls Try.prog 34 #[] w fun e w' => e = .returned (.agg #[.int .u32 1, .int .u32 0]) ∧ Below w.heap.size w w' := by
  go_enter Try.func34, Try.ntmps34
  go_wp2
  exact bodyPost_ret (v := .agg #[.int .u32 1, .int .u32 0]) (by simp [results, Try.results34, go_sem]) rfl ⟨rfl, (Below.refl _ _).alloc (Nat.le_refl _) _⟩

set_option maxRecDepth 100000 in
set_option maxHeartbeats 1000000 in
theorem add_any (w : World) (c A B : Nat) (t : ByteArray) (ht : t.size ≤ 140737488355328) (hA : A < 65521) (hB : B < 65521) (c0 : w.cell? ⟨c, 0, none⟩ = some (.int .u32 A)) (c1 : w.cell? ⟨c, 1, none⟩ = some (.int .u32 B)) (f0 : w.frozen? ⟨c, 0, none⟩ = false) (f1 : w.frozen? ⟨c, 1, none⟩ = false) :
    Calls Try.prog 35 #[.pointer (some ⟨c, 0, none⟩), .string t] w fun e w' => e = .returned (.tuple #[]) ∧ w'.cell? ⟨c, 0, none⟩ = some (.int .u32 ((Pm.sumV t.data.toList (A, B)).1 : Nat)) ∧ w'.cell? ⟨c, 1, none⟩ = some (.int .u32 ((Pm.sumV t.data.toList (A, B)).2 : Nat)) ∧
      w'.frozen? ⟨c, 0, none⟩ = false ∧ w'.frozen? ⟨c, 1, none⟩ = false ∧ Only c w w' := by
  go_enter Try.func35, Try.ntmps35
  go_wp2
  go_quiet (fail)
  go_wp2
  go_loopg [4, 5, 6] t.size (fun g x y i wr => ∃ k X Y : Nat, k ≤ t.size ∧ X < 65521 ∧ Y < 65521 ∧ t.size - k ≤ g ∧ i = .int .i64 k ∧ x = .int .u32 X ∧ y = .int .u32 Y ∧ Hid (Pm.sumV (t.data.toList.take k) (A, B) = (X, Y)) ∧ wr = w.drewN nq)
  case atStart => exact ⟨0, A, B, by omega, hA, hB, by omega, rfl, rfl, rfl, rfl, rfl⟩
  case round =>
    obtain ⟨k, X, Y, hk, hX, hY, hg, rfl, rfl, rfl, HE, rfl⟩ := hrel
    by_cases hlt : k < t.size
    · have HS : Hid (Pm.sumV (t.data.toList.take (k + 1)) (A, B) = ((X + t[k].toNat) % 65521, (Y + (X + t[k].toNat) % 65521) % 65521)) := by
        show _ = _
        rw [take_snoc' t k hlt, Pm.sumV_snoc, HE.out]
      have hc : t[k].toNat < 256 := t[k].toNat_lt
      go_wp2
      go_roundg (gk - 1)
      case measure => omega
      case rel => exact ⟨k + 1, (X + t[k].toNat) % 65521, (Y + (X + t[k].toNat) % 65521) % 65521, by omega, Nat.mod_lt _ (by decide), Nat.mod_lt _ (by decide), by omega, by go_num, by simp, by simp, HS.out, rfl⟩
    · have hkc : t.data.toList.take k = t.data.toList := List.take_of_length_le (by simp; omega)
      have HE2 : Hid (Pm.sumV t.data.toList (A, B) = (X, Y)) := by show _ = _; rw [← hkc]; exact HE.out
      clear hkc
      go_wp2
      go_end0
      rw [HE2.out]
      refine ⟨rfl, ?_, ?_, ?_, ?_, ?_⟩
      · rw [World.cell?_setCell_other _ _ _ _ (by simp)]; exact World.cell?_setCell_same _ _ _ c0
      · exact World.cell?_setCell_same (u := .int .u32 B) _ _ _ (by rw [World.cell?_setCell_other _ _ _ _ (by simp)]; exact c1)
      · rw [World.frozen?_setCell, World.frozen?_setCell]; exact f0
      · rw [World.frozen?_setCell, World.frozen?_setCell]; exact f1
      · exact (((Only.refl c w).drewN _).setCell _ _).setCell _ _

theorem sum_or (A B : Nat) (hA : A < 65521) (hB : B < 65521) : bits BinOp.or IntKind.u32 ((B : Int) * 65536 % 4294967296) (A : Int) = ((65536 * B + A : Nat) : Int) := by
  have e1 : (B : Int) * 65536 % 4294967296 = ((B * 65536 : Nat) : Int) := by omega
  rw [e1, u32_or_nat _ _ (by omega) (by omega), nat_join 16 _ _ (by omega) (by omega)]
  congr 1; omega

set_option maxRecDepth 100000 in
set_option maxHeartbeats 1000000 in
theorem value_any (w : World) (A B : Nat) (hA : A < 65521) (hB : B < 65521) :
    Calls Try.prog 36 #[.agg #[.int .u32 A, .int .u32 B]] w fun e w' => e = .returned (.int .u32 (65536 * B + A : Nat)) ∧ Below w.heap.size w w' := by
  go_enter Try.func36, Try.ntmps36
  go_wp2
  go_ret
  refine ⟨ret_int ?_, (Below.refl _ _).alloc (Nat.le_refl _) _⟩
  rw [← sum_or A B hA hB]
  congr 1
  omega
end Go.Proofs.Ytbklfkpjoinofaa
