import Derived.Test.YtbklfkpjoinofaaRef3
set_option linter.unusedVariables false
set_option linter.unusedSimpArgs false
namespace Go.Proofs.Ytbklfkpjoinofaa
open Go.RowKit

theorem take_snoc (s : ByteArray) (k : Nat) (h : k < s.size) : s.data.toList.take (k + 1) = s.data.toList.take k ++ [s[k]] := by
  rw [List.take_succ_eq_append_getElem (by simpa using h)]; rfl

set_option maxRecDepth 100000 in
set_option maxHeartbeats 400000 in
theorem refSum_any (w : World) (s : ByteArray) (hs : s.size ≤ 140737488355328) :
    Calls Try.prog 16 #[.string s] w fun e w' => e = .returned (.int .i64 (65536 * (Pm.sumV s.data.toList (1, 0)).2 + (Pm.sumV s.data.toList (1, 0)).1 : Nat)) ∧ w' = w := by
  go_enter Try.func16, Try.ntmps16
  go_wp2
  go_loopg [3, 4, 5] s.size (fun g x y i wr => ∃ k X Y : Nat, k ≤ s.size ∧ X < 65521 ∧ Y < 65521 ∧ s.size - k ≤ g ∧ i = .int .i64 k ∧ x = .int .i64 X ∧ y = .int .i64 Y ∧ Hid (Pm.sumV (s.data.toList.take k) (1, 0) = (X, Y)) ∧ wr = w)
  case atStart => exact ⟨0, 1, 0, by omega, by omega, by omega, by omega, rfl, rfl, rfl, rfl, rfl⟩
  case round =>
    obtain ⟨k, X, Y, hk, hX, hY, hg, rfl, rfl, rfl, HE, rfl⟩ := hrel
    by_cases hlt : k < s.size
    · have HS : Hid (Pm.sumV (s.data.toList.take (k + 1)) (1, 0) = ((X + s[k].toNat) % 65521, (Y + (X + s[k].toNat) % 65521) % 65521)) := by
        show _ = _
        rw [take_snoc s k hlt, Pm.sumV_snoc, HE.out]
      have hc : s[k].toNat < 256 := s[k].toNat_lt
      go_wp2
      go_roundg (gk - 1)
      case measure => omega
      case rel => exact ⟨k + 1, (X + s[k].toNat) % 65521, (Y + (X + s[k].toNat) % 65521) % 65521, by omega, Nat.mod_lt _ (by decide), Nat.mod_lt _ (by decide), by omega, by go_num, by simp [wrap64_byteI], by simp [wrap64_byteI], HS.out, rfl⟩
    · have hkc : s.data.toList.take k = s.data.toList := List.take_of_length_le (by simp; omega)
      have HE2 : Hid (Pm.sumV s.data.toList (1, 0) = (X, Y)) := by show _ = _; rw [← hkc]; exact HE.out
      clear hkc
      go_wp2
      go_ret
      exact ⟨ret_int (by rw [HE2.out]; omega), rfl⟩
end Go.Proofs.Ytbklfkpjoinofaa
