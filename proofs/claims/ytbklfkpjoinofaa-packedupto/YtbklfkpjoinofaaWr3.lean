import Derived.Test.YtbklfkpjoinofaaWr2
import Derived.Test.YtbklfkpjoinofaaBit0
set_option linter.unusedVariables false
set_option linter.unusedSimpArgs false
namespace Go.Proofs.Ytbklfkpjoinofaa
open Go.RowKit

theorem bl_succ (f m : Nat) (h : m ≠ 0) : Pm.bl (f + 1) m = Pm.bl f (m / 2) + 1 := by rw [Pm.bl, if_neg h]
theorem bl_8 : ∀ a : Nat, a < 256 → Pm.bl 8 a = Pm.bl 16 a := by decide +kernel
theorem bl_256 (x : Nat) (h : 256 ≤ x) (h2 : x < 65536) : Pm.bl 16 x = Pm.bl 16 (x / 256) + 8 := by
  rw [bl_succ 15 x (by omega), bl_succ 14 _ (by omega), bl_succ 13 _ (by omega), bl_succ 12 _ (by omega), bl_succ 11 _ (by omega), bl_succ 10 _ (by omega), bl_succ 9 _ (by omega), bl_succ 8 _ (by omega)]
  have e : x / 2 / 2 / 2 / 2 / 2 / 2 / 2 / 2 = x / 256 := by omega
  rw [e, bl_8 _ (by omega)]
theorem len8_bl : ∀ x : Nat, x < 256 → Lib.len8 (x : Int) = ((Pm.bl 16 x : Nat) : Int) := by decide +kernel
theorem bl_le : ∀ x : Nat, x < 256 → Pm.bl 16 x ≤ 8 := by decide +kernel

set_option maxRecDepth 100000 in
set_option maxHeartbeats 1000000 in
theorem len64_lo (w : World) (X : Int) (B : Nat) (h0 : 0 ≤ X) (h1 : X ≤ 255) (HL : Hid (Lib.len8 X = (B : Int))) (hB : B ≤ 8) :
    Calls Try.prog 63 #[.int .u64 X] w fun e w' => e = .returned (.int .i64 B) ∧ w' = w := by
  have g1 : ¬ (4294967296 : Int) ≤ X := by omega
  have g2 : ¬ (65536 : Int) ≤ X := by omega
  have g3 : ¬ (256 : Int) ≤ X := by omega
  go_enter Try.func63, Try.ntmps63
  go_wp2
  go_ret
  refine ⟨ret_int ?_, rfl⟩
  rw [HL.out]
  rw [IntWalk.wrap64_in (B : Int) (by omega), IntWalk.wrap64_in (B : Int) (by omega)]

set_option maxRecDepth 100000 in
set_option maxHeartbeats 1000000 in
theorem len64_hi (w : World) (X : Int) (B : Nat) (h1 : 256 ≤ X) (hx : X < 65536) (HL : Hid (Lib.len8 (X / 256) = (B : Int))) (hB : B ≤ 8) :
    Calls Try.prog 63 #[.int .u64 X] w fun e w' => e = .returned (.int .i64 (B + 8 : Nat)) ∧ w' = w := by
  have g1 : ¬ (4294967296 : Int) ≤ X := by omega
  have g2 : ¬ (65536 : Int) ≤ X := by omega
  have h0 : 0 ≤ X / 256 := by omega
  have h2 : X / 256 ≤ 255 := by omega
  go_enter Try.func63, Try.ntmps63
  go_wp2
  go_ret
  refine ⟨ret_int ?_, rfl⟩
  rw [HL.out]
  first | omega | (rw [IntWalk.wrap64_in (B : Int) (by omega)]; first | done | omega | (rw [IntWalk.wrap64_in _ (by omega)]; omega))

theorem len64_any (w : World) (x : Nat) (hx : x < 65536) :
    Calls Try.prog 63 #[.int .u64 x] w fun e w' => e = .returned (.int .i64 (Pm.bl 16 x : Nat)) ∧ w' = w := by
  by_cases h : x < 256
  · exact len64_lo w (x : Int) _ (by omega) (by omega) (len8_bl x h) (bl_le x h)
  · rw [bl_256 x (by omega) hx]
    have e1 : ((x / 256 : Nat) : Int) = (x : Int) / 256 := by omega
    exact len64_hi w (x : Int) _ (by omega) (by omega) (by show _ = _; rw [← e1]; exact len8_bl (x / 256) (by omega)) (bl_le (x / 256) (by omega))

set_option maxRecDepth 100000 in
set_option maxHeartbeats 1000000 in
theorem len_any (w : World) (x : Nat) (hx : x < 65536) :
    Calls Try.prog 57 #[.int .u64 x] w fun e w' => e = .returned (.int .i64 (Pm.bl 16 x : Nat)) ∧ w' = w := by
  go_enter Try.func57, Try.ntmps57
  go_wp2_with fail
  refine (len64_any w x hx).mono ?_
  rintro e w1 ⟨rfl, rfl⟩
  go_wp2
  go_ret
  exact ⟨rfl, rfl⟩

theorem ret_iii {a b c d e f : Int} (h : a = b) (g : c = d) (k : e = f) : Ending.returned (.tuple #[.int .i64 a, .int .i64 c, .int .i64 e]) = .returned (.tuple #[.int .i64 b, .int .i64 d, .int .i64 f]) := by rw [h, g, k]

set_option maxRecDepth 100000 in
set_option maxHeartbeats 1000000 in
theorem symbolBits_any (w : World) (c : Nat) (hc : c < 288) :
    Calls Try.prog 52 #[.int .i64 c] w fun e w' => e = .returned (.tuple #[.int .i64 ((Pm.symOut c).1 : Nat), .int .i64 ((Pm.symOut c).2 : Nat)]) ∧ w' = w := by
  by_cases h1 : c < 144
  · have e : Pm.symOut c = (48 + c, 8) := by unfold Pm.symOut; rw [if_pos h1]
    rw [e]
    clear e
    go_enter Try.func52, Try.ntmps52
    go_wp2
    go_ret2
    exact ⟨ret_ii (by simp) rfl, rfl⟩
  · by_cases h2 : c < 256
    · have e : Pm.symOut c = (400 + c - 144, 9) := by unfold Pm.symOut; rw [if_neg h1, if_pos h2]
      rw [e]
      clear e
      go_enter Try.func52, Try.ntmps52
      go_wp2
      go_ret2
      exact ⟨ret_ii (by first | omega | (simp; omega)) rfl, rfl⟩
    · by_cases h3 : c < 280
      · have e : Pm.symOut c = (c - 256, 7) := by unfold Pm.symOut; rw [if_neg h1, if_neg h2, if_pos h3]
        rw [e]
        clear e
        go_enter Try.func52, Try.ntmps52
        go_wp2
        go_ret2
        exact ⟨ret_ii (by first | omega | (simp; omega)) rfl, rfl⟩
      · have e : Pm.symOut c = (192 + c - 280, 8) := by unfold Pm.symOut; rw [if_neg h1, if_neg h2, if_neg h3]
        rw [e]
        clear e
        go_enter Try.func52, Try.ntmps52
        go_wp2
        go_ret2
        exact ⟨ret_ii (by first | omega | (simp; omega)) rfl, rfl⟩
end Go.Proofs.Ytbklfkpjoinofaa
