import Derived.Test.YtbklfkpjoinofaaWr3
set_option linter.unusedVariables false
set_option linter.unusedSimpArgs false
namespace Go.Proofs.Ytbklfkpjoinofaa
open Go.RowKit

theorem and_mask64 (m W : Nat) (hW : W ≤ 16) (hm : m < 65536) : bits .and .i64 (m : Int) ((2 : Int) ^ W - 1) = ((m % 2 ^ W : Nat) : Int) := by
  have hF : 2 ^ W ≤ 65536 := Nat.le_trans (Nat.pow_le_pow_right (by decide) hW) (by decide)
  have h0 := Nat.two_pow_pos W
  have e1 : ((2 : Int) ^ W - 1) = ((2 ^ W - 1 : Nat) : Int) := by
    have e2 : (2 : Int) ^ W = ((2 ^ W : Nat) : Int) := by push_cast; rfl
    rw [e2]; omega
  rw [e1]
  have key : (BitVec.ofInt 64 (m : Int) &&& BitVec.ofInt 64 ((2 ^ W - 1 : Nat) : Int)).toNat = m % 2 ^ W := by
    have a1 : (BitVec.ofInt 64 (m : Int)).toNat = m := by rw [BitVec.toNat_ofInt]; omega
    have a2 : (BitVec.ofInt 64 ((2 ^ W - 1 : Nat) : Int)).toNat = 2 ^ W - 1 := by rw [BitVec.toNat_ofInt]; omega
    rw [BitVec.toNat_and, a1, a2, Nat.and_two_pow_sub_one_eq_mod]
  show IntKind.i64.wrap ((BitVec.ofInt 64 (m : Int) &&& BitVec.ofInt 64 ((2 ^ W - 1 : Nat) : Int)).toNat : Nat) = _
  rw [key]
  have := Nat.mod_lt m h0
  exact IntWalk.i64_in _ (by omega)

theorem mask_val (m W : Nat) (hW : W ≤ 16) (hm : m < 65536) : bits .and .i64 (m : Int) (wrap64 (wrap64 (2 ^ W) - 1)) = ((m % 2 ^ W : Nat) : Int) := by
  have hF : 2 ^ W ≤ 65536 := Nat.le_trans (Nat.pow_le_pow_right (by decide) hW) (by decide)
  have h0 := Nat.two_pow_pos W
  have e2 : (2 : Int) ^ W = ((2 ^ W : Nat) : Int) := by push_cast; rfl
  have e3 : wrap64 ((2 : Int) ^ W) = (2 : Int) ^ W := by rw [e2]; exact IntWalk.wrap64_in _ (by omega)
  have e4 : wrap64 ((2 : Int) ^ W - 1) = (2 : Int) ^ W - 1 := by rw [e2]; exact IntWalk.wrap64_in _ (by omega)
  rw [e3, e4]
  exact and_mask64 m W hW hm

theorem code_val (K m W : Nat) (hK : K ≤ 1000) (hm : m < 65536) : wrap64 ((K : Int) + (m : Int) / 2 ^ W) = ((K + m / 2 ^ W : Nat) : Int) := by
  have e : (m : Int) / 2 ^ W = ((m / 2 ^ W : Nat) : Int) := by push_cast; rfl
  have h := Nat.div_le_self m (2 ^ W)
  rw [e]
  generalize m / 2 ^ W = D at *
  rw [IntWalk.wrap64_in _ (by omega)]
  omega

theorem bl_hi : ∀ m : Nat, m < 256 → 8 ≤ m → 4 ≤ Pm.bl 16 m ∧ Pm.bl 16 m ≤ 8 := by decide +kernel

set_option maxRecDepth 100000 in
set_option maxHeartbeats 1000000 in
theorem lengthCode_any (w : World) (n : Nat) (h1 : 3 ≤ n) (h2 : n ≤ 258) :
    Calls Try.prog 49 #[.int .i64 n] w fun e w' => e = .returned (.tuple #[.int .i64 ((Pm.lenC n).1 : Nat), .int .i64 ((Pm.lenC n).2.1 : Nat), .int .i64 ((Pm.lenC n).2.2 : Nat)]) ∧ ∃ q, w' = w.drewN q := by
  by_cases h : n = 258
  · subst h
    have e : Pm.lenC 258 = (285, 0, 0) := by decide
    rw [e]
    go_enter Try.func49, Try.ntmps49
    go_wp2
    go_ret3
    exact ⟨rfl, 0, rfl⟩
  · have hq : ((n : Int) == 258) = false := by rw [beq_eq_false_iff_ne]; omega
    by_cases h8 : n - 3 < 8
    · have e : Pm.lenC n = (257 + (n - 3), 0, 0) := by unfold Pm.lenC; rw [if_neg h, if_pos h8]
      rw [e]
      clear e
      go_enter Try.func49, Try.ntmps49
      go_wp2
      go_ret3
      exact ⟨ret_iii (by first | omega | (simp; omega)) rfl rfl, 0, rfl⟩
    · have e : Pm.lenC n = (257 + 4 * (Pm.bl 16 (n - 3) - 3) + (n - 3) / 2 ^ (Pm.bl 16 (n - 3) - 3), (n - 3) % 2 ^ (Pm.bl 16 (n - 3) - 3), Pm.bl 16 (n - 3) - 3) := by unfold Pm.lenC; rw [if_neg h, if_neg h8]
      rw [e]
      clear e
      have hb := bl_hi (n - 3) (by omega) (by omega)
      have HLen := hide (fun wx => len_any wx (n - 3) (by omega))
      generalize hm : n - 3 = m at *
      have hnm : (n : Int) - 3 = (m : Int) := by omega
      have HM : Hid (n = m + 3) := by show _ = _; omega
      generalize Pm.bl 16 m = L at *
      obtain ⟨W, rfl⟩ : ∃ W, L = W + 3 := ⟨L - 3, by omega⟩
      have hW : W + 3 - 3 = W := by omega
      rw [hW]
      have HA := hide (mask_val m W (by omega) (by omega))
      have HC := hide (code_val (257 + 4 * W) m W (by omega) (by omega))
      clear hm hW
      go_enter Try.func49, Try.ntmps49
      go_wp2_with fail
      refine (HLen.out _).mono ?_
      rintro e w1 ⟨rfl, rfl⟩
      go_wp2
      go_quiet (fail)
      go_wp2
      go_ret3
      refine ⟨ret_iii ?_ HA.out rfl, _, rfl⟩
      have := HC.out
      push_cast at this ⊢
      exact this

theorem bl_hi2' : ∀ a : Nat, a < 128 → Pm.bl 16 (256 * a) ≤ 16 := by decide +kernel
theorem bl_max (f m : Nat) : Pm.bl f m ≤ f := by
  induction f generalizing m with
  | zero => simp [Pm.bl]
  | succ f ih =>
    rw [Pm.bl]
    split
    · omega
    · have := ih (m / 2); omega
theorem bl_min (m : Nat) (h : 4 ≤ m) : 3 ≤ Pm.bl 16 m := by
  rw [bl_succ 15 m (by omega), bl_succ 14 _ (by omega), bl_succ 13 _ (by omega)]
  omega

set_option maxRecDepth 100000 in
set_option maxHeartbeats 1000000 in
theorem distanceCode_any (w : World) (d : Nat) (h1 : 1 ≤ d) (h2 : d ≤ 32768) :
    Calls Try.prog 50 #[.int .i64 d] w fun e w' => e = .returned (.tuple #[.int .i64 ((Pm.distC d).1 : Nat), .int .i64 ((Pm.distC d).2.1 : Nat), .int .i64 ((Pm.distC d).2.2 : Nat)]) ∧ ∃ q, w' = w.drewN q := by
  by_cases h8 : d - 1 < 4
  · have e : Pm.distC d = (d - 1, 0, 0) := by unfold Pm.distC; rw [if_pos h8]
    rw [e]
    clear e
    go_enter Try.func50, Try.ntmps50
    go_wp2
    go_ret3
    exact ⟨ret_iii (by first | omega | (simp; omega)) rfl rfl, 0, rfl⟩
  · have e : Pm.distC d = (2 * (Pm.bl 16 (d - 1) - 2) + (d - 1) / 2 ^ (Pm.bl 16 (d - 1) - 2), (d - 1) % 2 ^ (Pm.bl 16 (d - 1) - 2), Pm.bl 16 (d - 1) - 2) := by unfold Pm.distC; rw [if_neg h8]
    rw [e]
    clear e
    have hb1 := bl_min (d - 1) (by omega)
    have hb2 := bl_max 16 (d - 1)
    have HLen := hide (fun wx => len_any wx (d - 1) (by omega))
    generalize hm : d - 1 = m at *
    have hnm : (d : Int) - 1 = (m : Int) := by omega
    generalize Pm.bl 16 m = L at *
    obtain ⟨W, rfl⟩ : ∃ W, L = W + 2 := ⟨L - 2, by omega⟩
    have hW : W + 2 - 2 = W := by omega
    rw [hW]
    have HA := hide (mask_val m W (by omega) (by omega))
    have HC := hide (code_val (2 * W) m W (by omega) (by omega))
    have hm8 : 4 ≤ m := by omega
    have hm9 : m < 32768 := by omega
    clear hm hW
    go_enter Try.func50, Try.ntmps50
    go_wp2_with fail
    refine (HLen.out _).mono ?_
    rintro e w1 ⟨rfl, rfl⟩
    go_wp2
    go_quiet (fail)
    go_wp2
    go_ret3
    refine ⟨ret_iii ?_ HA.out rfl, _, rfl⟩
    have := HC.out
    push_cast at this ⊢
    exact this
end Go.Proofs.Ytbklfkpjoinofaa
