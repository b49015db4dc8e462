import Derived.Test.YtbklfkpjoinofaaPr1
import Derived.Test.YtbklfkpjoinofaaBit0
import Derived.Lib.Tables
set_option linter.unusedVariables false
set_option linter.unusedSimpArgs false
namespace Go.Proofs.Ytbklfkpjoinofaa
open Go.RowKit

theorem len_val : ∀ c : Nat, c < 285 → 265 ≤ c → (3 + (4 + ((c : Int) - 257) % 4) * 2 ^ ((c - 257) / 4 - 1) = ((Pm.lenStart c : Nat) : Int)) ∧ 0 ≤ (4 + ((c : Int) - 257) % 4) * 2 ^ ((c - 257) / 4 - 1) ∧ (4 + ((c : Int) - 257) % 4) * 2 ^ ((c - 257) / 4 - 1) ≤ 100000 ∧
    ((c : Int) - 257) / 4 - 1 = ((Pm.lenBits c : Nat) : Int) := by decide +kernel
theorem dist_val : ∀ c : Nat, c < 30 → 4 ≤ c → (1 + (2 + (c : Int) % 2) * 2 ^ (c / 2 - 1) = ((Pm.distStart c : Nat) : Int)) ∧ 0 ≤ (2 + (c : Int) % 2) * 2 ^ (c / 2 - 1) ∧ (2 + (c : Int) % 2) * 2 ^ (c / 2 - 1) ≤ 100000 ∧
    (c : Int) / 2 - 1 = ((Pm.distBits c : Nat) : Int) := by decide +kernel

set_option maxRecDepth 100000 in
set_option maxHeartbeats 1000000 in
theorem lengthStart_any (w : World) (c : Nat) (h1 : 257 ≤ c) (h2 : c ≤ 285) :
    Calls Try.prog 65 #[.int .i64 c] w fun e w' => e = .returned (.tuple #[.int .i64 (Pm.lenStart c : Nat), .int .i64 (Pm.lenBits c : Nat)]) ∧ w' = w := by
  by_cases h : c = 285
  · subst h
    have e1 : Pm.lenStart 285 = 258 := by decide
    have e2 : Pm.lenBits 285 = 0 := by decide
    rw [e1, e2]
    go_enter Try.func65, Try.ntmps65
    go_wp2
    go_ret2
    exact ⟨rfl, rfl⟩
  · by_cases h8 : c < 265
    · have e1 : Pm.lenStart c = c - 254 := by unfold Pm.lenStart; rw [if_neg h, if_pos h8]
      have e2 : Pm.lenBits c = 0 := by unfold Pm.lenBits; rw [if_pos (Or.inl h8)]
      have HE : Hid ((3 : Int) + ((c : Int) - 257) = ((Pm.lenStart c : Nat) : Int)) := by show _ = _; rw [e1]; omega
      rw [e2]
      clear e1 e2
      go_enter Try.func65, Try.ntmps65
      go_wp2
      go_ret2
      exact ⟨ret_ii HE.out rfl, rfl⟩
    · go_enter Try.func65, Try.ntmps65
      go_wp2
      go_ret2
      have hh := len_val c (by omega) (by omega)
      refine ⟨ret_ii ?_ hh.2.2.2, rfl⟩
      rw [IntWalk.wrap64_in ((4 + ((c : Int) - 257) % 4) * 2 ^ ((c - 257) / 4 - 1)) (by omega), IntWalk.wrap64_in _ (by omega), hh.1]

set_option maxRecDepth 100000 in
set_option maxHeartbeats 1000000 in
theorem distanceStart_any (w : World) (c : Nat) (h2 : c < 30) :
    Calls Try.prog 66 #[.int .i64 c] w fun e w' => e = .returned (.tuple #[.int .i64 (Pm.distStart c : Nat), .int .i64 (Pm.distBits c : Nat)]) ∧ w' = w := by
  by_cases h8 : c < 4
  · have e1 : Pm.distStart c = 1 + c := by unfold Pm.distStart; rw [if_pos h8]
    have e2 : Pm.distBits c = 0 := by unfold Pm.distBits; rw [if_pos h8]
    have HE : Hid ((1 : Int) + (c : Int) = ((Pm.distStart c : Nat) : Int)) := by show _ = _; rw [e1]; omega
    rw [e2]
    clear e1 e2
    go_enter Try.func66, Try.ntmps66
    go_wp2
    go_ret2
    exact ⟨ret_ii HE.out rfl, rfl⟩
  · go_enter Try.func66, Try.ntmps66
    go_wp2
    go_ret2
    have hh := dist_val c (by omega) (by omega)
    refine ⟨ret_ii ?_ hh.2.2.2, rfl⟩
    rw [IntWalk.wrap64_in ((2 + (c : Int) % 2) * 2 ^ (c / 2 - 1)) (by omega), IntWalk.wrap64_in _ (by omega), hh.1]

set_option maxRecDepth 100000 in
set_option maxHeartbeats 1000000 in
/-- takeHighFirst, of up to nine bits. -/
theorem takeHigh_ok (w : World) (b : Nat) (s : ByteArray) (p n k : Nat) (h : PR w b s p n) (hn : n < 8) (hk : k < 10) (hs : s.size ≤ 140737488355328) (hp : p + k ≤ 8 * s.size) :
    Calls Try.prog 59 #[.pointer (some ⟨b, 0, none⟩), .int .i64 k] w fun e w' => e = .returned (.tuple #[.int .i64 (Pm.highV s.data.toList p k : Nat), .bool true]) ∧ (∃ n', n' < 8 ∧ PR w' b s (p + k) n') ∧ Few b w w' := by
  have hlt := Pm.lowV_lt s.data.toList p k
  have HH := hide (Pm.highV_rev s.data.toList p k k (Nat.le_refl k))
  go_enter Try.func59, Try.ntmps59
  go_wp2_with fail
  refine (take_ok w b s p n k h hn (by omega) hs hp).mono ?_
  rintro e w1 ⟨rfl, ⟨n', hn', hr'⟩, ho'⟩
  generalize Pm.lowV s.data.toList p k = v at *
  go_wp2_with fail
  refine (highFirst_any w1 v k hk hlt).mono ?_
  rintro e w2 ⟨rfl, q, rfl⟩
  go_wp2
  go_ret2
  exact ⟨ret_ib (by rw [HH.out]), ⟨n', hn', hr'.drewN _⟩, ho'.drewN _⟩

set_option maxRecDepth 100000 in
set_option maxHeartbeats 1000000 in
theorem takeHigh_no (w : World) (b : Nat) (s : ByteArray) (p n k : Nat) (h : PR w b s p n) (hn : n < 16) (hk : k < 10) (hs : s.size ≤ 140737488355328) (hp : 8 * s.size < p + k) :
    Calls Try.prog 59 #[.pointer (some ⟨b, 0, none⟩), .int .i64 k] w fun e w' => (∃ z, e = .returned (.tuple #[.int .i64 z, .bool false])) ∧ (∃ n', n' < 16 ∧ PR w' b s p n') ∧ Few b w w' := by
  go_enter Try.func59, Try.ntmps59
  go_wp2_with fail
  refine (take_no w b s p n k h hn (by omega) hs hp).mono ?_
  rintro e w1 ⟨rfl, ⟨n', hn', hr'⟩, ho'⟩
  go_wp2_with fail
  refine (highFirst_any w1 0 k hk (Nat.two_pow_pos k)).mono ?_
  rintro e w2 ⟨rfl, q, rfl⟩
  go_wp2
  go_ret2
  exact ⟨⟨_, rfl⟩, ⟨n', hn', hr'.drewN _⟩, ho'.drewN _⟩
end Go.Proofs.Ytbklfkpjoinofaa
