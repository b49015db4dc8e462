import Derived.Test.YtbklfkpjoinofaaPr6
import Derived.Test.YtbklfkpjoinofaaSum0
import Derived.Laws.IdiomStrings
import Derived.Laws.BytesArg
set_option linter.unusedVariables false
set_option linter.unusedSimpArgs false
namespace Go.Proofs.Ytbklfkpjoinofaa
open Go.RowKit

theorem and32 : ∀ x : Nat, x < 256 → (bits BinOp.and IntKind.u8 (x : Int) 32 == 0) = decide (x / 32 % 2 = 0) := by decide +kernel

theorem getD_at' (s : ByteArray) (i : Nat) (h : i < s.size) : s.data.toList.getD i 0 = s[i] := by
  rw [List.getD_eq_getElem?_getD, List.getElem?_eq_getElem (by simpa using h)]; rfl

set_option maxRecDepth 100000 in
set_option maxHeartbeats 1000000 in
theorem hasHead_any (w : World) (s : ByteArray) (hs : s.size ≤ 140737488355328) :
    Calls Try.prog 18 #[.string s] w fun e w' => e = .returned (.bool (Pm.headB s.data.toList)) ∧ w' = w := by
  have hlen : s.data.toList.length = s.size := by simp
  unfold Pm.headB
  rw [hlen]
  by_cases h2 : s.size < 2
  · have e1 : decide (2 ≤ s.size ∧ (s.data.toList.getD 0 0).toNat = 120 ∧ (30720 + (s.data.toList.getD 1 0).toNat) % 31 = 0 ∧ (s.data.toList.getD 1 0).toNat / 32 % 2 = 0) = false := decide_eq_false (by omega)
    rw [e1]
    clear e1 hlen
    go_enter Try.func18, Try.ntmps18
    go_wp2
    go_ret
    exact ⟨rfl, rfl⟩
  · have h0 : 0 < s.size := by omega
    have h1 : 1 < s.size := by omega
    rw [getD_at' s 0 h0, getD_at' s 1 h1]
    have b0 : s[0].toNat < 256 := s[0].toNat_lt
    have b1 : s[1].toNat < 256 := s[1].toNat_lt
    have w1 := wrap64_byteI s[1]
    have h32 := and32 s[1].toNat b1
    clear hlen
    by_cases k0 : s[0].toNat = 120
    · have q0 : (((s[0].toNat : Nat) : Int) != 120) = false := by rw [bne_eq_false_iff_eq]; omega
      by_cases k1 : (30720 + s[1].toNat) % 31 = 0
      · have q1 : (((30720 : Int) + ((s[1].toNat : Nat) : Int)) % 31 == 0) = true := by rw [beq_iff_eq]; omega
        have e1 : decide (2 ≤ s.size ∧ s[0].toNat = 120 ∧ (30720 + s[1].toNat) % 31 = 0 ∧ s[1].toNat / 32 % 2 = 0) = decide (s[1].toNat / 32 % 2 = 0) := by
          rw [Bool.eq_iff_iff]; simp only [decide_eq_true_eq]; constructor
          · exact fun h => h.2.2.2
          · exact fun h => ⟨by omega, k0, k1, h⟩
        rw [e1]
        clear e1 k0 k1
        generalize decide (s[1].toNat / 32 % 2 = 0) = z at *
        go_enter Try.func18, Try.ntmps18
        go_wp2
        go_ret
        exact ⟨rfl, rfl⟩
      · have q1 : (((30720 : Int) + ((s[1].toNat : Nat) : Int)) % 31 == 0) = false := by rw [beq_eq_false_iff_ne]; omega
        have e1 : decide (2 ≤ s.size ∧ s[0].toNat = 120 ∧ (30720 + s[1].toNat) % 31 = 0 ∧ s[1].toNat / 32 % 2 = 0) = false := decide_eq_false (fun h => k1 h.2.2.1)
        rw [e1]
        clear e1 k0 k1 h32
        go_enter Try.func18, Try.ntmps18
        go_wp2
        go_ret
        exact ⟨rfl, rfl⟩
    · have q0 : (((s[0].toNat : Nat) : Int) != 120) = true := by rw [bne_iff_ne]; omega
      have e1 : decide (2 ≤ s.size ∧ s[0].toNat = 120 ∧ (30720 + s[1].toNat) % 31 = 0 ∧ s[1].toNat / 32 % 2 = 0) = false := decide_eq_false (fun h => k0 h.2.1)
      rw [e1]
      clear e1 k0 h32
      go_enter Try.func18, Try.ntmps18
      go_wp2
      go_ret
      exact ⟨rfl, rfl⟩
end Go.Proofs.Ytbklfkpjoinofaa
