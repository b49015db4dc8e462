import Derived.Test.YtbklfkpjoinofaaOwn
import Derived.BigRegion
import Derived.Lib.Tables
set_option linter.unusedVariables false
set_option linter.unusedSimpArgs false
namespace Go.Proofs.Ytbklfkpjoinofaa
open Go.RowKit

theorem ret_ii {a b c d : Int} (h : a = b) (g : c = d) : Ending.returned (.tuple #[.int .i64 a, .int .i64 c]) = .returned (.tuple #[.int .i64 b, .int .i64 d]) := by rw [h, g]
theorem rev16_val : ∀ x : Nat, x < 512 → bits BinOp.or IntKind.u16 (IntKind.u16.wrap (Lib.rev8 ((x : Int) / 256))) (IntKind.u16.wrap (IntKind.u16.wrap (Lib.rev8 ((x : Int) % 256)) * 256)) = ((Pm.revV 16 x : Nat) : Int) := by decide +kernel
theorem rev_cut : ∀ k : Nat, k < 10 → ∀ x : Nat, x < 512 → x < 2 ^ k → Pm.revV 16 x / 2 ^ (16 - k) = Pm.revV k x ∧ Pm.revV 16 x < 65536 := by decide +kernel

set_option maxRecDepth 100000 in
set_option maxHeartbeats 1000000 in
theorem reverse16_any (w : World) (x : Nat) (hx : x < 512) :
    Calls Try.prog 64 #[.int .u16 x] w fun e w' => e = .returned (.int .u16 (Pm.revV 16 x : Nat)) ∧ ∃ n, w' = w.drewN n := by
  have e1 : bits BinOp.and IntKind.u16 (x : Int) 255 = (x : Int) % 256 := by
    have := u16_and_nat x 255 (by omega) (by omega)
    rw [nat_mask8] at this
    simpa using this
  have h1 : 0 ≤ (x : Int) / 256 := by omega
  have h2 : (x : Int) / 256 ≤ 255 := by omega
  have h3 : 0 ≤ (x : Int) % 256 := by omega
  have h4 : (x : Int) % 256 ≤ 255 := by omega
  go_enter Try.func64, Try.ntmps64
  go_wp2
  go_quiet (fail)
  go_wp2
  go_ret
  exact ⟨ret_int (rev16_val x hx), _, rfl⟩

set_option maxRecDepth 100000 in
set_option maxHeartbeats 1000000 in
theorem highFirst_any (w : World) (v k : Nat) (hk : k < 10) (hv : v < 2 ^ k) :
    Calls Try.prog 58 #[.int .i64 v, .int .i64 k] w fun e w' => e = .returned (.int .i64 (Pm.revV k v : Nat)) ∧ ∃ n, w' = w.drewN n := by
  have hv5 : v < 512 := Nat.lt_of_lt_of_le hv (Nat.le_trans (Nat.pow_le_pow_right (by decide) (show k ≤ 9 by omega)) (by decide))
  have HC := hide (rev_cut k hk v hv5 hv)
  have hlt := HC.out.2
  clear hv
  go_enter Try.func58, Try.ntmps58
  go_wp2_with fail
  refine (reverse16_any w v hv5).mono ?_
  rintro e w1 ⟨rfl, n, rfl⟩
  generalize hR : Pm.revV 16 v = R at *
  clear hR
  go_wp2
  go_ret
  refine ⟨ret_int ?_, _, rfl⟩
  have e1 : (R : Int) / 2 ^ (16 - k) = ((R / 2 ^ (16 - k) : Nat) : Int) := by push_cast; rfl
  have h2 : R / 2 ^ (16 - k) ≤ R := Nat.div_le_self _ _
  have h3 := HC.out.1
  rw [e1]
  generalize R / 2 ^ (16 - k) = D at *
  rw [IntWalk.wrap64_in _ (by omega), h3]
end Go.Proofs.Ytbklfkpjoinofaa
