import Derived.Test.YtbklfkpjoinofaaWr1
import Derived.Test.YtbklfkpjoinofaaNum2
import Derived.Test.YtbklfkpjoinofaaEnc3
set_option linter.unusedVariables false
set_option linter.unusedSimpArgs false
namespace Go.Proofs.Ytbklfkpjoinofaa
open Go.RowKit

/-- The i-th of the sum's four bytes, the high one first; and the first k of them as bits. -/
def sbyte (t i : Nat) : Nat := t / 2 ^ (24 - 8 * i) % 256
def sbits (t : Nat) : Nat → Nat
  | 0 => 0
  | k + 1 => sbits t k + sbyte t k * 2 ^ (8 * k)
theorem sbyte_lt (t i : Nat) : sbyte t i < 256 := Nat.mod_lt _ (by decide)

/-- The end: the four bytes of the sum. -/
theorem be4_of {l : List UInt8} {N M t : Nat} (hl : l.length = M + 4) (hN : N < 2 ^ (8 * M)) (h : Pm.num l = N + sbits t 4 * 2 ^ (8 * M)) (ht : t < 4294967296) : Pm.Pre l N (8 * M) ∧ Pm.be4 l M = t := by
  have hb : sbits t 4 = sbyte t 0 + sbyte t 1 * 256 + sbyte t 2 * 65536 + sbyte t 3 * 16777216 := by
    simp [sbits]
  have hdiv : Pm.num l / 2 ^ (8 * M) = sbits t 4 := by
    rw [h, Nat.add_mul_div_right _ _ (Nat.two_pow_pos _), Nat.div_eq_of_lt hN, Nat.zero_add]
  refine ⟨⟨by omega, by rw [h, Nat.add_mul_mod_self_right, Nat.mod_eq_of_lt hN]⟩, ?_⟩
  have hget : ∀ i, (l.getD (M + i) 0).toNat = sbits t 4 / 2 ^ (8 * i) % 256 := by
    intro i
    rw [← Pm.num_byte]
    unfold Pm.lowV
    rw [Nat.mul_add, Nat.pow_add, ← Nat.div_div_eq_div_mul, hdiv]
  have g0 := hget 0
  have g1 := hget 1
  have g2 := hget 2
  have g3 := hget 3
  have h0 := sbyte_lt t 0
  have h1 := sbyte_lt t 1
  have h2 := sbyte_lt t 2
  have h3 := sbyte_lt t 3
  have s0 : sbyte t 0 = t / 16777216 % 256 := rfl
  have s1 : sbyte t 1 = t / 65536 % 256 := rfl
  have s2 : sbyte t 2 = t / 256 % 256 := rfl
  have s3 : sbyte t 3 = t % 256 := by show t / 1 % 256 = _; rw [Nat.div_one]
  have p0 : sbits t 4 / 2 ^ (8 * 0) = sbits t 4 := by simp
  have p1 : sbits t 4 / 2 ^ (8 * 1) = sbits t 4 / 256 := rfl
  have p2 : sbits t 4 / 2 ^ (8 * 2) = sbits t 4 / 65536 := rfl
  have p3 : sbits t 4 / 2 ^ (8 * 3) = sbits t 4 / 16777216 := rfl
  rw [p0] at g0
  rw [p1] at g1
  rw [p2] at g2
  rw [p3] at g3
  rw [Nat.add_zero] at g0
  unfold Pm.be4
  have q : ∀ b0 b1 b2 b3 X : Nat, b0 < 256 → b1 < 256 → b2 < 256 → b3 < 256 → X = b0 + b1 * 256 + b2 * 65536 + b3 * 16777216 → X % 256 = b0 ∧ X / 256 % 256 = b1 ∧ X / 65536 % 256 = b2 ∧ X / 16777216 % 256 = b3 := by
    intro b0 b1 b2 b3 X a0 a1 a2 a3 e
    refine ⟨?_, ?_, ?_, ?_⟩ <;> omega
  obtain ⟨x0, x1, x2, x3⟩ := q _ _ _ _ _ h0 h1 h2 h3 hb
  rw [g0, g1, g2, g3, x0, x1, x2, x3, s0, s1, s2, s3]
  clear q x0 x1 x2 x3 g0 g1 g2 g3 hb hget hdiv p0 p1 p2 p3 s0 s1 s2 s3 h0 h1 h2 h3 h
  omega

theorem strm_zero (F : List UInt8) : strm F 0 = Pm.num F := by unfold strm; omega

theorem and255 (x : Nat) : bits BinOp.and IntKind.u32 (x : Int) 255 = ((x % 256 : Nat) : Int) := by
  have h1 : (BitVec.ofInt 32 255).toNat = 2 ^ 8 - 1 := by decide
  have key : (BitVec.ofInt 32 (x : Int) &&& BitVec.ofInt 32 255).toNat = ((x : Int) % ((2 ^ 32 : Nat) : Int)).toNat % 2 ^ 8 := by
    rw [BitVec.toNat_and, BitVec.toNat_ofInt, h1, Nat.and_two_pow_sub_one_eq_mod]
  show IntKind.u32.wrap ((BitVec.ofInt 32 (x : Int) &&& BitVec.ofInt 32 255).toNat : Nat) = _
  rw [key, IntKind.wrap_u32]
  omega

theorem sbyte_val (t i : Nat) (ht : t < 4294967296) (hi : i < 4) (x : Int) (hx : x = ((t / 2 ^ (24 - 8 * i) : Nat) : Int)) : wrap64 (bits BinOp.and IntKind.u32 x 255) = ((sbyte t i : Nat) : Int) := by
  have := sbyte_lt t i
  rw [hx, and255, IntWalk.wrap64_in _ (by unfold sbyte at this; omega)]
  rfl

theorem sbits_next {F0 Fk F' : List UInt8} {t k : Nat} (h : Pm.num Fk = Pm.num F0 + sbits t k * 2 ^ (8 * F0.length)) (hl : Fk.length = F0.length + k) (h2 : Pm.num F' = Pm.num Fk + sbyte t k * 2 ^ (8 * Fk.length + 0)) : Pm.num F' = Pm.num F0 + sbits t (k + 1) * 2 ^ (8 * F0.length) := by
  rw [h2, h, hl, sbits, Nat.add_zero, Nat.mul_add, Nat.pow_add, Nat.add_mul, Nat.add_assoc, Nat.mul_assoc, Nat.mul_comm (2 ^ (8 * k))]

end Go.Proofs.Ytbklfkpjoinofaa
