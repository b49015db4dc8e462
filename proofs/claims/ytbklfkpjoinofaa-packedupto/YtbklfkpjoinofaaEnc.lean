import Derived.Test.YtbklfkpjoinofaaNum2
set_option linter.unusedVariables false
set_option linter.unusedSimpArgs false
namespace Go.Proofs.Ytbklfkpjoinofaa.Pm

theorem num_append (a b : List UInt8) : num (a ++ b) = num a + 2 ^ (8 * a.length) * num b := by
  induction a with
  | nil => simp [num]
  | cons c r ih =>
    simp only [List.cons_append, num, List.length_cons, ih]
    rw [show 8 * (r.length + 1) = 8 + 8 * r.length from by omega, Nat.pow_add, Nat.mul_assoc]
    have : (2 : Nat) ^ 8 = 256 := by decide
    rw [this, Nat.mul_add]
    omega

/-- The first n bits of l make the number N. -/
def Pre (l : List UInt8) (N n : Nat) : Prop := n ≤ 8 * l.length ∧ num l % 2 ^ n = N

theorem Pre.split {l : List UInt8} {N n v k : Nat} (hN : N < 2 ^ n) (hv : v < 2 ^ k) (h : Pre l (N + v * 2 ^ n) (n + k)) : Pre l N n ∧ lowV l n k = v := by
  obtain ⟨h1, h2⟩ := h
  rw [Nat.pow_add, Nat.mod_mul] at h2
  have e1 : num l % 2 ^ n < 2 ^ n := Nat.mod_lt _ (Nat.two_pow_pos n)
  have h3 : num l % 2 ^ n + 2 ^ n * (num l / 2 ^ n % 2 ^ k) = N + 2 ^ n * v := by rw [h2, Nat.mul_comm v]
  have h4 : num l % 2 ^ n = N := by
    have := congrArg (· % 2 ^ n) h3
    simp only [Nat.add_mul_mod_self_left] at this
    rw [Nat.mod_eq_of_lt e1, Nat.mod_eq_of_lt hN] at this
    exact this
  have h5 : num l / 2 ^ n % 2 ^ k = v := by
    have h6 : 2 ^ n * (num l / 2 ^ n % 2 ^ k) = 2 ^ n * v := by omega
    exact Nat.eq_of_mul_eq_mul_left (Nat.two_pow_pos n) h6
  exact ⟨⟨by omega, h4⟩, h5⟩

theorem grow_lt {N n v k : Nat} (hN : N < 2 ^ n) (hv : v < 2 ^ k) : N + v * 2 ^ n < 2 ^ (n + k) := by
  rw [Nat.pow_add, Nat.mul_comm (2 ^ n)]
  have h1 : (v + 1) * 2 ^ n ≤ 2 ^ k * 2 ^ n := Nat.mul_le_mul_right _ hv
  rw [Nat.succ_mul] at h1
  omega

theorem rev_rev : ∀ k : Nat, k < 10 → ∀ v : Nat, v < 512 → v < 2 ^ k → revV k (revV k v) = v ∧ revV k v < 2 ^ k := by decide +kernel

/-- The bits of a code, the highest first, and how many. -/
def symOut (c : Nat) : Nat × Nat :=
  if c < 144 then (48 + c, 8) else if c < 256 then (400 + c - 144, 9) else if c < 280 then (c - 256, 7) else (192 + c - 280, 8)

/-- What nine bits say. -/
def symF (x : Nat) : Nat × Nat :=
  if revV 7 x ≤ 23 then (256 + revV 7 x, 7)
  else if 2 * revV 7 x + x / 2 ^ 7 % 2 ≤ 191 then (2 * revV 7 x + x / 2 ^ 7 % 2 - 48, 8)
  else if 2 * revV 7 x + x / 2 ^ 7 % 2 ≤ 199 then (2 * revV 7 x + x / 2 ^ 7 % 2 + 88, 8)
  else (2 * (2 * revV 7 x + x / 2 ^ 7 % 2) + x / 2 ^ 8 % 2 - 256, 9)

theorem symV_F (l : List UInt8) (p : Nat) : symV l p = symF (lowV l p 9) := by
  unfold symV symF
  rw [highV_rev l p 9 7 (by decide), lowV_bit l p 9 7 (by decide), lowV_bit l p 9 8 (by decide)]

theorem symF_out : ∀ c : Nat, c < 288 → ∀ r : Nat, r < 4 → r < 2 ^ (9 - (symOut c).2) → symF (revV (symOut c).2 (symOut c).1 + 2 ^ (symOut c).2 * r) = (c, (symOut c).2) := by decide +kernel
theorem symOut_lt : ∀ c : Nat, c < 288 → (symOut c).1 < 2 ^ (symOut c).2 ∧ (symOut c).1 < 512 ∧ 7 ≤ (symOut c).2 ∧ (symOut c).2 ≤ 9 := by decide +kernel

theorem sym_dec {l : List UInt8} {p c : Nat} (hc : c < 288) (h : lowV l p (symOut c).2 = revV (symOut c).2 (symOut c).1) : symV l p = (c, (symOut c).2) := by
  have hw := symOut_lt c hc
  rw [symV_F]
  have e : 9 = (symOut c).2 + (9 - (symOut c).2) := by omega
  rw [e, lowV_add, h]
  have hr := lowV_lt l (p + (symOut c).2) (9 - (symOut c).2)
  have h4 : 2 ^ (9 - (symOut c).2) ≤ 2 ^ 2 := Nat.pow_le_pow_right (by decide) (by omega)
  exact symF_out c hc _ (by have : (2 : Nat) ^ 2 = 4 := by decide
                            omega) hr

/-- The bit length of a number. -/
def bl : Nat → Nat → Nat
  | 0, _ => 0
  | f + 1, m => if m = 0 then 0 else bl f (m / 2) + 1

/-- A length's code, its more bits, and how many. -/
def lenC (n : Nat) : Nat × Nat × Nat :=
  if n = 258 then (285, 0, 0) else if n - 3 < 8 then (257 + (n - 3), 0, 0)
  else (257 + 4 * (bl 16 (n - 3) - 3) + (n - 3) / 2 ^ (bl 16 (n - 3) - 3), (n - 3) % 2 ^ (bl 16 (n - 3) - 3), bl 16 (n - 3) - 3)
/-- A distance's. -/
def distC (d : Nat) : Nat × Nat × Nat :=
  if d - 1 < 4 then (d - 1, 0, 0)
  else (2 * (bl 16 (d - 1) - 2) + (d - 1) / 2 ^ (bl 16 (d - 1) - 2), (d - 1) % 2 ^ (bl 16 (d - 1) - 2), bl 16 (d - 1) - 2)

theorem lenC_ok : ∀ n : Nat, n < 259 → 3 ≤ n → 257 ≤ (lenC n).1 ∧ (lenC n).1 ≤ 285 ∧ (lenC n).2.2 = lenBits (lenC n).1 ∧ (lenC n).2.1 < 2 ^ (lenC n).2.2 ∧ lenStart (lenC n).1 + (lenC n).2.1 = n ∧ ¬ (258 ≤ n ∧ (lenC n).1 ≠ 285) := by decide +kernel
theorem distC_ok' : ∀ a : Nat, a < 256 → ∀ b : Nat, b < 128 → (distC (128 * a + b + 1)).1 ≤ 29 ∧ (distC (128 * a + b + 1)).2.2 = distBits (distC (128 * a + b + 1)).1 ∧ (distC (128 * a + b + 1)).2.1 < 2 ^ (distC (128 * a + b + 1)).2.2 ∧ distStart (distC (128 * a + b + 1)).1 + (distC (128 * a + b + 1)).2.1 = 128 * a + b + 1 := by decide +kernel
theorem distC_ok (d : Nat) (h : d < 32769) (h1 : 1 ≤ d) : (distC d).1 ≤ 29 ∧ (distC d).2.2 = distBits (distC d).1 ∧ (distC d).2.1 < 2 ^ (distC d).2.2 ∧ distStart (distC d).1 + (distC d).2.1 = d := by
  have := distC_ok' ((d - 1) / 128) (by omega) ((d - 1) % 128) (by omega)
  have e : 128 * ((d - 1) / 128) + (d - 1) % 128 + 1 = d := by omega
  rwa [e] at this
end Go.Proofs.Ytbklfkpjoinofaa.Pm
