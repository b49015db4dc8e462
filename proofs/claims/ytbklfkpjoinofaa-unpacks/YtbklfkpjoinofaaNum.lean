/-
  Plain numbers: the bits of a string of bytes, and what stands packed in them. Nothing of the program is imported here.
-/
set_option linter.unusedVariables false
set_option linter.unusedSimpArgs false
namespace Go.Proofs.Ytbklfkpjoinofaa.Pm

/-- The number that bytes make, the low one first. -/
def num : List UInt8 → Nat
  | [] => 0
  | c :: r => c.toNat + 256 * num r

/-- The n bits from the bit p on, the lowest first; behind the end they are 0. -/
def lowV (l : List UInt8) (p n : Nat) : Nat := num l / 2 ^ p % 2 ^ n

/-- The n bits from the bit p on, the highest first. -/
def highV (l : List UInt8) (p : Nat) : Nat → Nat
  | 0 => 0
  | n + 1 => 2 * highV l p n + lowV l (p + n) 1

/-- The lowest n bits of v, turned round. -/
def revV : Nat → Nat → Nat
  | 0, _ => 0
  | n + 1, v => 2 * revV n v + v / 2 ^ n % 2

theorem lowV_lt (l : List UInt8) (p n : Nat) : lowV l p n < 2 ^ n := Nat.mod_lt _ (Nat.two_pow_pos n)

theorem lowV_zero (l : List UInt8) (p : Nat) : lowV l p 0 = 0 := by simp [lowV, Nat.mod_one]

theorem lowV_add (l : List UInt8) (p a b : Nat) : lowV l p (a + b) = lowV l p a + 2 ^ a * lowV l (p + a) b := by
  unfold lowV
  rw [Nat.pow_add 2 a b, Nat.mod_mul, Nat.pow_add 2 p a, Nat.div_div_eq_div_mul]

theorem lowV_bit (l : List UInt8) (p m k : Nat) (h : k < m) : lowV l p m / 2 ^ k % 2 = lowV l (p + k) 1 := by
  have e : m = k + (1 + (m - k - 1)) := by omega
  rw [e, lowV_add, lowV_add]
  have h1 := lowV_lt l p k
  have h2 := lowV_lt l (p + k) 1
  rw [Nat.add_mul_div_left _ _ (Nat.two_pow_pos k), Nat.div_eq_of_lt h1]
  omega

theorem highV_rev (l : List UInt8) (p m n : Nat) (h : n ≤ m) : highV l p n = revV n (lowV l p m) := by
  induction n with
  | zero => rfl
  | succ n ih => rw [highV, revV, ih (by omega), lowV_bit l p m n (by omega)]

theorem highV_lt (l : List UInt8) (p n : Nat) : highV l p n < 2 ^ n := by
  induction n with
  | zero => simp [highV]
  | succ n ih =>
    have := lowV_lt l (p + n) 1
    rw [highV, Nat.pow_succ]; omega

theorem num_byte (l : List UInt8) (i : Nat) : lowV l (8 * i) 8 = (l.getD i 0).toNat := by
  induction l generalizing i with
  | nil => simp [lowV, num]
  | cons c r ih =>
    have hc : c.toNat < 256 := c.toNat_lt
    cases i with
    | zero => simp [lowV, num]
    | succ i =>
      have h2 := ih i
      unfold lowV at h2 ⊢
      rw [show 8 * (i + 1) = 8 + 8 * i from by omega, Nat.pow_add, ← Nat.div_div_eq_div_mul]
      have e : num (c :: r) / 2 ^ 8 = num r := by simp only [num]; omega
      rw [e, h2]; simp

theorem num_lt (l : List UInt8) : num l < 2 ^ (8 * l.length) := by
  induction l with
  | nil => simp [num]
  | cons c r ih =>
    have hc : c.toNat < 256 := c.toNat_lt
    simp only [num, List.length_cons]
    rw [show 8 * (r.length + 1) = 8 + 8 * r.length from by omega, Nat.pow_add]
    have : (2 : Nat) ^ 8 = 256 := by decide +kernel
    rw [this]; omega

theorem lowV_end (l : List UInt8) (p n : Nat) (h : 8 * l.length ≤ p) : lowV l p n = 0 := by
  unfold lowV
  have h1 := num_lt l
  have h2 : 2 ^ (8 * l.length) ≤ 2 ^ p := Nat.pow_le_pow_right (by decide) h
  rw [Nat.div_eq_of_lt (by omega)]; simp

theorem bit_byte (l : List UInt8) (p : Nat) : lowV l p 1 = (l.getD (p / 8) 0).toNat / 2 ^ (p % 8) % 2 := by
  rw [← num_byte, lowV_bit _ _ _ _ (Nat.mod_lt _ (by decide))]
  congr 1; omega


/-- How many more bits a length's code has; the least length of a code. -/
def lenBits (c : Nat) : Nat := if c < 265 ∨ c = 285 then 0 else (c - 261) / 4
def lenStart (c : Nat) : Nat := if c = 285 then 258 else if c < 265 then c - 254 else 3 + (4 + (c - 257) % 4) * 2 ^ ((c - 261) / 4)
/-- The same of distances. -/
def distBits (c : Nat) : Nat := if c < 4 then 0 else (c - 2) / 2
def distStart (c : Nat) : Nat := if c < 4 then 1 + c else 1 + (2 + c % 2) * 2 ^ ((c - 2) / 2)

theorem lenStart_succ : ∀ c, c < 284 → 257 ≤ c → lenStart (c + 1) = lenStart c + 2 ^ lenBits c := by decide +kernel
theorem distStart_succ : ∀ c, c < 29 → distStart (c + 1) = distStart c + 2 ^ distBits c := by decide +kernel
theorem lenBits_le : ∀ c, c < 286 → 257 ≤ c → lenBits c ≤ 5 ∧ 3 ≤ lenStart c ∧ lenStart c + 2 ^ lenBits c ≤ 259 := by decide +kernel
theorem distBits_le : ∀ c, c < 30 → distBits c ≤ 13 ∧ 1 ≤ distStart c ∧ distStart c + 2 ^ distBits c ≤ 32769 := by decide +kernel

/-- The code that stands at p, and how many bits it takes. -/
def symV (l : List UInt8) (p : Nat) : Nat × Nat :=
  if highV l p 7 ≤ 23 then (256 + highV l p 7, 7)
  else if 2 * highV l p 7 + lowV l (p + 7) 1 ≤ 191 then (2 * highV l p 7 + lowV l (p + 7) 1 - 48, 8)
  else if 2 * highV l p 7 + lowV l (p + 7) 1 ≤ 199 then (2 * highV l p 7 + lowV l (p + 7) 1 + 88, 8)
  else (2 * (2 * highV l p 7 + lowV l (p + 7) 1) + lowV l (p + 8) 1 - 256, 9)

/-- The two sums of bytes. -/
def sumV : List UInt8 → Nat × Nat → Nat × Nat
  | [], r => r
  | c :: r, (a, b) => sumV r ((a + c.toNat) % 65521, (b + (a + c.toNat) % 65521) % 65521)

theorem sumV_snoc (l : List UInt8) (c : UInt8) (r : Nat × Nat) : sumV (l ++ [c]) r = (((sumV l r).1 + c.toNat) % 65521, ((sumV l r).2 + ((sumV l r).1 + c.toNat) % 65521) % 65521) := by
  induction l generalizing r with
  | nil => rfl
  | cons d l ih => exact ih _

theorem sumV_lt (l : List UInt8) (r : Nat × Nat) (h : r.1 < 65521 ∧ r.2 < 65521) : (sumV l r).1 < 65521 ∧ (sumV l r).2 < 65521 := by
  induction l generalizing r with
  | nil => exact h
  | cons c l ih => exact ih _ ⟨Nat.mod_lt _ (by decide), Nat.mod_lt _ (by decide)⟩

/-- n bytes more, each the one that stands d before. -/
def copyV (out : List UInt8) (d : Nat) : Nat → List UInt8
  | 0 => out
  | n + 1 => copyV (out ++ [out.getD (out.length - d) 0]) d n

theorem copyV_length (out : List UInt8) (d n : Nat) : (copyV out d n).length = out.length + n := by
  induction n generalizing out with
  | zero => rfl
  | succ n ih => rw [copyV, ih]; simp; omega

/-- What 'n more' leaves, told from behind. -/
theorem copyV_succ (out : List UInt8) (d n : Nat) : copyV out d (n + 1) = copyV out d n ++ [(copyV out d n).getD ((copyV out d n).length - d) 0] := by
  induction n generalizing out with
  | zero => rfl
  | succ n ih => rw [copyV, ih]; rfl

/-- A length and a distance at q, of the code c: where they end, and what there is then. -/
def againM (l : List UInt8) (q c : Nat) (out : List UInt8) : Option (Nat × List UInt8) :=
  if 285 < c then none
  else if 8 * l.length < q + lenBits c then none
  else if 258 ≤ lenStart c + lowV l q (lenBits c) ∧ c ≠ 285 then none
  else if 1048576 < out.length + (lenStart c + lowV l q (lenBits c)) then none
  else if 8 * l.length < q + lenBits c + 5 then none
  else if 29 < highV l (q + lenBits c) 5 then none
  else if 8 * l.length < q + lenBits c + 5 + distBits (highV l (q + lenBits c) 5) then none
  else if out.length < distStart (highV l (q + lenBits c) 5) + lowV l (q + lenBits c + 5) (distBits (highV l (q + lenBits c) 5)) then none
  else some (q + lenBits c + 5 + distBits (highV l (q + lenBits c) 5),
    copyV out (distStart (highV l (q + lenBits c) 5) + lowV l (q + lenBits c + 5) (distBits (highV l (q + lenBits c) 5))) (lenStart c + lowV l q (lenBits c)))

/-- One code of a block: it ends (true), or goes on. -/
def stepM (l : List UInt8) (p : Nat) (out : List UInt8) : Option (Bool × Nat × List UInt8) :=
  if 8 * l.length < p + (symV l p).2 then none
  else if (symV l p).1 = 256 then some (true, p + (symV l p).2, out)
  else if (symV l p).1 < 256 then
    if 1048576 < out.length + 1 then none else some (false, p + (symV l p).2, out ++ [UInt8.ofNat (symV l p).1])
  else match againM l (p + (symV l p).2) (symV l p).1 out with
    | none => none
    | some (q, o) => some (false, q, o)

/-- A block of codes. -/
def codedM (l : List UInt8) : Nat → Nat → List UInt8 → Option (Nat × List UInt8)
  | 0, _, _ => none
  | f + 1, p, out => match stepM l p out with
    | none => none
    | some (true, q, o) => some (q, o)
    | some (false, q, o) => codedM l f q o

theorem symV_w (l : List UInt8) (p : Nat) : 7 ≤ (symV l p).2 ∧ (symV l p).2 ≤ 9 := by
  unfold symV
  repeat' split
  all_goals simp

theorem symV_c (l : List UInt8) (p : Nat) : (symV l p).1 ≤ 287 := by
  have h1 := highV_lt l p 7
  have h2 := lowV_lt l (p + 7) 1
  have h3 := lowV_lt l (p + 8) 1
  unfold symV
  repeat' split
  all_goals simp only []
  all_goals omega

theorem againM_some {l : List UInt8} {q c : Nat} {out : List UInt8} {q' : Nat} {o : List UInt8} (h : againM l q c out = some (q', o)) : q ≤ q' ∧ q' ≤ 8 * l.length ∧ o.length ≤ 1048576 := by
  unfold againM at h
  repeat' split at h
  all_goals first | (cases h; done) | skip
  simp only [Option.some.injEq, Prod.mk.injEq] at h
  obtain ⟨rfl, rfl⟩ := h
  rw [copyV_length]
  omega

theorem stepM_some {l : List UInt8} {p : Nat} {out : List UInt8} {e : Bool} {q : Nat} {o : List UInt8} (h : stepM l p out = some (e, q, o)) (ho : out.length ≤ 1048576) : p < q ∧ q ≤ 8 * l.length ∧ o.length ≤ 1048576 := by
  have hw := symV_w l p
  unfold stepM at h
  split at h
  · cases h
  · split at h
    · simp only [Option.some.injEq, Prod.mk.injEq] at h
      obtain ⟨_, rfl, rfl⟩ := h
      exact ⟨by omega, by omega, ho⟩
    · split at h
      · split at h
        · cases h
        · simp only [Option.some.injEq, Prod.mk.injEq] at h
          obtain ⟨_, rfl, rfl⟩ := h
          refine ⟨by omega, by omega, ?_⟩
          simp; omega
      · split at h
        · cases h
        · rename_i q' o' ha
          simp only [Option.some.injEq, Prod.mk.injEq] at h
          obtain ⟨_, rfl, rfl⟩ := h
          have := againM_some ha
          exact ⟨by omega, by omega, by omega⟩

theorem codedM_some {l : List UInt8} {f p : Nat} {out : List UInt8} {q : Nat} {o : List UInt8} (h : codedM l f p out = some (q, o)) (ho : out.length ≤ 1048576) : p < q ∧ q ≤ 8 * l.length ∧ o.length ≤ 1048576 := by
  induction f generalizing p out with
  | zero => cases h
  | succ f ih =>
    rw [codedM] at h
    split at h
    · cases h
    · rename_i q' o' hs
      simp only [Option.some.injEq, Prod.mk.injEq] at h
      obtain ⟨rfl, rfl⟩ := h
      exact stepM_some hs ho
    · rename_i q' o' hs
      have h1 := stepM_some hs ho
      have h2 := ih h h1.2.2
      exact ⟨by omega, h2.2⟩


theorem coded_none {l : List UInt8} {q : Nat} {o : List UInt8} {L : Nat} {res : Option (Nat × List UInt8)} (hq : q ≤ L) (h : ∃ f, L < q + f ∧ codedM l f q o = res) (hs : stepM l q o = none) : res = none := by
  obtain ⟨f, hf, rfl⟩ := h
  obtain ⟨f, rfl⟩ : ∃ g, f = g + 1 := ⟨f - 1, by omega⟩
  rw [codedM, hs]

theorem coded_end {l : List UInt8} {q : Nat} {o : List UInt8} {L : Nat} {res : Option (Nat × List UInt8)} {q' : Nat} {o' : List UInt8} (hq : q ≤ L) (h : ∃ f, L < q + f ∧ codedM l f q o = res) (hs : stepM l q o = some (true, q', o')) : res = some (q', o') := by
  obtain ⟨f, hf, rfl⟩ := h
  obtain ⟨f, rfl⟩ : ∃ g, f = g + 1 := ⟨f - 1, by omega⟩
  rw [codedM, hs]

theorem coded_go {l : List UInt8} {q : Nat} {o : List UInt8} {L : Nat} {res : Option (Nat × List UInt8)} {q' : Nat} {o' : List UInt8} (hq : q ≤ L) (h : ∃ f, L < q + f ∧ codedM l f q o = res) (hs : stepM l q o = some (false, q', o')) (hlt : q < q') : ∃ f, L < q' + f ∧ codedM l f q' o' = res := by
  obtain ⟨f, hf, rfl⟩ := h
  obtain ⟨f, rfl⟩ : ∃ g, f = g + 1 := ⟨f - 1, by omega⟩
  refine ⟨f, by omega, ?_⟩
  rw [codedM, hs]

theorem againM_conds {l : List UInt8} {q c : Nat} {out : List UInt8} (h : againM l q c out ≠ none) :
    c ≤ 285 ∧ q + lenBits c ≤ 8 * l.length ∧ ¬ (258 ≤ lenStart c + lowV l q (lenBits c) ∧ c ≠ 285) ∧ out.length + (lenStart c + lowV l q (lenBits c)) ≤ 1048576 ∧ q + lenBits c + 5 ≤ 8 * l.length ∧
    highV l (q + lenBits c) 5 ≤ 29 ∧ q + lenBits c + 5 + distBits (highV l (q + lenBits c) 5) ≤ 8 * l.length ∧
    distStart (highV l (q + lenBits c) 5) + lowV l (q + lenBits c + 5) (distBits (highV l (q + lenBits c) 5)) ≤ out.length := by
  unfold againM at h
  repeat' split at h
  all_goals first | (exact absurd rfl h) | skip
  refine ⟨?_, ?_, ?_, ?_, ?_, ?_, ?_, ?_⟩ <;> first | assumption | omega

theorem againM_eq {l : List UInt8} {q c : Nat} {out : List UInt8} (h1 : c ≤ 285) (h2 : q + lenBits c ≤ 8 * l.length) (h3 : ¬ (258 ≤ lenStart c + lowV l q (lenBits c) ∧ c ≠ 285)) (h4 : out.length + (lenStart c + lowV l q (lenBits c)) ≤ 1048576)
    (h5 : q + lenBits c + 5 ≤ 8 * l.length) (h6 : highV l (q + lenBits c) 5 ≤ 29) (h7 : q + lenBits c + 5 + distBits (highV l (q + lenBits c) 5) ≤ 8 * l.length)
    (h8 : distStart (highV l (q + lenBits c) 5) + lowV l (q + lenBits c + 5) (distBits (highV l (q + lenBits c) 5)) ≤ out.length) :
    againM l q c out = some (q + lenBits c + 5 + distBits (highV l (q + lenBits c) 5),
      copyV out (distStart (highV l (q + lenBits c) 5) + lowV l (q + lenBits c + 5) (distBits (highV l (q + lenBits c) 5))) (lenStart c + lowV l q (lenBits c))) := by
  unfold againM
  rw [if_neg (by omega), if_neg (by omega), if_neg h3, if_neg (by omega), if_neg (by omega), if_neg (by omega), if_neg (by omega), if_neg (by omega)]

theorem len_284 : ∀ c, c < 284 → 257 ≤ c → lenStart c + 2 ^ lenBits c ≤ 258 := by decide +kernel

theorem stepM_bad {l : List UInt8} {p : Nat} {out : List UInt8} (h : 8 * l.length < p + (symV l p).2) : stepM l p out = none := by unfold stepM; rw [if_pos h]
theorem stepM_end {l : List UInt8} {p : Nat} {out : List UInt8} (h : p + (symV l p).2 ≤ 8 * l.length) (hc : (symV l p).1 = 256) : stepM l p out = some (true, p + (symV l p).2, out) := by
  unfold stepM; rw [if_neg (by omega), if_pos hc]
theorem stepM_byte {l : List UInt8} {p : Nat} {out : List UInt8} (h : p + (symV l p).2 ≤ 8 * l.length) (hc : (symV l p).1 < 256) (ho : out.length + 1 ≤ 1048576) : stepM l p out = some (false, p + (symV l p).2, out ++ [UInt8.ofNat (symV l p).1]) := by
  unfold stepM; rw [if_neg (by omega), if_neg (by omega), if_pos hc, if_neg (by omega)]
theorem stepM_full {l : List UInt8} {p : Nat} {out : List UInt8} (hc : (symV l p).1 < 256) (ho : 1048576 < out.length + 1) : stepM l p out = none := by
  unfold stepM
  by_cases h : 8 * l.length < p + (symV l p).2
  · rw [if_pos h]
  · rw [if_neg h, if_neg (by omega), if_pos hc, if_pos ho]
theorem stepM_again {l : List UInt8} {p : Nat} {out : List UInt8} (h : p + (symV l p).2 ≤ 8 * l.length) (hc : 256 < (symV l p).1) {r : Nat × List UInt8} (ha : againM l (p + (symV l p).2) (symV l p).1 out = some r) : stepM l p out = some (false, r.1, r.2) := by
  unfold stepM; rw [if_neg (by omega), if_neg (by omega), if_neg (by omega), ha]
theorem stepM_not {l : List UInt8} {p : Nat} {out : List UInt8} (hc : 256 < (symV l p).1) (ha : againM l (p + (symV l p).2) (symV l p).1 out = none) : stepM l p out = none := by
  unfold stepM
  by_cases h : 8 * l.length < p + (symV l p).2
  · rw [if_pos h]
  · rw [if_neg h, if_neg (by omega), if_neg (by omega), ha]


/-- What the reference asks of a length and a distance, in its own order: why it is none. -/
theorem again_no1 {l : List UInt8} {q c : Nat} {out : List UInt8} {L : Nat} (hL : L = 8 * l.length) (h1 : 257 ≤ c)
    (h : 29 < highV l (min (q + lenBits c) L) 5 ∨ (c = 284 ∧ 258 ≤ lenStart c + lowV l q (lenBits c))) : againM l q c out = none := by
  by_cases hn : againM l q c out = none
  · exact hn
  · exfalso
    have hh := againM_conds hn
    rw [← hL] at hh
    rw [Nat.min_eq_left hh.2.1] at h
    rcases h with h | ⟨h, h'⟩
    · omega
    · exact hh.2.2.1 ⟨h', by omega⟩

theorem again_no2 {l : List UInt8} {q c : Nat} {out : List UInt8} {L : Nat} (hL : L = 8 * l.length)
    (h : ((decide (L < q + lenBits c) || decide (L < min (q + lenBits c) L + 5)) || decide (L < min (min (q + lenBits c) L + 5) L + distBits (highV l (min (q + lenBits c) L) 5))) = true ∨
      out.length < distStart (highV l (min (q + lenBits c) L) 5) + lowV l (min (min (q + lenBits c) L + 5) L) (distBits (highV l (min (q + lenBits c) L) 5))) : againM l q c out = none := by
  by_cases hn : againM l q c out = none
  · exact hn
  · exfalso
    have hh := againM_conds hn
    rw [← hL] at hh
    obtain ⟨_, g2, _, _, g5, g6, g7, g8⟩ := hh
    rw [Nat.min_eq_left g2] at h
    rw [Nat.min_eq_left g5] at h
    rcases h with h | h
    · simp only [Bool.or_eq_true, decide_eq_true_eq] at h
      omega
    · omega

theorem again_yes {l : List UInt8} {q c : Nat} {out : List UInt8} {L : Nat} (hL : L = 8 * l.length) (h1 : 257 ≤ c) (h2 : c ≤ 285)
    (n1 : ¬ (29 < highV l (min (q + lenBits c) L) 5 ∨ (c = 284 ∧ 258 ≤ lenStart c + lowV l q (lenBits c))))
    (n2 : ¬ (((decide (L < q + lenBits c) || decide (L < min (q + lenBits c) L + 5)) || decide (L < min (min (q + lenBits c) L + 5) L + distBits (highV l (min (q + lenBits c) L) 5))) = true ∨
      out.length < distStart (highV l (min (q + lenBits c) L) 5) + lowV l (min (min (q + lenBits c) L + 5) L) (distBits (highV l (min (q + lenBits c) L) 5)))) :
    (1048576 < out.length + (lenStart c + lowV l q (lenBits c)) → againM l q c out = none) ∧
    (out.length + (lenStart c + lowV l q (lenBits c)) ≤ 1048576 → againM l q c out = some (min (min (min (q + lenBits c) L + 5) L + distBits (highV l (min (q + lenBits c) L) 5)) L,
      copyV out (distStart (highV l (min (q + lenBits c) L) 5) + lowV l (min (min (q + lenBits c) L + 5) L) (distBits (highV l (min (q + lenBits c) L) 5))) (lenStart c + lowV l q (lenBits c)))) := by
  simp only [not_or, Bool.or_eq_true, decide_eq_true_eq, Nat.not_lt] at n2
  obtain ⟨⟨⟨a1, a2⟩, a3⟩, a4⟩ := n2
  rw [Nat.min_eq_left a1] at *
  rw [Nat.min_eq_left a2] at *
  rw [Nat.min_eq_left a3] at *
  simp only [not_or, Nat.not_lt] at n1
  constructor
  · intro h
    by_cases hn : againM l q c out = none
    · exact hn
    · exfalso; have hh := againM_conds hn; omega
  · intro h
    refine againM_eq h2 (by omega) ?_ h (by omega) n1.1 (by omega) a4
    rintro ⟨g1, g2⟩
    by_cases h4 : c = 284
    · exact n1.2 ⟨h4, g1⟩
    · have := len_284 c (by omega) h1
      have := lowV_lt l q (lenBits c)
      omega

end Go.Proofs.Ytbklfkpjoinofaa.Pm
