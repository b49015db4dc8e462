import Derived.Test.YtbklfkpjoinofaaNum
set_option linter.unusedVariables false
set_option linter.unusedSimpArgs false
namespace Go.Proofs.Ytbklfkpjoinofaa.Pm

/-- The next whole byte's place. -/
def up8 (p : Nat) : Nat := (p + 7) / 8 * 8

/-- A block of bytes that stand as they are. -/
def plainR (l : List UInt8) (p : Nat) (out : List UInt8) : Option (Nat × List UInt8) :=
  if lowV l p (up8 p - p) ≠ 0 then none
  else if 8 * l.length < up8 p + 32 then none
  else if lowV l (up8 p + 16) 16 ≠ 65535 - lowV l (up8 p) 16 then none
  else if l.length < up8 p / 8 + 4 + lowV l (up8 p) 16 then none
  else if 1048576 < out.length + lowV l (up8 p) 16 then none
  else some (up8 p + 32 + 8 * lowV l (up8 p) 16, out ++ (l.drop (up8 p / 8 + 4)).take (lowV l (up8 p) 16))

theorem plainR_none {l : List UInt8} {p : Nat} {out : List UInt8} (h : lowV l p (up8 p - p) ≠ 0 ∨ 8 * l.length < up8 p + 32 ∨ lowV l (up8 p + 16) 16 ≠ 65535 - lowV l (up8 p) 16 ∨ l.length < up8 p / 8 + 4 + lowV l (up8 p) 16 ∨ 1048576 < out.length + lowV l (up8 p) 16) : plainR l p out = none := by
  unfold plainR
  by_cases h1 : lowV l p (up8 p - p) ≠ 0
  · rw [if_pos h1]
  rw [if_neg h1]
  by_cases h2 : 8 * l.length < up8 p + 32
  · rw [if_pos h2]
  rw [if_neg h2]
  by_cases h3 : lowV l (up8 p + 16) 16 ≠ 65535 - lowV l (up8 p) 16
  · rw [if_pos h3]
  rw [if_neg h3]
  by_cases h4 : l.length < up8 p / 8 + 4 + lowV l (up8 p) 16
  · rw [if_pos h4]
  rw [if_neg h4]
  by_cases h5 : 1048576 < out.length + lowV l (up8 p) 16
  · rw [if_pos h5]
  exfalso
  rcases h with h | h | h | h | h
  · exact h1 h
  · exact h2 h
  · exact h3 h
  · exact h4 h
  · exact h5 h

theorem plainR_some {l : List UInt8} {p : Nat} {out : List UInt8} (h1 : lowV l p (up8 p - p) = 0) (h2 : up8 p + 32 ≤ 8 * l.length) (h3 : lowV l (up8 p + 16) 16 = 65535 - lowV l (up8 p) 16) (h4 : up8 p / 8 + 4 + lowV l (up8 p) 16 ≤ l.length) (h5 : out.length + lowV l (up8 p) 16 ≤ 1048576) :
    plainR l p out = some (up8 p + 32 + 8 * lowV l (up8 p) 16, out ++ (l.drop (up8 p / 8 + 4)).take (lowV l (up8 p) 16)) := by
  unfold plainR
  rw [if_neg (by omega), if_neg (by omega), if_neg (by omega), if_neg (by omega), if_neg (by omega)]

/-- Why the reference finds no such block. -/
theorem plain_no {l : List UInt8} {p P L : Nat} {out : List UInt8} {bad : Bool} (hL : L = 8 * l.length) (hP : up8 p = P) (hle : P ≤ L)
    (h : (bad || decide (lowV l p (P - p) ≠ 0) || decide (L < P + 16) || decide (L < min (P + 16) L + 16)) = true ∨ lowV l (min (P + 16) L) 16 ≠ 65535 - lowV l P 16 ∨ l.length < min (min (P + 16) L + 16) L / 8 + lowV l P 16) :
    (if bad = true then none else plainR l p out) = none := by
  subst hP
  cases bad
  · rw [if_neg (by decide)]
    have h8 : up8 p % 8 = 0 := by unfold up8; omega
    by_cases a1 : lowV l p (up8 p - p) ≠ 0
    · exact plainR_none (Or.inl a1)
    by_cases a2 : L < up8 p + 32
    · have k2 : 8 * l.length < up8 p + 32 := by omega
      exact plainR_none (Or.inr (Or.inl k2))
    have e1 : min (up8 p + 16) L = up8 p + 16 := by omega
    have e2 : min (up8 p + 16 + 16) L = up8 p + 32 := by omega
    rw [e1, e2] at h
    rcases h with h | h | h
    · exfalso
      simp only [Bool.false_or, Bool.or_eq_true, decide_eq_true_eq] at h
      rcases h with (h | h) | h
      · exact a1 h
      · omega
      · omega
    · exact plainR_none (Or.inr (Or.inr (Or.inl h)))
    · have k4 : l.length < up8 p / 8 + 4 + lowV l (up8 p) 16 := by omega
      exact plainR_none (Or.inr (Or.inr (Or.inr (Or.inl k4))))
  · rw [if_pos rfl]

theorem plain_yes {l : List UInt8} {p P L : Nat} {out : List UInt8} {bad : Bool} (hL : L = 8 * l.length) (hP : up8 p = P)
    (h : (bad || decide (lowV l p (P - p) ≠ 0) || decide (L < P + 16) || decide (L < min (P + 16) L + 16)) = false) (h2 : lowV l (min (P + 16) L) 16 = 65535 - lowV l P 16) (h3 : min (min (P + 16) L + 16) L / 8 + lowV l P 16 ≤ l.length) :
    (out.length + lowV l P 16 ≤ 1048576 → (if bad = true then none else plainR l p out) = some (min (min (P + 16) L + 16) L + 8 * lowV l P 16, out ++ (l.drop (min (min (P + 16) L + 16) L / 8)).take (lowV l P 16))) ∧
    (1048576 < out.length + lowV l P 16 → (if bad = true then none else plainR l p out) = none) := by
  subst hP
  have h8 : up8 p % 8 = 0 := by unfold up8; omega
  simp only [Bool.or_eq_false_iff, decide_eq_false_iff_not, Nat.not_lt, ne_eq, Decidable.not_not] at h
  obtain ⟨⟨⟨rfl, a1⟩, a2⟩, a3⟩ := h
  have e1 : min (up8 p + 16) L = up8 p + 16 := by omega
  rw [e1] at h2 h3 a3 ⊢
  have e2 : min (up8 p + 16 + 16) L = up8 p + 32 := by omega
  rw [e2] at h3 ⊢
  have e3 : (up8 p + 32) / 8 = up8 p / 8 + 4 := by omega
  rw [e3] at h3 ⊢
  rw [if_neg (by decide)]
  constructor
  · intro hh
    have k2 : up8 p + 32 ≤ 8 * l.length := by omega
    exact plainR_some a1 k2 h2 h3 hh
  · intro hh
    exact plainR_none (Or.inr (Or.inr (Or.inr (Or.inr hh))))

/-- What is read of a string is a piece of its bytes. -/
theorem extract_list (s : ByteArray) (a n : Nat) : (s.extract a (a + n)).data.toList = (s.data.toList.drop a).take n := by
  rw [ByteArray.data_extract, Array.toList_extract]
  simp [List.extract]

/-- Block after block, till one says that it is the last. -/
def blocksM (l : List UInt8) : Nat → Nat → List UInt8 → Option (Nat × List UInt8)
  | 0, _, _ => none
  | f + 1, p, out =>
    if 8 * l.length < p + 3 then none
    else match (if lowV l (p + 1) 2 = 0 then plainR l (p + 3) out else if lowV l (p + 1) 2 = 1 then codedM l (8 * l.length + 1) (p + 3) out else none) with
      | none => none
      | some (q, o) => if lowV l p 1 = 1 then some (q, o) else blocksM l f q o

/-- Four bytes as a number, the high one first. -/
def be4 (l : List UInt8) (a : Nat) : Nat := 256 * (256 * (256 * (l.getD a 0).toNat + (l.getD (a + 1) 0).toNat) + (l.getD (a + 2) 0).toNat) + (l.getD (a + 3) 0).toNat

/-- The end of what is packed: bits that are left over, and the sum. -/
def tailM (l : List UInt8) (q : Nat) (o : List UInt8) : Option (List UInt8 × Nat) :=
  if lowV l q (up8 q - q) ≠ 0 then none
  else if l.length < up8 q / 8 + 4 then none
  else if be4 l (up8 q / 8) ≠ 65536 * (sumV o (1, 0)).2 + (sumV o (1, 0)).1 then none
  else some (o, up8 q / 8 + 4)

/-- The two bytes at the beginning. -/
def headB (l : List UInt8) : Bool := decide (2 ≤ l.length ∧ (l.getD 0 0).toNat = 120 ∧ (30720 + (l.getD 1 0).toNat) % 31 = 0 ∧ (l.getD 1 0).toNat / 32 % 2 = 0)

/-- What stands packed at the beginning: the bytes, and how many of the string they take. -/
def unpackM (l : List UInt8) : Option (List UInt8 × Nat) :=
  if headB l = true then (match blocksM l (8 * l.length + 1) 16 [] with
    | none => none
    | some (q, o) => tailM l q o)
  else none

theorem unpack_none {l : List UInt8} (h : blocksM l (8 * l.length + 1) 16 [] = none) : unpackM l = none := by
  unfold unpackM; rw [h]; split <;> rfl
theorem unpack_some {l : List UInt8} {q : Nat} {o : List UInt8} (hh : headB l = true) (h : blocksM l (8 * l.length + 1) 16 [] = some (q, o)) : unpackM l = tailM l q o := by
  unfold unpackM; rw [if_pos hh, h]
theorem unpack_head {l : List UInt8} (hh : headB l = false) : unpackM l = none := by
  unfold unpackM; rw [if_neg (by rw [hh]; decide)]

/-- One block, from its two bits on. -/
def blockM (l : List UInt8) (p : Nat) (out : List UInt8) : Option (Nat × List UInt8) :=
  if lowV l (p + 1) 2 = 0 then plainR l (p + 3) out else if lowV l (p + 1) 2 = 1 then codedM l (8 * l.length + 1) (p + 3) out else none

theorem plainR_le {l : List UInt8} {p : Nat} {out : List UInt8} {q : Nat} {o : List UInt8} (h : plainR l p out = some (q, o)) : p ≤ q ∧ q ≤ 8 * l.length ∧ o.length ≤ 1048576 := by
  have hu : p ≤ up8 p ∧ up8 p % 8 = 0 := by unfold up8; omega
  unfold plainR at h
  by_cases h1 : lowV l p (up8 p - p) ≠ 0
  · rw [if_pos h1] at h; cases h
  rw [if_neg h1] at h
  by_cases h2 : 8 * l.length < up8 p + 32
  · rw [if_pos h2] at h; cases h
  rw [if_neg h2] at h
  by_cases h3 : lowV l (up8 p + 16) 16 ≠ 65535 - lowV l (up8 p) 16
  · rw [if_pos h3] at h; cases h
  rw [if_neg h3] at h
  by_cases h4 : l.length < up8 p / 8 + 4 + lowV l (up8 p) 16
  · rw [if_pos h4] at h; cases h
  rw [if_neg h4] at h
  by_cases h5 : 1048576 < out.length + lowV l (up8 p) 16
  · rw [if_pos h5] at h; cases h
  rw [if_neg h5] at h
  simp only [Option.some.injEq, Prod.mk.injEq] at h
  obtain ⟨rfl, rfl⟩ := h
  refine ⟨by omega, by omega, ?_⟩
  rw [List.length_append, List.length_take]
  omega

theorem blockM_le {l : List UInt8} {p : Nat} {out : List UInt8} {q : Nat} {o : List UInt8} (h : blockM l p out = some (q, o)) (ho : out.length ≤ 1048576) : p < q ∧ q ≤ 8 * l.length ∧ o.length ≤ 1048576 := by
  unfold blockM at h
  by_cases h1 : lowV l (p + 1) 2 = 0
  · rw [if_pos h1] at h
    have := plainR_le h
    exact ⟨by omega, this.2⟩
  rw [if_neg h1] at h
  by_cases h2 : lowV l (p + 1) 2 = 1
  · rw [if_pos h2] at h
    have := codedM_some h ho
    exact ⟨by omega, this.2⟩
  rw [if_neg h2] at h; cases h

theorem blocks_bad {l : List UInt8} {q : Nat} {o : List UInt8} {L : Nat} {res : Option (Nat × List UInt8)} (hL : L = 8 * l.length) (hq : q ≤ L) (h : ∃ f, L < q + f ∧ blocksM l f q o = res) (hb : L < q + 3) : res = none := by
  obtain ⟨f, hf, rfl⟩ := h
  obtain ⟨f, rfl⟩ : ∃ g, f = g + 1 := ⟨f - 1, by omega⟩
  rw [blocksM, if_pos (by omega)]

theorem blocks_none {l : List UInt8} {q : Nat} {o : List UInt8} {L : Nat} {res : Option (Nat × List UInt8)} (hq : q ≤ L) (h : ∃ f, L < q + f ∧ blocksM l f q o = res) (hb : blockM l q o = none) : res = none := by
  obtain ⟨f, hf, rfl⟩ := h
  obtain ⟨f, rfl⟩ : ∃ g, f = g + 1 := ⟨f - 1, by omega⟩
  unfold blockM at hb
  rw [blocksM]
  by_cases h3 : 8 * l.length < q + 3
  · rw [if_pos h3]
  rw [if_neg h3, hb]

theorem blocks_last {l : List UInt8} {q : Nat} {o : List UInt8} {L : Nat} {res : Option (Nat × List UInt8)} {q' : Nat} {o' : List UInt8} (hL : L = 8 * l.length) (hq : q + 3 ≤ L) (h : ∃ f, L < q + f ∧ blocksM l f q o = res) (hb : blockM l q o = some (q', o')) (hl : lowV l q 1 = 1) : res = some (q', o') := by
  obtain ⟨f, hf, rfl⟩ := h
  obtain ⟨f, rfl⟩ : ∃ g, f = g + 1 := ⟨f - 1, by omega⟩
  unfold blockM at hb
  rw [blocksM, if_neg (by omega), hb]
  show (if lowV l q 1 = 1 then some (q', o') else blocksM l f q' o') = _
  rw [if_pos hl]

theorem blocks_go {l : List UInt8} {q : Nat} {o : List UInt8} {L : Nat} {res : Option (Nat × List UInt8)} {q' : Nat} {o' : List UInt8} (hL : L = 8 * l.length) (hq : q + 3 ≤ L) (h : ∃ f, L < q + f ∧ blocksM l f q o = res) (hb : blockM l q o = some (q', o')) (hl : lowV l q 1 ≠ 1) (ho : o.length ≤ 1048576) : ∃ f, L < q' + f ∧ blocksM l f q' o' = res := by
  obtain ⟨f, hf, rfl⟩ := h
  obtain ⟨f, rfl⟩ : ∃ g, f = g + 1 := ⟨f - 1, by omega⟩
  have hlt := (blockM_le hb ho).1
  refine ⟨f, by omega, ?_⟩
  unfold blockM at hb
  rw [blocksM, if_neg (by omega), hb]
  show _ = (if lowV l q 1 = 1 then some (q', o') else blocksM l f q' o')
  rw [if_neg hl]

theorem tail_none {l : List UInt8} {q : Nat} {o : List UInt8} (h : lowV l q (up8 q - q) ≠ 0 ∨ l.length < up8 q / 8 + 4 ∨ be4 l (up8 q / 8) ≠ 65536 * (sumV o (1, 0)).2 + (sumV o (1, 0)).1) : tailM l q o = none := by
  unfold tailM
  by_cases h1 : lowV l q (up8 q - q) ≠ 0
  · rw [if_pos h1]
  rw [if_neg h1]
  by_cases h2 : l.length < up8 q / 8 + 4
  · rw [if_pos h2]
  rw [if_neg h2]
  by_cases h3 : be4 l (up8 q / 8) ≠ 65536 * (sumV o (1, 0)).2 + (sumV o (1, 0)).1
  · rw [if_pos h3]
  · exfalso; rcases h with h | h | h
    · exact h1 h
    · exact h2 h
    · exact h3 h

theorem tail_some {l : List UInt8} {q : Nat} {o : List UInt8} (h1 : lowV l q (up8 q - q) = 0) (h2 : up8 q / 8 + 4 ≤ l.length) (h3 : be4 l (up8 q / 8) = 65536 * (sumV o (1, 0)).2 + (sumV o (1, 0)).1) : tailM l q o = some (o, up8 q / 8 + 4) := by
  unfold tailM
  rw [if_neg (by simpa using h1), if_neg (by omega), if_neg (by simpa using h3)]
end Go.Proofs.Ytbklfkpjoinofaa.Pm
