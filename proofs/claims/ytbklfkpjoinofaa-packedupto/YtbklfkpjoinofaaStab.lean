import Derived.Test.YtbklfkpjoinofaaEnc
set_option linter.unusedVariables false
set_option linter.unusedSimpArgs false
namespace Go.Proofs.Ytbklfkpjoinofaa.Pm

/- What is packed is told by its own bytes, whatever stands behind. -/
theorem lowV_app (a b : List UInt8) (p n : Nat) (h : p + n ≤ 8 * a.length) : lowV (a ++ b) p n = lowV a p n := by
  obtain ⟨m, hm⟩ : ∃ m, 8 * a.length = p + n + m := ⟨8 * a.length - (p + n), by omega⟩
  unfold lowV
  rw [num_append, hm]
  have e : 2 ^ (p + n + m) * num b = 2 ^ p * (2 ^ n * (2 ^ m * num b)) := by rw [Nat.pow_add, Nat.pow_add, Nat.mul_assoc, Nat.mul_assoc]
  rw [e, Nat.add_mul_div_left _ _ (Nat.two_pow_pos p), Nat.add_mul_mod_self_left]

theorem highV_app (a b : List UInt8) (p n : Nat) (h : p + n ≤ 8 * a.length) : highV (a ++ b) p n = highV a p n := by
  rw [highV_rev _ p n n (Nat.le_refl _), highV_rev _ p n n (Nat.le_refl _), lowV_app a b p n h]

theorem symV_app (a b : List UInt8) (p : Nat) (h : p + (symV a p).2 ≤ 8 * a.length) : symV (a ++ b) p = symV a p := by
  have h7 : p + 7 ≤ 8 * a.length := by have := (symV_w a p).1; omega
  unfold symV at h ⊢
  rw [highV_app a b p 7 h7]
  by_cases c1 : highV a p 7 ≤ 23
  · rw [if_pos c1, if_pos c1]
  · rw [if_neg c1] at h
    rw [if_neg c1, if_neg c1]
    have h8 : p + 7 + 1 ≤ 8 * a.length := by
      split at h
      · simp at h; omega
      · split at h <;> simp at h <;> omega
    rw [lowV_app a b (p + 7) 1 h8]
    split
    · rfl
    · rename_i c2
      rw [if_neg c2] at h
      split
      · rfl
      · rename_i c3
        rw [if_neg c3] at h
        have h9 : p + 8 + 1 ≤ 8 * a.length := by simp at h; omega
        rw [lowV_app a b (p + 8) 1 h9]

theorem againM_app (a b : List UInt8) (q c : Nat) (o : List UInt8) {r : Nat × List UInt8} (h : againM a q c o = some r) : againM (a ++ b) q c o = some r := by
  have hl : 8 * a.length ≤ 8 * (a ++ b).length := by rw [List.length_append]; omega
  unfold againM at h
  by_cases c1 : 285 < c
  · rw [if_pos c1] at h; cases h
  rw [if_neg c1] at h
  by_cases c2 : 8 * a.length < q + lenBits c
  · rw [if_pos c2] at h; cases h
  rw [if_neg c2] at h
  by_cases c3 : 258 ≤ lenStart c + lowV a q (lenBits c) ∧ c ≠ 285
  · rw [if_pos c3] at h; cases h
  rw [if_neg c3] at h
  by_cases c4 : 1048576 < o.length + (lenStart c + lowV a q (lenBits c))
  · rw [if_pos c4] at h; cases h
  rw [if_neg c4] at h
  by_cases c5 : 8 * a.length < q + lenBits c + 5
  · rw [if_pos c5] at h; cases h
  rw [if_neg c5] at h
  by_cases c6 : 29 < highV a (q + lenBits c) 5
  · rw [if_pos c6] at h; cases h
  rw [if_neg c6] at h
  by_cases c7 : 8 * a.length < q + lenBits c + 5 + distBits (highV a (q + lenBits c) 5)
  · rw [if_pos c7] at h; cases h
  rw [if_neg c7] at h
  have e1 := lowV_app a b q (lenBits c) (by omega)
  have e2 := highV_app a b (q + lenBits c) 5 (by omega)
  have e3 := lowV_app a b (q + lenBits c + 5) (distBits (highV a (q + lenBits c) 5)) (by omega)
  unfold againM
  rw [e1, e2, e3, if_neg c1, if_neg (by omega), if_neg c3, if_neg c4, if_neg (by omega), if_neg c6, if_neg (by omega)]
  exact h

theorem stepM_app (a b : List UInt8) (p : Nat) (o : List UInt8) {r : Bool × Nat × List UInt8} (h : stepM a p o = some r) : stepM (a ++ b) p o = some r := by
  have hl : 8 * a.length ≤ 8 * (a ++ b).length := by rw [List.length_append]; omega
  unfold stepM at h ⊢
  by_cases c1 : 8 * a.length < p + (symV a p).2
  · rw [if_pos c1] at h; cases h
  rw [if_neg c1] at h
  rw [symV_app a b p (by omega), if_neg (by omega)]
  split at h
  · rename_i c2; rw [if_pos c2]; exact h
  · rename_i c2
    rw [if_neg c2]
    split at h
    · rename_i c3; rw [if_pos c3]; exact h
    · rename_i c3
      rw [if_neg c3]
      match ha : againM a (p + (symV a p).2) (symV a p).1 o with
      | none => rw [ha] at h; cases h
      | some x => rw [ha] at h; rw [againM_app a b _ _ o ha]; exact h

theorem codedM_app (a b : List UInt8) {r : Nat × List UInt8} (f : Nat) : ∀ (g p : Nat) (o : List UInt8), f ≤ g → codedM a f p o = some r → codedM (a ++ b) g p o = some r := by
  induction f with
  | zero => intro g p o _ h; simp [codedM] at h
  | succ f ih =>
    intro g p o hg h
    obtain ⟨g, rfl⟩ : ∃ g', g = g' + 1 := ⟨g - 1, by omega⟩
    rw [codedM] at h
    match hs : stepM a p o with
    | none => rw [hs] at h; cases h
    | some (true, q, o') => rw [hs] at h; rw [codedM, stepM_app a b p o hs]; exact h
    | some (false, q, o') => rw [hs] at h; rw [codedM, stepM_app a b p o hs]; exact ih g q o' (by omega) h

theorem plainR_app (a b : List UInt8) (p : Nat) (o : List UInt8) {r : Nat × List UInt8} (h : plainR a p o = some r) : plainR (a ++ b) p o = some r := by
  have hl : a.length ≤ (a ++ b).length := by rw [List.length_append]; omega
  have hup : p ≤ up8 p ∧ up8 p < p + 8 ∧ up8 p / 8 * 8 = up8 p := by unfold up8; omega
  unfold plainR at h
  by_cases c1 : lowV a p (up8 p - p) ≠ 0
  · rw [if_pos c1] at h; cases h
  rw [if_neg c1] at h
  by_cases c2 : 8 * a.length < up8 p + 32
  · rw [if_pos c2] at h; cases h
  rw [if_neg c2] at h
  have e1 := lowV_app a b p (up8 p - p) (by omega)
  have e2 := lowV_app a b (up8 p) 16 (by omega)
  have e3 := lowV_app a b (up8 p + 16) 16 (by omega)
  by_cases c3 : lowV a (up8 p + 16) 16 ≠ 65535 - lowV a (up8 p) 16
  · rw [if_pos c3] at h; cases h
  rw [if_neg c3] at h
  by_cases c4 : a.length < up8 p / 8 + 4 + lowV a (up8 p) 16
  · rw [if_pos c4] at h; cases h
  rw [if_neg c4] at h
  unfold plainR
  rw [e1, e2, e3, if_neg c1, if_neg (by omega), if_neg c3, if_neg (by omega)]
  split at h
  · cases h
  · rename_i c5
    rw [if_neg c5, ← h, List.drop_append_of_le_length (by omega), List.take_append_of_le_length (by rw [List.length_drop]; omega)]

theorem blocksM_app (a b : List UInt8) {r : Nat × List UInt8} (f : Nat) : ∀ (g p : Nat) (o : List UInt8), f ≤ g → blocksM a f p o = some r → blocksM (a ++ b) g p o = some r := by
  have hl : a.length ≤ (a ++ b).length := by rw [List.length_append]; omega
  induction f with
  | zero => intro g p o _ h; simp [blocksM] at h
  | succ f ih =>
    intro g p o hg h
    obtain ⟨g, rfl⟩ : ∃ g', g = g' + 1 := ⟨g - 1, by omega⟩
    rw [blocksM] at h ⊢
    by_cases c1 : 8 * a.length < p + 3
    · rw [if_pos c1] at h; cases h
    rw [if_neg c1] at h
    rw [if_neg (by omega), lowV_app a b (p + 1) 2 (by omega), lowV_app a b p 1 (by omega)]
    have key : ∀ x, (if lowV a (p + 1) 2 = 0 then plainR a (p + 3) o else if lowV a (p + 1) 2 = 1 then codedM a (8 * a.length + 1) (p + 3) o else none) = some x →
        (if lowV a (p + 1) 2 = 0 then plainR (a ++ b) (p + 3) o else if lowV a (p + 1) 2 = 1 then codedM (a ++ b) (8 * (a ++ b).length + 1) (p + 3) o else none) = some x := by
      intro x hx
      split at hx
      · rename_i c; rw [if_pos c]; exact plainR_app a b _ _ hx
      · rename_i c
        rw [if_neg c]
        split at hx
        · rename_i c'; rw [if_pos c']; exact codedM_app a b _ _ _ _ (by omega) hx
        · cases hx
    match hm : (if lowV a (p + 1) 2 = 0 then plainR a (p + 3) o else if lowV a (p + 1) 2 = 1 then codedM a (8 * a.length + 1) (p + 3) o else none) with
    | none => rw [hm] at h; cases h
    | some (q, o') =>
      rw [hm] at h
      rw [key _ hm]
      simp only at h ⊢
      split at h
      · rename_i c; rw [if_pos c]; exact h
      · rename_i c; rw [if_neg c]; exact ih g q o' (by omega) h

theorem getD_app (a b : List UInt8) (i : Nat) (h : i < a.length) : (a ++ b).getD i 0 = a.getD i 0 := by
  simp only [List.getD_eq_getElem?_getD]
  rw [List.getElem?_append_left h]

theorem tailM_app (a b : List UInt8) (q : Nat) (o : List UInt8) {r : List UInt8 × Nat} (h : tailM a q o = some r) : tailM (a ++ b) q o = some r ∧ r.2 ≤ a.length ∧ r.1 = o := by
  have hl : a.length ≤ (a ++ b).length := by rw [List.length_append]; omega
  have hup : q ≤ up8 q ∧ up8 q < q + 8 ∧ up8 q / 8 * 8 = up8 q := by unfold up8; omega
  unfold tailM at h
  by_cases c1 : lowV a q (up8 q - q) ≠ 0
  · rw [if_pos c1] at h; cases h
  rw [if_neg c1] at h
  by_cases c2 : a.length < up8 q / 8 + 4
  · rw [if_pos c2] at h; cases h
  rw [if_neg c2] at h
  have e1 := lowV_app a b q (up8 q - q) (by omega)
  have e2 : be4 (a ++ b) (up8 q / 8) = be4 a (up8 q / 8) := by
    unfold be4
    rw [getD_app a b _ (by omega), getD_app a b _ (by omega), getD_app a b _ (by omega), getD_app a b _ (by omega)]
  by_cases c3 : be4 a (up8 q / 8) ≠ 65536 * (sumV o (1, 0)).2 + (sumV o (1, 0)).1
  · rw [if_pos c3] at h; cases h
  rw [if_neg c3] at h
  cases h
  refine ⟨?_, by simp only; omega, rfl⟩
  unfold tailM
  rw [e1, e2, if_neg c1, if_neg (by omega), if_neg c3]

theorem unpack_app (a b : List UInt8) {r : List UInt8 × Nat} (h : unpackM a = some r) : unpackM (a ++ b) = some r ∧ r.2 ≤ a.length := by
  have hl : a.length ≤ (a ++ b).length := by rw [List.length_append]; omega
  unfold unpackM at h
  by_cases c1 : headB a = true
  · rw [if_pos c1] at h
    have hh : headB (a ++ b) = true := by
      unfold headB at c1 ⊢
      simp only [decide_eq_true_eq] at c1 ⊢
      obtain ⟨h1, h2, h3, h4⟩ := c1
      rw [getD_app a b 0 (by omega), getD_app a b 1 (by omega)]
      exact ⟨by omega, h2, h3, h4⟩
    match hb : blocksM a (8 * a.length + 1) 16 [] with
    | none => rw [hb] at h; cases h
    | some (q, o) =>
      rw [hb] at h
      have h' : tailM a q o = some r := h
      obtain ⟨t1, t2, _⟩ := tailM_app a b q o h'
      rw [unpack_some hh (blocksM_app a b _ _ _ _ (by omega) hb)]
      exact ⟨t1, t2⟩
  · rw [if_neg c1] at h; cases h

/-- What is cut is none. -/
theorem unpack_cut (l : List UInt8) (o : List UInt8) (h : unpackM l = some (o, l.length)) (j : Nat) (hj : j < l.length) : unpackM (l.take j) = none := by
  match hu : unpackM (l.take j) with
  | none => rfl
  | some r =>
    obtain ⟨h1, h2⟩ := unpack_app (l.take j) (l.drop j) hu
    rw [List.take_append_drop, h] at h1
    cases h1
    rw [List.length_take] at h2
    simp only at h2
    omega
end Go.Proofs.Ytbklfkpjoinofaa.Pm
