import Derived.Test.YtbklfkpjoinofaaEnc2
set_option linter.unusedVariables false
set_option linter.unusedSimpArgs false
namespace Go.Proofs.Ytbklfkpjoinofaa.Pm

/-- How much fuel there is does not matter, if there is enough. -/
theorem codedM_fuel {l : List UInt8} {r : Nat × List UInt8} (f : Nat) : ∀ (g p : Nat) (o : List UInt8), o.length ≤ 1048576 → codedM l f p o = some r → 8 * l.length < p + g → codedM l g p o = some r := by
  induction f with
  | zero => intro g p o _ h; simp [codedM] at h
  | succ f ih =>
    intro g p o ho h hg
    rw [codedM] at h
    match hs : stepM l p o with
    | none => rw [hs] at h; cases h
    | some (e, q, o') =>
      obtain ⟨h1, h2, h3⟩ := stepM_some hs ho
      obtain ⟨g, rfl⟩ : ∃ g', g = g' + 1 := ⟨g - 1, by omega⟩
      rw [hs] at h
      rw [codedM, hs]
      cases e with
      | true => exact h
      | false => exact ih g q o' h3 h (by omega)

/-- The first 19 bits: the two bytes and the block's three bits. -/
def Hd (N n : Nat) : Prop := 19 ≤ n ∧ N % 524288 = 196984
theorem Hd.put {N n : Nat} (h : Hd N n) (v k : Nat) : Hd (N + v * 2 ^ n) (n + k) := by
  refine ⟨by have := h.1; omega, ?_⟩
  obtain ⟨m, rfl⟩ : ∃ m, n = 19 + m := ⟨n - 19, by have := h.1; omega⟩
  have e : v * 2 ^ (19 + m) = 524288 * (v * 2 ^ m) := by
    rw [Nat.pow_add]
    have : (2 : Nat) ^ 19 = 524288 := by decide
    rw [this, Nat.mul_left_comm]
  rw [e, Nat.add_mul_mod_self_left]; exact h.2
theorem Hd.start : Hd (120 + 1 * 2 ^ 8 + 1 * 2 ^ 16 + 1 * 2 ^ 17) 19 := ⟨by decide, by decide⟩

theorem Pre.low {l : List UInt8} {N n : Nat} (h : Pre l N n) (p k : Nat) (hk : p + k ≤ n) : lowV l p k = N / 2 ^ p % 2 ^ k := by
  obtain ⟨m, rfl⟩ : ∃ m, n = p + k + m := ⟨n - (p + k), by omega⟩
  rw [← h.2]
  unfold lowV
  rw [Nat.pow_add, Nat.pow_add, Nat.mul_assoc, Nat.mod_mul_right_div_self, Nat.mod_mul_right_mod]

theorem Pre.cut {l : List UInt8} {N n k : Nat} (h : Pre l N (n + k)) (hN : N < 2 ^ n) : Pre l N n ∧ lowV l n k = 0 := by
  have : Pre l (N + 0 * 2 ^ n) (n + k) := by rw [Nat.zero_mul, Nat.add_zero]; exact h
  exact this.split hN (Nat.two_pow_pos k)

theorem sb_256 : sb 256 = 0 := by decide
theorem out_256 : symOut 256 = (0, 7) := by decide

/-- What stands packed: the codes, the code 256, bits that are 0, the sum. -/
theorem Enc.unpack {N n : Nat} {o : List UInt8} (h : Enc N n o) (hh : Hd N n) (ho : o.length ≤ 1048576) {l : List UInt8} {M : Nat} (hM : up8 (n + 7) = 8 * M) (hl : l.length = M + 4) (hp : Pre l N (8 * M))
    (hs : be4 l M = 65536 * (sumV o (1, 0)).2 + (sumV o (1, 0)).1) : unpackM l = some (o, l.length) := by
  have hup : n + 7 ≤ 8 * M ∧ 8 * M < n + 7 + 8 := by unfold up8 at hM; omega
  have h19 := hh.1
  obtain ⟨j, hj⟩ : ∃ j, 8 * M = n + (7 + j) := ⟨8 * M - n - 7, by omega⟩
  have hp' := hp
  rw [hj] at hp'
  obtain ⟨hpn, hz⟩ := hp'.cut h.1
  have hz2 := lowV_add l n 7 j
  rw [hz] at hz2
  have hz7 : lowV l n 7 = 0 := by omega
  have hzj : lowV l (n + 7) j = 0 := by
    have h128 : (2 : Nat) ^ 7 = 128 := by decide
    rw [h128] at hz2; omega
  have hsym : symV l n = (256, 7) := by
    have := sym_dec (l := l) (p := n) (c := 256) (by omega) (by rw [out_256]; show lowV l n 7 = _; rw [hz7]; decide)
    rw [this, out_256]
  have hend : stepM l n o = some (true, n + 7, o) := by
    have := stepM_end (l := l) (p := n) (out := o) (by rw [hsym]; show n + 7 ≤ _; omega) (by rw [hsym])
    rw [this, hsym]
  obtain ⟨k, hk⟩ := h.2 l hpn
  have hc : codedM l (1 + k) 19 [] = some (n + 7, o) := by
    rw [hk 1, codedM, hend]
  have hc2 := codedM_fuel _ (8 * l.length + 1) 19 [] (by simp) hc (by omega)
  have hN : N = N % 524288 + 524288 * (N / 524288) := (Nat.mod_add_div N 524288).symm
  rw [hh.2] at hN
  generalize N / 524288 = X at hN
  have hlow : ∀ p k, p + k ≤ 19 → lowV l p k = N / 2 ^ p % 2 ^ k := fun p k hpk => hpn.low p k (by omega)
  have e0 : lowV l (8 * 0) 8 = 120 := by rw [hlow _ _ (by omega), hN]; show (196984 + 524288 * X) / 1 % 256 = 120; omega
  have e1 : lowV l (8 * 1) 8 = 1 := by rw [hlow _ _ (by omega), hN]; show (196984 + 524288 * X) / 256 % 256 = 1; omega
  have e2 : lowV l 16 1 = 1 := by rw [hlow _ _ (by omega), hN]; show (196984 + 524288 * X) / 65536 % 2 = 1; omega
  have e3 : lowV l 17 2 = 1 := by rw [hlow _ _ (by omega), hN]; show (196984 + 524288 * X) / 131072 % 4 = 1; omega
  rw [num_byte] at e0 e1
  have hhead : headB l = true := by
    unfold headB
    rw [e0, e1]
    simp; omega
  have hb : blocksM l (8 * l.length + 1) 16 [] = some (n + 7, o) := by
    rw [blocksM, if_neg (by omega)]
    rw [show 16 + 1 = 17 from rfl, e3, if_neg (by decide), if_pos rfl, show 16 + 3 = 19 from rfl, hc2]
    simp only [e2, if_true]
  rw [unpack_some hhead hb]
  have hM8 : up8 (n + 7) / 8 = M := by rw [hM]; omega
  rw [tail_some (by rw [hM, show 8 * M - (n + 7) = j by omega]; exact hzj) (by rw [hM8]; omega) (by rw [hM8]; exact hs), hM8, hl]

/-- What a step puts for the next k bytes of W behind the place i: one byte's code, or bytes that come again. -/
def Emit (W : List UInt8) (i k v b : Nat) : Prop :=
  (k = 1 ∧ i < W.length ∧ v = sb (W.getD i 0).toNat ∧ b = (symOut (W.getD i 0).toNat).2) ∨
  (∃ d, 4 ≤ k ∧ k ≤ 258 ∧ i + k ≤ W.length ∧ 1 ≤ d ∧ d ≤ 32768 ∧ d ≤ i ∧ (∀ j, j < k → W.getD (i + j - d) 0 = W.getD (i + j) 0) ∧ v = mv k d ∧ b = mw k d)

theorem copy_take (D : List UInt8) (p d : Nat) (hd : 1 ≤ d) (hdp : d ≤ p) (k : Nat) (hk : p + k ≤ D.length) (h : ∀ j, j < k → D.getD (p + j - d) 0 = D.getD (p + j) 0) : copyV (D.take p) d k = D.take (p + k) := by
  induction k with
  | zero => rfl
  | succ k ih =>
    rw [copyV_succ, ih (by omega) (fun j hj => h j (by omega))]
    have hlen : (D.take (p + k)).length = p + k := by rw [List.length_take]; omega
    rw [hlen, ← Nat.add_assoc p k 1, List.take_succ_eq_append_getElem (show p + k < D.length by omega)]
    congr 1
    have hx := h k (by omega)
    simp only [List.getD_eq_getElem?_getD] at hx ⊢
    rw [List.getElem?_take_of_lt (by omega), hx, List.getElem?_eq_getElem (show p + k < D.length by omega)]
    rfl

theorem mv_arith (A B C E x a b c N : Nat) : N + (A + (B + (C + E * c) * b) * a) * x = N + A * x + B * (x * a) + C * (x * a * b) + E * (x * a * b * c) := by
  simp only [Nat.add_mul]
  ac_rfl

theorem mw_le (k d : Nat) (hk : 3 ≤ k ∧ k ≤ 258) (hd : 1 ≤ d ∧ d ≤ 32768) : mw k d ≤ 32 := by
  obtain ⟨l1, l2, l3, _, _, _⟩ := lenC_ok k (by omega) hk.1
  obtain ⟨d1, d2, _, _⟩ := distC_ok d (by omega) hd.1
  have := lenBits_le (lenC k).1 (by omega) l1
  have := distBits_le (distC d).1 (by omega)
  have := symOut_lt (lenC k).1 (by omega)
  unfold mw
  omega

theorem Emit.enc {D W : List UInt8} {g i k v b N n : Nat} (h : Emit W i k v b) (hW : W = D.drop g) (hD : D.length ≤ 1048576) (hE : Enc N n (D.take (g + i))) :
    Enc (N + v * 2 ^ n) (n + b) (D.take (g + (i + k))) ∧ b ≤ 9 * k ∧ v < 2 ^ b ∧ i + k ≤ W.length ∧ 1 ≤ k := by
  have hget : ∀ j, W.getD j 0 = D.getD (g + j) 0 := by
    intro j
    simp only [hW, List.getD_eq_getElem?_getD, List.getElem?_drop]
  have hlen : W.length = D.length - g := by rw [hW, List.length_drop]
  rcases h with ⟨rfl, hi, rfl, rfl⟩ | ⟨d, h1, h2, h3, h4, h5, h6, h7, rfl, rfl⟩
  · have hlt : g + i < D.length := by omega
    have e : D.take (g + (i + 1)) = D.take (g + i) ++ [W.getD i 0] := by
      rw [← Nat.add_assoc, List.take_succ_eq_append_getElem hlt, hget]
      congr 1
      simp [List.getD_eq_getElem?_getD, List.getElem?_eq_getElem hlt]
    have hc : (W.getD i 0).toNat < 256 := (W.getD i 0).toNat_lt
    rw [e]
    refine ⟨hE.lit _ (by rw [List.length_take]; omega), ?_, sb_lt _ (by omega), by omega, by omega⟩
    have := symOut_lt (W.getD i 0).toNat (by omega)
    omega
  · have hcp : copyV (D.take (g + i)) d k = D.take (g + i + k) := copy_take D (g + i) d h4 (by omega) k (by omega) (by
      intro j hj
      have := h7 j hj
      rw [hget, hget] at this
      rw [show g + i + j - d = g + (i + j - d) by omega, show g + i + j = g + (i + j) by omega]; exact this)
    have hA := hE.again k d ⟨by omega, h2⟩ ⟨h4, h5⟩ (by rw [List.length_take]; omega) (by rw [List.length_take]; omega)
    rw [hcp] at hA
    have hmw := mw_le k d ⟨by omega, h2⟩ ⟨h4, h5⟩
    have hv : N + mv k d * 2 ^ n = ((N + sb (lenC k).1 * 2 ^ n + (lenC k).2.1 * 2 ^ (n + (symOut (lenC k).1).2)) + revV 5 (distC d).1 * 2 ^ (n + (symOut (lenC k).1).2 + (lenC k).2.2)) + (distC d).2.1 * 2 ^ (n + (symOut (lenC k).1).2 + (lenC k).2.2 + 5) := by
      unfold mv
      rw [mv_arith]
      simp only [Nat.pow_add]
    have hb : n + mw k d = n + (symOut (lenC k).1).2 + (lenC k).2.2 + 5 + (distC d).2.2 := by unfold mw; omega
    rw [hv, hb, ← Nat.add_assoc g i k]
    refine ⟨hA, by omega, ?_, h3, by omega⟩
    obtain ⟨l1, l2, l3, l4, _, _⟩ := lenC_ok k (by omega) (by omega)
    obtain ⟨d1, d2, d3, _⟩ := distC_ok d (by omega) h4
    have h32 : (distC d).1 < 2 ^ 5 := Nat.lt_of_le_of_lt d1 (by decide)
    have a2 : revV 5 (distC d).1 < 2 ^ 5 := (rev_rev 5 (by omega) (distC d).1 (by omega) h32).2
    unfold mv mw
    have q1 := grow_lt a2 d3
    have q2 := grow_lt l4 q1
    have q3 := grow_lt (sb_lt (lenC k).1 (by omega)) q2
    have hx : (symOut (lenC k).1).2 + (lenC k).2.2 + 5 + (distC d).2.2 = (symOut (lenC k).1).2 + ((lenC k).2.2 + (5 + (distC d).2.2)) := by omega
    rw [hx]; exact q3
end Go.Proofs.Ytbklfkpjoinofaa.Pm
