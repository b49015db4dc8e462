import Derived.Test.YtbklfkpjoinofaaEnc
set_option linter.unusedVariables false
set_option linter.unusedSimpArgs false
namespace Go.Proofs.Ytbklfkpjoinofaa.Pm

/-- Whole steps lead from the bit p, with o, to the bit p', with o'. -/
def Reach (l : List UInt8) (p : Nat) (o : List UInt8) (p' : Nat) (o' : List UInt8) : Prop := ∃ k, ∀ f, codedM l (f + k) p o = codedM l f p' o'

theorem Reach.refl (l : List UInt8) (p : Nat) (o : List UInt8) : Reach l p o p o := ⟨0, fun _ => rfl⟩
theorem Reach.trans {l : List UInt8} {p p' p'' : Nat} {o o' o'' : List UInt8} (h : Reach l p o p' o') (g : Reach l p' o' p'' o'') : Reach l p o p'' o'' := by
  obtain ⟨k, hk⟩ := h
  obtain ⟨j, hj⟩ := g
  refine ⟨j + k, fun f => ?_⟩
  rw [← Nat.add_assoc, hk, hj]
theorem Reach.step {l : List UInt8} {p q : Nat} {o o' : List UInt8} (h : stepM l p o = some (false, q, o')) : Reach l p o q o' := by
  refine ⟨1, fun f => ?_⟩
  rw [codedM, h]

/-- The first n bits, the number N, are a beginning, two bytes and one block's three bits, and then codes that give o. -/
def Enc (N n : Nat) (o : List UInt8) : Prop := N < 2 ^ n ∧ ∀ l, Pre l N n → Reach l 19 [] n o

/-- The bits of a code, as they are put. -/
def sb (c : Nat) : Nat := revV (symOut c).2 (symOut c).1

theorem sb_lt (c : Nat) (hc : c < 288) : sb c < 2 ^ (symOut c).2 := by
  have h := symOut_lt c hc
  exact (rev_rev (symOut c).2 (by omega) (symOut c).1 h.2.1 h.1).2

theorem Enc.lit {N n : Nat} {o : List UInt8} (h : Enc N n o) (c : UInt8) (ho : o.length + 1 ≤ 1048576) : Enc (N + sb c.toNat * 2 ^ n) (n + (symOut c.toNat).2) (o ++ [c]) := by
  have hc : c.toNat < 256 := c.toNat_lt
  have hlt := sb_lt c.toNat (by omega)
  refine ⟨grow_lt h.1 hlt, fun l hp => ?_⟩
  have hle := hp.1
  obtain ⟨h1, h2⟩ := hp.split h.1 hlt
  have hs := sym_dec (c := c.toNat) (by omega) h2
  refine (h.2 l h1).trans (Reach.step ?_)
  have hst := stepM_byte (l := l) (p := n) (out := o) (by rw [hs]; exact hle) (by rw [hs]; exact hc) ho
  rw [hst, hs]
  have e : UInt8.ofNat c.toNat = c := by simp
  simp only [e]

/-- The bits of a length and a distance, as they are put: how many, and their number. -/
def mw (n d : Nat) : Nat := (symOut (lenC n).1).2 + (lenC n).2.2 + 5 + (distC d).2.2
def mv (n d : Nat) : Nat := sb (lenC n).1 + ((lenC n).2.1 + (revV 5 (distC d).1 + (distC d).2.1 * 2 ^ 5) * 2 ^ (lenC n).2.2) * 2 ^ (symOut (lenC n).1).2

theorem Enc.again {N n : Nat} {o : List UInt8} (h : Enc N n o) (k d : Nat) (hk : 3 ≤ k ∧ k ≤ 258) (hd : 1 ≤ d ∧ d ≤ 32768) (hdo : d ≤ o.length) (ho : o.length + k ≤ 1048576) :
    Enc (((N + sb (lenC k).1 * 2 ^ n + (lenC k).2.1 * 2 ^ (n + (symOut (lenC k).1).2)) + revV 5 (distC d).1 * 2 ^ (n + (symOut (lenC k).1).2 + (lenC k).2.2)) + (distC d).2.1 * 2 ^ (n + (symOut (lenC k).1).2 + (lenC k).2.2 + 5))
      (n + (symOut (lenC k).1).2 + (lenC k).2.2 + 5 + (distC d).2.2) (copyV o d k) := by
  obtain ⟨l1, l2, l3, l4, l5, l6⟩ := lenC_ok k (by omega) hk.1
  obtain ⟨d1, d2, d3, d4⟩ := distC_ok d (by omega) hd.1
  generalize (lenC k).1 = c at *
  generalize (lenC k).2.1 = m at *
  generalize (lenC k).2.2 = w at *
  generalize (distC d).1 = dc at *
  generalize (distC d).2.1 = dm at *
  generalize (distC d).2.2 = dw at *
  have a1 := sb_lt c (by omega)
  have h32 : dc < 2 ^ 5 := Nat.lt_of_le_of_lt d1 (by decide)
  have a2 : revV 5 dc < 2 ^ 5 := (rev_rev 5 (by omega) dc (by omega) h32).2
  have hr5 := (rev_rev 5 (by omega) dc (by omega) h32).1
  have g1 := grow_lt h.1 a1
  have g2 := grow_lt g1 l4
  have g3 := grow_lt g2 a2
  have g4 := grow_lt g3 d3
  refine ⟨g4, fun l hp => ?_⟩
  have hle := hp.1
  obtain ⟨p3, v4⟩ := hp.split g3 d3
  obtain ⟨p2, v3⟩ := p3.split g2 a2
  obtain ⟨p1, v2⟩ := p2.split g1 l4
  obtain ⟨p0, v1⟩ := p1.split h.1 a1
  have hs := sym_dec (c := c) (by omega) v1
  have hh : highV l (n + (symOut c).2 + w) 5 = dc := by
    rw [highV_rev l _ 5 5 (by omega), v3, hr5]
  have v2' : lowV l (n + (symOut c).2) (lenBits c) = m := by rw [← l3]; exact v2
  have v4' : lowV l (n + (symOut c).2 + lenBits c + 5) (distBits dc) = dm := by rw [← l3, ← d2]; exact v4
  have hh' : highV l (n + (symOut c).2 + lenBits c) 5 = dc := by rw [← l3]; exact hh
  have ha := againM_eq (l := l) (q := n + (symOut c).2) (c := c) (out := o) l2 (by omega) (by rw [v2', l5]; exact l6) (by rw [v2', l5]; exact ho) (by omega) (by rw [hh']; exact d1) (by rw [hh', ← d2]; omega) (by rw [hh', v4', d4]; exact hdo)
  rw [hh', v4', v2', d4, l5] at ha
  refine (h.2 l p0).trans (Reach.step ?_)
  have hst := stepM_again (l := l) (p := n) (out := o) (by rw [hs]; show n + (symOut c).2 ≤ _; omega) (by rw [hs]; show 256 < c; omega) (r := (_, _)) (by rw [hs]; exact ha)
  rw [hst]
  simp only [l3, d2]

/-- The beginning. -/
theorem Enc.start : Enc (120 + 1 * 2 ^ 8 + 1 * 2 ^ 16 + 1 * 2 ^ 17) 19 [] := ⟨by decide, fun l _ => Reach.refl l 19 []⟩
end Go.Proofs.Ytbklfkpjoinofaa.Pm
