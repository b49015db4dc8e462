import Derived.Test.YtjdnceekakgnlaaPk8
set_option linter.unusedVariables false
set_option linter.unusedSimpArgs false
namespace Go.Proofs.Ytjdnceekakgnlaa
open Go.RowKit

/-- Behind a put, packer and sink. -/
theorem PS.put {w w' : World} {P T base : Nat} {vf vw vs vt vf' : Value} {F F' : List UInt8} {H n H' n' A B : Nat} {W : List UInt8} {Sn : List Int} {at_ gone : Nat} {Tk : List UInt8} (h : PS w P T base vf vw vs vt F H n A B W Sn at_ gone Tk)
    (hB : BW w' P base vf' F' H' n') (hn : n' < 8) (hF : PutFr P vf w vf' w') : PS w' P T base vf' vw vs vt F' H' n' A B W Sn at_ gone Tk ∧ Below base w w' := by
  refine ⟨⟨h.pk.put hB hn hF, h.sk.fr hF.fr ?_ ?_, h.hPT, h.hbP, h.hbT, blk_ne h.sk.hT hF.blk h.fT, h.wT, h.sT, h.tP, (blk_apart h.sk.own hF.blk h.dtf.symm).symm, h.dtw, h.dts⟩, hF.fr.below h.pk.bw.hb ?_⟩
  · rintro (e | e)
    · exact h.hPT e
    · exact h.fT e
  · rintro g hg (e | e)
    · exact h.tP (by rw [hg, e])
    · exact h.dtf g hg e
  · rintro k (e | e)
    · rw [e]; exact h.hbP
    · exact (h.pk.bw.own.lt k e).1

/-- In a world where nothing that was there has turned. -/
theorem PS.below {w w' : World} {P T base : Nat} {vf vw vs vt : Value} {F : List UInt8} {H n A B : Nat} {W : List UInt8} {Sn : List Int} {at_ gone : Nat} {Tk : List UInt8} (h : PS w P T base vf vw vs vt F H n A B W Sn at_ gone Tk)
    (hB : Below w.heap.size w w') : PS w' P T base vf vw vs vt F H n A B W Sn at_ gone Tk := by
  have hF : Fr (fun _ => False) w w' := ⟨hB.os, hB.tape, hB.output, hB.size, fun k hk _ => hB.block k hk⟩
  exact ⟨h.pk.fr hF id (fun _ _ => id) (fun _ _ => id) (fun _ _ => id), h.sk.fr hF id (fun _ _ => id), h.hPT, h.hbP, h.hbT, h.fT, h.wT, h.sT, h.tP, h.dtf, h.dtw, h.dts⟩

/-- The i-th of the sum's four bytes, the high one first; and the first k of them as bits. -/
def sbyte (t i : Nat) : Nat := t / 2 ^ (24 - 8 * i) % 256
def sbits (t : Nat) : Nat → Nat
  | 0 => 0
  | k + 1 => sbits t k + sbyte t k * 2 ^ (8 * k)
theorem sbyte_lt (t i : Nat) : sbyte t i < 256 := Nat.mod_lt _ (by decide)

/-- The end: the four bytes of the sum. -/
theorem be4_of {l : List UInt8} {N M t : Nat} (hl : l.length = M + 4) (hN : N < 2 ^ (8 * M)) (h : Pm.num l = N + sbits t 4 * 2 ^ (8 * M)) (ht : t < 4294967296) : Pm.Pre l N (8 * M) ∧ Pm.be4 l M = t := by
  have hb : sbits t 4 = sbyte t 0 + sbyte t 1 * 256 + sbyte t 2 * 65536 + sbyte t 3 * 16777216 := by
    simp [sbits]
  have hdiv : Pm.num l / 2 ^ (8 * M) = sbits t 4 := by
    rw [h, Nat.add_mul_div_right _ _ (Nat.two_pow_pos _), Nat.div_eq_of_lt hN, Nat.zero_add]
  refine ⟨⟨by omega, by rw [h, Nat.add_mul_mod_self_right, Nat.mod_eq_of_lt hN]⟩, ?_⟩
  have hget : ∀ i, (l.getD (M + i) 0).toNat = sbits t 4 / 2 ^ (8 * i) % 256 := by
    intro i
    rw [← Pm.num_byte]
    unfold Pm.lowV
    rw [Nat.mul_add, Nat.pow_add, ← Nat.div_div_eq_div_mul, hdiv]
  have g0 := hget 0
  have g1 := hget 1
  have g2 := hget 2
  have g3 := hget 3
  have h0 := sbyte_lt t 0
  have h1 := sbyte_lt t 1
  have h2 := sbyte_lt t 2
  have h3 := sbyte_lt t 3
  have s0 : sbyte t 0 = t / 16777216 % 256 := rfl
  have s1 : sbyte t 1 = t / 65536 % 256 := rfl
  have s2 : sbyte t 2 = t / 256 % 256 := rfl
  have s3 : sbyte t 3 = t % 256 := by show t / 1 % 256 = _; rw [Nat.div_one]
  have p0 : sbits t 4 / 2 ^ (8 * 0) = sbits t 4 := by simp
  have p1 : sbits t 4 / 2 ^ (8 * 1) = sbits t 4 / 256 := rfl
  have p2 : sbits t 4 / 2 ^ (8 * 2) = sbits t 4 / 65536 := rfl
  have p3 : sbits t 4 / 2 ^ (8 * 3) = sbits t 4 / 16777216 := rfl
  rw [p0] at g0
  rw [p1] at g1
  rw [p2] at g2
  rw [p3] at g3
  rw [Nat.add_zero] at g0
  unfold Pm.be4
  have q : ∀ b0 b1 b2 b3 X : Nat, b0 < 256 → b1 < 256 → b2 < 256 → b3 < 256 → X = b0 + b1 * 256 + b2 * 65536 + b3 * 16777216 → X % 256 = b0 ∧ X / 256 % 256 = b1 ∧ X / 65536 % 256 = b2 ∧ X / 16777216 % 256 = b3 := by
    intro b0 b1 b2 b3 X a0 a1 a2 a3 e
    refine ⟨?_, ?_, ?_, ?_⟩ <;> omega
  obtain ⟨x0, x1, x2, x3⟩ := q _ _ _ _ _ h0 h1 h2 h3 hb
  rw [g0, g1, g2, g3, x0, x1, x2, x3, s0, s1, s2, s3]
  clear q x0 x1 x2 x3 g0 g1 g2 g3 hb hget hdiv p0 p1 p2 p3 s0 s1 s2 s3 h0 h1 h2 h3 h
  omega
end Go.Proofs.Ytjdnceekakgnlaa
