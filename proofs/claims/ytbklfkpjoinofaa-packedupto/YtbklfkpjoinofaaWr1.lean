import Derived.Test.YtbklfkpjoinofaaOwn
import Derived.Test.YtbklfkpjoinofaaEnc2
import Derived.Maps.AppendAt
import Derived.BigRegion
set_option linter.unusedVariables false
set_option linter.unusedSimpArgs false
namespace Go.Proofs.Ytbklfkpjoinofaa
open Go.RowKit

/-- The program's writer of bits, at block P from cell 1 on: the whole bytes F (the slice vf), and n bits that are left, the number H. -/
structure BW (w : World) (P base : Nat) (vf : Value) (F : List UInt8) (H n : Nat) : Prop where
  c1 : w.cell? ⟨P, 1, none⟩ = some vf
  c2 : w.cell? ⟨P, 2, none⟩ = some (.int .u32 H)
  c3 : w.cell? ⟨P, 3, none⟩ = some (.int .i64 n)
  f1 : w.frozen? ⟨P, 1, none⟩ = false
  f2 : w.frozen? ⟨P, 2, none⟩ = false
  f3 : w.frozen? ⟨P, 3, none⟩ = false
  own : w.ownsRow base 5 1 vf F.length (cells F)
  ne : vf.ownBlock ≠ some P
  hb : base ≤ w.heap.size
  hH : H < 2 ^ n

/-- What a put leaves of the rest of memory. -/
structure PutFr (P : Nat) (vf : Value) (w : World) (vf' : Value) (w' : World) : Prop where
  os : w'.os = w.os
  tape : w'.tape = w.tape
  output : w'.output = w.output
  size : w.heap.size ≤ w'.heap.size
  keep : ∀ k, k < w.heap.size → k ≠ P → some k ≠ vf.ownBlock → w'.heap[k]? = w.heap[k]?
  cell : ∀ o, o ≠ 1 → o ≠ 2 → o ≠ 3 → w'.cell? ⟨P, o, none⟩ = w.cell? ⟨P, o, none⟩
  frz : ∀ o, w'.frozen? ⟨P, o, none⟩ = w.frozen? ⟨P, o, none⟩
  blk : vf'.ownBlock = vf.ownBlock ∨ ∃ g, vf'.ownBlock = some g ∧ w.heap.size ≤ g

theorem PutFr.refl (P : Nat) (vf : Value) (w : World) : PutFr P vf w vf w := ⟨rfl, rfl, rfl, Nat.le_refl _, fun _ _ _ _ => rfl, fun _ _ _ _ => rfl, fun _ => rfl, Or.inl rfl⟩

theorem PutFr.trans {P : Nat} {v0 v1 v2 : Value} {w0 w1 w2 : World} (h : PutFr P v0 w0 v1 w1) (g : PutFr P v1 w1 v2 w2) : PutFr P v0 w0 v2 w2 := by
  refine ⟨g.os.trans h.os, g.tape.trans h.tape, g.output.trans h.output, Nat.le_trans h.size g.size, ?_, fun o a b c => (g.cell o a b c).trans (h.cell o a b c), fun o => (g.frz o).trans (h.frz o), ?_⟩
  · intro k hk hP hv
    have h2 : some k ≠ v1.ownBlock := by
      rcases h.blk with e | ⟨x, e, hx⟩
      · rw [e]; exact hv
      · rw [e]; intro hh; cases hh; omega
    exact (g.keep k (Nat.lt_of_lt_of_le hk h.size) hP h2).trans (h.keep k hk hP hv)
  · rcases g.blk with e | ⟨x, e, hx⟩
    · rcases h.blk with e2 | ⟨y, e2, hy⟩
      · exact Or.inl (e.trans e2)
      · exact Or.inr ⟨y, e.trans e2, hy⟩
    · exact Or.inr ⟨x, e, Nat.le_trans h.size hx⟩

theorem PutFr.setCell {P : Nat} {v0 v1 : Value} {w0 w1 : World} (h : PutFr P v0 w0 v1 w1) (o : Nat) (x : Value) (ho : o = 1 ∨ o = 2 ∨ o = 3) : PutFr P v0 w0 v1 (w1.setCell ⟨P, o, none⟩ x) := by
  refine ⟨h.os, h.tape, h.output, by have := h.size; simpa [World.setCell] using this, ?_, ?_, ?_, h.blk⟩
  · intro k hk hP hv
    rw [Below.heap_setCell _ _ _ _ hP]; exact h.keep k hk hP hv
  · intro k a b c
    rw [World.cell?_setCell_other _ _ _ _ (by intro e; cases e; omega)]; exact h.cell k a b c
  · intro k; rw [World.frozen?_setCell]; exact h.frz k

theorem PutFr.drew {P : Nat} {v0 v1 : Value} {w0 w1 : World} (h : PutFr P v0 w0 v1 w1) : PutFr P v0 w0 v1 w1.drew := ⟨h.os, h.tape, h.output, h.size, h.keep, h.cell, h.frz, h.blk⟩
theorem PutFr.drewN {P : Nat} {v0 v1 : Value} {w0 w1 : World} (h : PutFr P v0 w0 v1 w1) (n : Nat) : PutFr P v0 w0 v1 (w1.drewN n) := ⟨h.os, h.tape, h.output, h.size, h.keep, h.cell, h.frz, h.blk⟩

/-- 'append(v, c)', and where the slice lies behind it. -/
theorem run_byte_at (w : World) (t ty : TypeId) (ht : Try.prog.underlying t = some (.slice 5)) {base : Nat} {v : Value} {out : List UInt8} (h : w.ownsRow base 5 1 v out.length (cells out)) (hb : base ≤ w.heap.size)
    (ad : Addr) (m : Nat) (c : UInt8) (hc : w.cell? ad = some (.int .u8 (c.toNat : Nat))) (hs : ad.spot = none) (hl : out.length + 1 ≤ 100000000) :
    ∃ v' w', (Builtin.append_ #[t, t] ty #[v, .slice (some ad) 1 m]).run Try.prog w = .ok v' w' ∧ w'.ownsRow base 5 1 v' (out ++ [c]).length (cells (out ++ [c])) ∧ w.grownBy w' v.ownBlock ∧ (v'.ownBlock = v.ownBlock ∨ v'.ownBlock = some w.heap.size) := by
  obtain ⟨i0, hi, hz0, hz1, hz2⟩ := info_parts Try.info5
  obtain ⟨v', w', hr, ho, hg, _, hat⟩ := run_append_own_at (P := Try.prog) w base t ty 5 i0 (.int .u8 0) 1 1 ht hi hz0 hz1 hz2 rfl (by decide) v out.length (cells out) h ad 1 m [.int .u8 (c.toNat : Nat)] rfl
    (by
      intro j u hj
      match j, hj with
      | 0, hj =>
        simp at hj; subst hj
        have e : ad.add 0 = ad := by unfold Addr.add; split <;> simp_all
        rw [e]; exact hc
      | (j + 1), hj => simp at hj)
    (by intro u hu; simp at hu; subst hu; rfl) (by unfold maxLen; omega) (by omega) hb
  refine ⟨v', w', hr, ?_, hg, hat⟩
  rw [cells_append, List.length_append]; exact ho

theorem step_byte_at {ops : Array Oper} {o : Oper} {a : Act} {w : World} {K : Act → World → Prop} {Q : Exit → Act → World → Prop} {E : Prop} (hgd : o.guard = none) (sl x : Operand) (t : TypeId)
    (ho : o.op = .call { callee := .builtin .append, args := #[sl, x], argTypes := #[t, t] }) (ht : Try.prog.underlying t = some (.slice 5))
    (base : Nat) (v : Value) (out : List UInt8) (hs : a.eval sl = v) (h : w.ownsRow base 5 1 v out.length (cells out)) (hb : base ≤ w.heap.size) (ad : Addr) (m : Nat) (hx : a.eval x = .slice (some ad) 1 m) (c : UInt8) (hc : w.cell? ad = some (.int .u8 (c.toNat : Nat))) (hsp : ad.spot = none)
    (hl : out.length + 1 ≤ 100000000)
    (hk : ∀ v' w', w'.ownsRow base 5 1 v' (out ++ [c]).length (cells (out ++ [c])) → w.grownBy w' v.ownBlock → (v'.ownBlock = v.ownBlock ∨ v'.ownBlock = some w.heap.size) → K (a.put o.dst v') w') :
    if Region.wanted o (yielded ops a.tmps) = true then Oper.wp Try.prog o a w K Q else E := by
  have hw : Region.wanted o (yielded ops a.tmps) = true := by simp [Region.wanted, hgd]
  rw [if_pos hw]
  obtain ⟨v', w', hr, h2, h3, h4⟩ := run_byte_at w t o.type ht h hb ad m c hc hsp hl
  unfold Oper.wp execOp
  simp only [ho, resolve, invoke, builtin, Sem.run_bind, Sem.run_pure, Result.andThen_ok, List.map_toArray, List.map_cons, List.map_nil, hs, hx, hr]
  exact hk v' w' h2 h3 h4

theorem or_put (H v n : Nat) (hH : H < 2 ^ n) (hv : v < 65536) (hn : n < 8) : bits BinOp.or IntKind.u32 (H : Int) ((v : Int) * 2 ^ n % 4294967296) = ((H + v * 2 ^ n : Nat) : Int) := by
  have hF : 2 ^ n ≤ 128 := Nat.le_trans (Nat.pow_le_pow_right (by decide) (show n ≤ 7 by omega)) (by decide)
  have hP : v * 2 ^ n < 8388608 := by
    have : v * 2 ^ n ≤ 65535 * 128 := Nat.mul_le_mul (by omega) hF
    omega
  have e1 : (v : Int) * 2 ^ n % 4294967296 = ((v * 2 ^ n : Nat) : Int) := by
    have e2 : (v : Int) * 2 ^ n = ((v * 2 ^ n : Nat) : Int) := by push_cast; rfl
    rw [e2]; omega
  rw [e1, u32_or_nat _ _ (by omega) (by omega), Nat.or_comm, nat_join n _ _ (Nat.mul_mod_left _ _) hH]
  congr 1; omega

/-- The stream that a writer has: its number. -/
def strm (F : List UInt8) (H : Nat) : Nat := Pm.num F + H * 2 ^ (8 * F.length)

theorem strm_byte (F : List UInt8) (H : Nat) (c : UInt8) (hc : c.toNat = H % 256) : strm (F ++ [c]) (H / 256) = strm F H := by
  unfold strm
  rw [Pm.num_append]
  simp only [Pm.num, List.length_append, List.length_singleton, Nat.mul_zero, Nat.add_zero, hc]
  rw [show 8 * (F.length + 1) = 8 * F.length + 8 from by omega, Nat.pow_add]
  have e8 : (2 : Nat) ^ 8 = 256 := by decide
  rw [e8]
  have hd := Nat.div_add_mod H 256
  have key : 2 ^ (8 * F.length) * (H % 256) + H / 256 * (2 ^ (8 * F.length) * 256) = H * 2 ^ (8 * F.length) := by
    calc 2 ^ (8 * F.length) * (H % 256) + H / 256 * (2 ^ (8 * F.length) * 256) = (256 * (H / 256) + H % 256) * 2 ^ (8 * F.length) := by
          rw [Nat.add_mul, Nat.mul_comm (2 ^ (8 * F.length)) (H % 256), Nat.mul_comm 256 (H / 256), Nat.mul_assoc, Nat.mul_comm 256 (2 ^ (8 * F.length)), Nat.add_comm]
      _ = _ := by rw [hd]
  omega
end Go.Proofs.Ytbklfkpjoinofaa
