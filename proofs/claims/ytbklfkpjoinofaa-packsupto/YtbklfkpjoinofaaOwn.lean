import Derived.Test.YtbklfkpjoinofaaKit
import Derived.Lib.AppendStr
import Derived.Deep.RegionLaw
import Derived.Deep.LoopGhost
set_option linter.unusedVariables false
set_option linter.unusedSimpArgs false
namespace Go.Proofs.Ytbklfkpjoinofaa
open Go.RowKit

def cells (l : List UInt8) : List Value := l.map fun c => Value.int .u8 c.toNat

theorem cells_length (l : List UInt8) : (cells l).length = l.length := by simp [cells]
theorem cells_append (l m : List UInt8) : cells (l ++ m) = cells l ++ cells m := by simp [cells]
theorem cells_str (s : ByteArray) : Lib.strCells s = cells s.data.toList := rfl

theorem Try.info5 : (Try.prog.info? 5).map (fun i => (i.zero, i.size, i.bytes)) = some (some (.int .u8 0), 1, 1) := by kernel_rfl

/-- The slice v holds the bytes out, in a block of the call's own, behind block b. -/
structure Out (w : World) (b : Nat) (v : Value) (out : List UInt8) : Prop where
  own : w.ownsRow (b + 1) 5 1 v out.length (cells out)
  base : b < w.heap.size

theorem Out.drewN {w : World} {b : Nat} {v : Value} {out : List UInt8} (h : Out w b v out) (n : Nat) : Out (w.drewN n) b v out := ⟨h.own, h.base⟩
theorem Out.drew {w : World} {b : Nat} {v : Value} {out : List UInt8} (h : Out w b v out) : Out w.drew b v out := ⟨h.own, h.base⟩
theorem Out.alloc {w : World} {b : Nat} {v : Value} {out : List UInt8} (h : Out w b v out) (o : Obj) : Out (w.alloc o) b v out := ⟨h.own.alloc o, by have := h.base; simp; omega⟩
theorem Out.only {w w' : World} {b : Nat} {v : Value} {out : List UInt8} (h : Out w b v out) (k : Only b w w') : Out w' b v out := ⟨Only.owns k h.own (Nat.lt_succ_self b), Nat.lt_of_lt_of_le h.base k.size⟩
theorem Out.nil (w : World) (b : Nat) (hb : b < w.heap.size) : Out w b (.slice none 0 0) [] := ⟨World.ownsRow_nil _ _ _ _, hb⟩

/-- The shape of such a slice. -/
theorem Out.form {w : World} {b : Nat} {v : Value} {out : List UInt8} (h : Out w b v out) : ∃ a cap, v = .slice a out.length cap ∧ (a = none → out.length = 0) := by
  rcases h.own.2 with ⟨rfl, hn⟩ | ⟨g, cap, cur, rfl, _⟩
  · exact ⟨none, 0, by rw [hn], fun _ => hn⟩
  · exact ⟨_, _, rfl, fun e => by cases e⟩

theorem Out.at {w : World} {b : Nat} {v : Value} {out : List UInt8} (h : Out w b v out) (i : Nat) (hi : i < out.length) : ∃ g cap, v = .slice (some ⟨g, 0, none⟩) out.length cap ∧ w.cell? ⟨g, i, none⟩ = some (.int .u8 ((out.getD i 0).toNat : Nat)) ∧ b < g := by
  rcases h.own.2 with ⟨rfl, hn⟩ | ⟨g, cap, cur, rfl, hb, _⟩
  · omega
  · refine ⟨g, cap, rfl, ?_, by omega⟩
    have hx : (cells out)[i]? = some (.int .u8 ((out.getD i 0).toNat : Nat)) := by
      simp [cells, List.getElem?_eq_getElem hi]
    have := h.own.cells (g := g) rfl i _ hx
    have hadd : (⟨g, 0, none⟩ : Addr).add i = ⟨g, i, none⟩ := by unfold Addr.add; split <;> simp_all
    rwa [hadd] at this

/-- What the rest of memory owes behind an append: block b and all below it are as they were. -/
theorem Out.kept {w w' : World} {b : Nat} {v : Value} {out : List UInt8} (h : Out w b v out) (hg : w.grownBy w' v.ownBlock) : Below (b + 1) w w' :=
  (Below.refl (b + 1) w).grown hg h.base (fun k hk => (h.own.lt k hk).1)

section
variable {P : Program}

theorem run_append_byte (w : World) (t ty : TypeId) (ht : Try.prog.underlying t = some (.slice 5)) {b : Nat} {v : Value} {out : List UInt8} (h : Out w b v out)
    (ad : Addr) (m : Nat) (c : UInt8) (hc : w.cell? ad = some (.int .u8 (c.toNat : Nat))) (hs : ad.spot = none) (hl : out.length + 1 ≤ 100000000) :
    ∃ v' w', (Builtin.append_ #[t, t] ty #[v, .slice (some ad) 1 m]).run Try.prog w = .ok v' w' ∧ Out w' b v' (out ++ [c]) ∧ Below (b + 1) w w' := by
  obtain ⟨i0, hi, hz0, hz1, hz2⟩ := info_parts Try.info5
  obtain ⟨v', w', hr, ho, hg, _⟩ := run_append_own (P := Try.prog) w (b + 1) t ty 5 i0 (.int .u8 0) 1 1 ht hi hz0 hz1 hz2 rfl (by decide) v out.length (cells out) h.own ad 1 m [.int .u8 (c.toNat : Nat)] rfl
    (by
      intro j u hj
      match j, hj with
      | 0, hj =>
        simp at hj; subst hj
        have e : ad.add 0 = ad := by unfold Addr.add; split <;> simp_all
        rw [e]; exact hc
      | (j + 1), hj => simp at hj)
    (by intro u hu; simp at hu; subst hu; rfl) (by unfold maxLen; omega) (by omega) h.base
  refine ⟨v', w', hr, ⟨?_, Nat.lt_of_lt_of_le h.base hg.size⟩, h.kept hg⟩
  rw [cells_append, List.length_append]; exact ho

theorem run_append_text (w : World) (t u ty : TypeId) (ht : Try.prog.underlying t = some (.slice 5)) (hu : Try.prog.underlying u = some .string) {b : Nat} {v : Value} {out : List UInt8} (h : Out w b v out)
    (s : ByteArray) (hl : out.length + s.size ≤ 100000000) :
    ∃ v' w', (Builtin.append_ #[t, u] ty #[v, .string s]).run Try.prog w = .ok v' w' ∧ Out w' b v' (out ++ s.data.toList) ∧ Below (b + 1) w w' := by
  obtain ⟨i0, hi, hz0, hz1, hz2⟩ := info_parts Try.info5
  obtain ⟨v', w', hr, ho, hg, _⟩ := Lib.run_append_own_string (P := Try.prog) w (b + 1) t u ty 5 i0 ht hu hi hz0 hz1 hz2 v out.length (cells out) h.own s (by unfold maxLen; omega) (by omega) h.base
  refine ⟨v', w', hr, ⟨?_, Nat.lt_of_lt_of_le h.base hg.size⟩, h.kept hg⟩
  rw [cells_append, List.length_append]; exact ho

/-- 'append(v, c)' in a plain list of operations. -/
theorem wpList_byte {ops : Array Oper} {rest : List Oper} {o : Oper} {a : Act} {w : World} {Q : Exit → Act → World → Prop} (hgd : o.guard = none) (sl x : Operand) (t : TypeId)
    (ho : o.op = .call { callee := .builtin .append, args := #[sl, x], argTypes := #[t, t] }) (ht : Try.prog.underlying t = some (.slice 5))
    (b : Nat) (v : Value) (out : List UInt8) (hs : a.eval sl = v) (h : Out w b v out) (ad : Addr) (m : Nat) (hx : a.eval x = .slice (some ad) 1 m) (c : UInt8) (hc : w.cell? ad = some (.int .u8 (c.toNat : Nat))) (hsp : ad.spot = none)
    (hl : out.length + 1 ≤ 100000000)
    (hk : ∀ v' w', Out w' b v' (out ++ [c]) → Below (b + 1) w w' → wpList Try.prog ops Q rest (a.put o.dst v') w') : wpList Try.prog ops Q (o :: rest) a w := by
  refine wpList_plain hgd fun K hK => ?_
  obtain ⟨v', w', hr, h2, h3⟩ := run_append_byte w t o.type ht h ad m c hc hsp hl
  unfold Oper.wp execOp
  simp only [ho, resolve, invoke, builtin, Sem.run_bind, Sem.run_pure, Result.andThen_ok, List.map_toArray, List.map_cons, List.map_nil, hs, hx, hr]
  exact hK _ _ (hk v' w' h2 h3)

/-- 'append(v, s...)' in a plain list of operations. -/
theorem wpList_text {ops : Array Oper} {rest : List Oper} {o : Oper} {a : Act} {w : World} {Q : Exit → Act → World → Prop} (hgd : o.guard = none) (sl x : Operand) (t u : TypeId)
    (ho : o.op = .call { callee := .builtin .append, args := #[sl, x], argTypes := #[t, u] }) (ht : Try.prog.underlying t = some (.slice 5)) (hu : Try.prog.underlying u = some .string)
    (b : Nat) (v : Value) (out : List UInt8) (hs : a.eval sl = v) (h : Out w b v out) (s : ByteArray) (hx : a.eval x = .string s)
    (hl : out.length + s.size ≤ 100000000)
    (hk : ∀ v' w', Out w' b v' (out ++ s.data.toList) → Below (b + 1) w w' → wpList Try.prog ops Q rest (a.put o.dst v') w') : wpList Try.prog ops Q (o :: rest) a w := by
  refine wpList_plain hgd fun K hK => ?_
  obtain ⟨v', w', hr, h2, h3⟩ := run_append_text w t u o.type ht hu h s hl
  unfold Oper.wp execOp
  simp only [ho, resolve, invoke, builtin, Sem.run_bind, Sem.run_pure, Result.andThen_ok, List.map_toArray, List.map_cons, List.map_nil, hs, hx, hr]
  exact hK _ _ (hk v' w' h2 h3)

/-- 'append(v, c)' as one step of a region that draws its order. -/
theorem step_byte {ops : Array Oper} {o : Oper} {a : Act} {w : World} {K : Act → World → Prop} {Q : Exit → Act → World → Prop} {E : Prop} (hgd : o.guard = none) (sl x : Operand) (t : TypeId)
    (ho : o.op = .call { callee := .builtin .append, args := #[sl, x], argTypes := #[t, t] }) (ht : Try.prog.underlying t = some (.slice 5))
    (b : Nat) (v : Value) (out : List UInt8) (hs : a.eval sl = v) (h : Out w b v out) (ad : Addr) (m : Nat) (hx : a.eval x = .slice (some ad) 1 m) (c : UInt8) (hc : w.cell? ad = some (.int .u8 (c.toNat : Nat))) (hsp : ad.spot = none)
    (hl : out.length + 1 ≤ 100000000)
    (hk : ∀ v' w', Out w' b v' (out ++ [c]) → Below (b + 1) w w' → K (a.put o.dst v') w') :
    if Region.wanted o (yielded ops a.tmps) = true then Oper.wp Try.prog o a w K Q else E := by
  have hw : Region.wanted o (yielded ops a.tmps) = true := by simp [Region.wanted, hgd]
  rw [if_pos hw]
  obtain ⟨v', w', hr, h2, h3⟩ := run_append_byte w t o.type ht h ad m c hc hsp hl
  unfold Oper.wp execOp
  simp only [ho, resolve, invoke, builtin, Sem.run_bind, Sem.run_pure, Result.andThen_ok, List.map_toArray, List.map_cons, List.map_nil, hs, hx, hr]
  exact hk v' w' h2 h3

/-- 'append(v, s...)' as one step of a region that draws its order. -/
theorem step_text {ops : Array Oper} {o : Oper} {a : Act} {w : World} {K : Act → World → Prop} {Q : Exit → Act → World → Prop} {E : Prop} (hgd : o.guard = none) (sl x : Operand) (t u : TypeId)
    (ho : o.op = .call { callee := .builtin .append, args := #[sl, x], argTypes := #[t, u] }) (ht : Try.prog.underlying t = some (.slice 5)) (hu : Try.prog.underlying u = some .string)
    (b : Nat) (v : Value) (out : List UInt8) (hs : a.eval sl = v) (h : Out w b v out) (s : ByteArray) (hx : a.eval x = .string s)
    (hl : out.length + s.size ≤ 100000000)
    (hk : ∀ v' w', Out w' b v' (out ++ s.data.toList) → Below (b + 1) w w' → K (a.put o.dst v') w') :
    if Region.wanted o (yielded ops a.tmps) = true then Oper.wp Try.prog o a w K Q else E := by
  have hw : Region.wanted o (yielded ops a.tmps) = true := by simp [Region.wanted, hgd]
  rw [if_pos hw]
  obtain ⟨v', w', hr, h2, h3⟩ := run_append_text w t u o.type ht hu h s hl
  unfold Oper.wp execOp
  simp only [ho, resolve, invoke, builtin, Sem.run_bind, Sem.run_pure, Result.andThen_ok, List.map_toArray, List.map_cons, List.map_nil, hs, hx, hr]
  exact hk v' w' h2 h3
end
end Go.Proofs.Ytbklfkpjoinofaa
