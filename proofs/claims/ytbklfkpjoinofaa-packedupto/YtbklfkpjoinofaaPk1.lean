import Derived.Test.YtbklfkpjoinofaaWk6
import Derived.Test.YtbklfkpjoinofaaSum0
import Derived.Laws.CopyOwn
set_option linter.unusedVariables false
set_option linter.unusedSimpArgs false
namespace Go.Proofs.Ytbklfkpjoinofaa
open Go.RowKit

/-- 'append(v, s...)', and where the slice lies behind it. -/
theorem run_text_at (w : World) (t u ty : TypeId) (ht : Try.prog.underlying t = some (.slice 5)) (hu : Try.prog.underlying u = some .string) {base : Nat} {v : Value} {out : List UInt8} (h : w.ownsRow base 5 1 v out.length (cells out)) (hb : base ≤ w.heap.size)
    (s : ByteArray) (hl : out.length + s.size ≤ 4000000000) :
    ∃ v' w', (Builtin.append_ #[t, u] ty #[v, .string s]).run Try.prog w = .ok v' w' ∧ w'.ownsRow base 5 1 v' (out ++ s.data.toList).length (cells (out ++ s.data.toList)) ∧ w.grownBy w' v.ownBlock ∧ (v'.ownBlock = v.ownBlock ∨ v'.ownBlock = some w.heap.size) := by
  obtain ⟨i0, hi, hz0, hz1, hz2⟩ := info_parts Try.info5
  obtain ⟨v', w', hr, ho, hg, hnil⟩ := Lib.run_append_own_string (P := Try.prog) w base t u ty 5 i0 ht hu hi hz0 hz1 hz2 v out.length (cells out) h s (by unfold maxLen; omega) (by omega) hb
  refine ⟨v', w', hr, ?_, hg, ?_⟩
  · rw [cells_append, List.length_append]; exact ho
  · rcases h.2 with ⟨rfl, hn⟩ | ⟨g, cap, cur, rfl, _, hgc, _, hcm, hcs, _⟩
    · by_cases hm : s.size = 0
      · rw [hnil.2 ⟨rfl, hm⟩]; exact Or.inl rfl
      · have hr2 := run_append_nil_string (P := Try.prog) w t u ty 5 i0 (.int .u8 0) ht hu hi hz0 s (by omega) (by omega) (by rw [hz2]; omega)
        rw [hr2] at hr
        cases hr
        exact Or.inr rfl
    · by_cases hroom : out.length + s.size ≤ cap
      · have hr2 := Lib.run_append_room_string (P := Try.prog) w t u ty 5 i0 ht hu hi hz1 g out.length cap cur hgc s hroom (by omega)
        rw [hr2] at hr
        cases hr
        exact Or.inl rfl
      · have hr2 := Lib.run_append_grow_string (P := Try.prog) w t u ty 5 i0 (.int .u8 0) ht hu hi hz0 ⟨g, 0, none⟩ out.length cap (cells out) (by rw [hz1]; simp [cells]) (h.cells (g := g) rfl) s (by omega) (by omega) (by rw [hz2]; exact growslice_fits (by omega) (by unfold maxLen at hcm; omega))
        rw [hr2] at hr
        cases hr
        exact Or.inr rfl

theorem step_text_at {ops : Array Oper} {o : Oper} {a : Act} {w : World} {K : Act → World → Prop} {Q : Exit → Act → World → Prop} {E : Prop} (hgd : o.guard = none) (sl x : Operand) (t u : TypeId)
    (ho : o.op = .call { callee := .builtin .append, args := #[sl, x], argTypes := #[t, u] }) (ht : Try.prog.underlying t = some (.slice 5)) (hu : Try.prog.underlying u = some .string)
    (base : Nat) (v : Value) (out : List UInt8) (hs : a.eval sl = v) (h : w.ownsRow base 5 1 v out.length (cells out)) (hb : base ≤ w.heap.size) (s : ByteArray) (hx : a.eval x = .string s)
    (hl : out.length + s.size ≤ 4000000000)
    (hk : ∀ v' w', w'.ownsRow base 5 1 v' (out ++ s.data.toList).length (cells (out ++ s.data.toList)) → w.grownBy w' v.ownBlock → (v'.ownBlock = v.ownBlock ∨ v'.ownBlock = some w.heap.size) → K (a.put o.dst v') w') :
    if Region.wanted o (yielded ops a.tmps) = true then Oper.wp Try.prog o a w K Q else E := by
  have hw : Region.wanted o (yielded ops a.tmps) = true := by simp [Region.wanted, hgd]
  rw [if_pos hw]
  obtain ⟨v', w', hr, h2, h3, h4⟩ := run_text_at w t u o.type ht hu h hb s hl
  unfold Oper.wp execOp
  simp only [ho, resolve, invoke, builtin, Sem.run_bind, Sem.run_pure, Result.andThen_ok, List.map_toArray, List.map_cons, List.map_nil, hs, hx, hr]
  exact hk v' w' h2 h3 h4

set_option maxRecDepth 100000 in
set_option maxHeartbeats 1000000 in
theorem add4_any (w : World) (c A B : Nat) (t : ByteArray) (ht : t.size ≤ 140737488355328) (hA : A < 65521) (hB : B < 65521) (c0 : w.cell? ⟨c, 4, none⟩ = some (.int .u32 A)) (c1 : w.cell? ⟨c, 5, none⟩ = some (.int .u32 B)) (f0 : w.frozen? ⟨c, 4, none⟩ = false) (f1 : w.frozen? ⟨c, 5, none⟩ = false) :
    Calls Try.prog 35 #[.pointer (some ⟨c, 4, none⟩), .string t] w fun e w' => e = .returned (.tuple #[]) ∧ ∃ q, w' = ((w.drewN q).setCell ⟨c, 4, none⟩ (.int .u32 ((Pm.sumV t.data.toList (A, B)).1 : Nat))).setCell ⟨c, 5, none⟩ (.int .u32 ((Pm.sumV t.data.toList (A, B)).2 : Nat)) := by
  go_enter Try.func35, Try.ntmps35
  go_wp2
  go_quiet (fail)
  go_wp2
  go_loopg [4, 5, 6] t.size (fun g x y i wr => ∃ k X Y : Nat, k ≤ t.size ∧ X < 65521 ∧ Y < 65521 ∧ t.size - k ≤ g ∧ i = .int .i64 k ∧ x = .int .u32 X ∧ y = .int .u32 Y ∧ Hid (Pm.sumV (t.data.toList.take k) (A, B) = (X, Y)) ∧ wr = w.drewN nq)
  case atStart => exact ⟨0, A, B, by omega, hA, hB, by omega, rfl, rfl, rfl, rfl, rfl⟩
  case round =>
    obtain ⟨k, X, Y, hk, hX, hY, hg, rfl, rfl, rfl, HE, rfl⟩ := hrel
    by_cases hlt : k < t.size
    · have HS : Hid (Pm.sumV (t.data.toList.take (k + 1)) (A, B) = ((X + t[k].toNat) % 65521, (Y + (X + t[k].toNat) % 65521) % 65521)) := by
        show _ = _
        rw [take_snoc' t k hlt, Pm.sumV_snoc, HE.out]
      have hc : t[k].toNat < 256 := t[k].toNat_lt
      go_wp2
      go_roundg (gk - 1)
      case measure => omega
      case rel => exact ⟨k + 1, (X + t[k].toNat) % 65521, (Y + (X + t[k].toNat) % 65521) % 65521, by omega, Nat.mod_lt _ (by decide), Nat.mod_lt _ (by decide), by omega, by go_num, by simp, by simp, HS.out, rfl⟩
    · have hkc : t.data.toList.take k = t.data.toList := List.take_of_length_le (by simp; omega)
      have HE2 : Hid (Pm.sumV t.data.toList (A, B) = (X, Y)) := by show _ = _; rw [← hkc]; exact HE.out
      clear hkc
      go_wp2
      go_end0
      rw [HE2.out]
      exact ⟨rfl, nq, rfl⟩

/-- The sink, which takes any number of bytes, at block T: what it has taken. -/
structure SK (w : World) (T base : Nat) (vt : Value) (Tk : List UInt8) : Prop where
  c0 : w.cell? ⟨T, 0, none⟩ = some (.int .i64 (-1))
  c1 : w.cell? ⟨T, 1, none⟩ = some vt
  c2 : w.cell? ⟨T, 2, none⟩ = some (.bool false)
  fz : ∀ o, w.frozen? ⟨T, o, none⟩ = false
  own : w.ownsRow base 5 1 vt Tk.length (cells Tk)
  ne : vt.ownBlock ≠ some T
  hT : T < w.heap.size
  hb : base ≤ w.heap.size

set_option maxRecDepth 100000 in
set_option maxHeartbeats 1000000 in
theorem room_any (w : World) (T base : Nat) (vt : Value) (Tk : List UInt8) (h : SK w T base vt Tk) (n : Nat) (hn : n ≤ 4000000000) :
    Calls Try.prog 84 #[.pointer (some ⟨T, 0, none⟩), .int .i64 n] w fun e w' => e = .returned (.int .i64 n) ∧ w' = w := by
  have c0 := h.c0
  have c2 := h.c2
  go_enter Try.func84, Try.ntmps84
  go_wp2
  go_ret
  exact ⟨rfl, rfl⟩
end Go.Proofs.Ytbklfkpjoinofaa
