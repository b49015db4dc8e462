import Derived.Test.YtbklfkpjoinofaaPr2
set_option linter.unusedVariables false
set_option linter.unusedSimpArgs false
namespace Go.Proofs.Ytbklfkpjoinofaa
open Go.RowKit

theorem or_bit : ∀ x : Nat, x < 256 → ∀ y : Nat, y < 2 → bits BinOp.or IntKind.i64 ((x : Int) * 2) (y : Int) = ((2 * x + y : Nat) : Int) := by decide +kernel

theorem PR.aligned {w : World} {b : Nat} {s : ByteArray} {p n : Nat} (h : PR w b s p n) : PR ((w.setCell ⟨b, 2, none⟩ (.int .u32 0)).setCell ⟨b, 3, none⟩ (.int .i64 0)) b s (p + n) 0 := by
  have h8 := h.at8
  have hl := h.le
  refine h.put (by omega) (by omega) ?_ ?_ ?_ ?_ ?_
  · rw [World.cell?_setCell_other _ _ _ _ (by simp), World.cell?_setCell_other _ _ _ _ (by simp)]
  · rw [World.cell?_setCell_other _ _ _ _ (by simp), World.cell?_setCell_other _ _ _ _ (by simp)]; exact h.c1
  · rw [World.cell?_setCell_other _ _ _ _ (by simp), Pm.lowV_zero]
    exact World.cell?_setCell_same _ _ _ h.c2
  · exact World.cell?_setCell_same (u := .int .i64 n) _ _ _ (by rw [World.cell?_setCell_other _ _ _ _ (by simp)]; exact h.c3)
  · intro a; rw [World.frozen?_setCell, World.frozen?_setCell]

set_option maxRecDepth 100000 in
set_option maxHeartbeats 1000000 in
theorem align_any (w : World) (b : Nat) (s : ByteArray) (p n : Nat) (h : PR w b s p n) :
    Calls Try.prog 20 #[.pointer (some ⟨b, 0, none⟩)] w fun e w' => e = .returned (.bool (decide (Pm.lowV s.data.toList p n = 0))) ∧ PR w' b s (p + n) 0 ∧ Few b w w' := by
  have c2 := h.c2
  have c3 := h.c3
  have f2 := h.f2
  have f3 := h.f3
  by_cases hz : Pm.lowV s.data.toList p n = 0
  · rw [hz] at c2
    have e1 : decide (Pm.lowV s.data.toList p n = 0) = true := by simp [hz]
    rw [e1]
    clear e1 hz
    go_enter Try.func20, Try.ntmps20
    go_wp2
    go_ret
    exact ⟨rfl, h.aligned, ((Few.refl b w).setCell _ _).setCell _ _⟩
  · have e1 : decide (Pm.lowV s.data.toList p n = 0) = false := by simp [hz]
    rw [e1]
    clear e1
    generalize Pm.lowV s.data.toList p n = z at *
    have e2 : ((z : Int) == 0) = false := by rw [beq_eq_false_iff_ne]; omega
    go_enter Try.func20, Try.ntmps20
    go_wp2
    go_ret
    exact ⟨rfl, h.aligned, ((Few.refl b w).setCell _ _).setCell _ _⟩

theorem PR.skip {w : World} {b : Nat} {s : ByteArray} {p k : Nat} (h : PR w b s p 0) {x : Value} (hk : p + 8 * k ≤ 8 * s.size) (hx : x = .int .i64 (p / 8 + k : Nat)) : PR (w.setCell ⟨b, 1, none⟩ x) b s (p + 8 * k) 0 := by
  subst hx
  have h8 := h.at8
  refine h.put (by omega) (by omega) ?_ ?_ ?_ ?_ ?_
  · rw [World.cell?_setCell_other _ _ _ _ (by simp)]
  · rw [World.cell?_setCell_same _ _ _ h.c1]; congr 3; omega
  · rw [World.cell?_setCell_other _ _ _ _ (by simp), Pm.lowV_zero]
    have := h.c2; rwa [Pm.lowV_zero] at this
  · rw [World.cell?_setCell_other _ _ _ _ (by simp)]; exact h.c3
  · intro a; rw [World.frozen?_setCell]

set_option maxRecDepth 100000 in
set_option maxHeartbeats 1000000 in
theorem takeBytes_ok (w : World) (b : Nat) (s : ByteArray) (p k : Nat) (h : PR w b s p 0) (hs : s.size ≤ 140737488355328) (hk : p / 8 + k ≤ s.size) :
    Calls Try.prog 33 #[.pointer (some ⟨b, 0, none⟩), .int .i64 k] w fun e w' => e = .returned (.tuple #[.string (s.extract (p / 8) (p / 8 + k)), .bool true]) ∧ PR w' b s (p + 8 * k) 0 ∧ Few b w w' := by
  have h8 := h.at8
  have c0 := h.c0
  have c1 := h.c1
  have f1 := h.f1
  have HR := hide (fun (x : Value) (q : Nat) hx => (h.drewN q).skip (k := k) (x := x) (by omega) hx)
  rw [Nat.add_zero] at c1
  generalize hq : p / 8 = q at *
  clear hq h8
  go_enter Try.func33, Try.ntmps33
  go_wp2
  go_quiet (fail)
  go_wp2
  go_quiet (fail)
  go_wp2
  go_ret2
  refine ⟨rfl, ?_, ?_⟩
  · first | exact HR.out _ _ (by go_num) | exact (HR.out _ _ (by go_num)).drewN _
  · first | exact ((Few.refl b w).drewN _).setCell _ _ | exact (((Few.refl b w).drewN _).setCell _ _).drewN _

set_option maxRecDepth 100000 in
set_option maxHeartbeats 1000000 in
theorem takeBytes_no (w : World) (b : Nat) (s : ByteArray) (p k : Nat) (h : PR w b s p 0) (hs : s.size ≤ 140737488355328) (hk1 : k ≤ 100000) (hk : s.size < p / 8 + k) :
    Calls Try.prog 33 #[.pointer (some ⟨b, 0, none⟩), .int .i64 k] w fun e w' => e = .returned (.tuple #[.string ⟨#[]⟩, .bool false]) ∧ PR w' b s p 0 ∧ Few b w w' := by
  have h8 := h.at8
  have hl := h.le
  have c0 := h.c0
  have c1 := h.c1
  rw [Nat.add_zero] at c1
  have hq : p / 8 ≤ s.size := by omega
  generalize p / 8 = q at *
  go_enter Try.func33, Try.ntmps33
  go_wp2
  go_quiet (fail)
  go_wp2
  go_ret2
  exact ⟨rfl, h.drewN _, (Few.refl b w).drewN _⟩
end Go.Proofs.Ytbklfkpjoinofaa
