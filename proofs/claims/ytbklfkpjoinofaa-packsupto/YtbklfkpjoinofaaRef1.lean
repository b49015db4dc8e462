import Derived.Test.YtbklfkpjoinofaaKit
set_option linter.unusedVariables false
set_option linter.unusedSimpArgs false
namespace Go.Proofs.Ytbklfkpjoinofaa
open Go.RowKit

theorem bit_val (s : ByteArray) (p : Nat) (hp : p / 8 < s.size) : (bits .and .i64 (wrap64 (s[p / 8].toNat : Int) / 2 ^ (p % 8)) 1) = (Pm.lowV s.data.toList p 1 : Nat) := by
  rw [i64_and1, wrap64_byteI, Pm.bit_byte]
  have e : s.data.toList.getD (p / 8) 0 = s[p / 8] := by
    rw [List.getD_eq_getElem?_getD, List.getElem?_eq_getElem (by simpa using hp)]; rfl
  rw [e]
  push_cast
  rfl

set_option maxHeartbeats 400000 in
theorem bit_in (w : World) (b : Nat) (s : ByteArray) (p : Nat) (bad : Bool) (h : RB w b s p bad) (hs : s.size ≤ 140737488355328) (hp : p < 8 * s.size) :
    Calls Try.prog 11 #[.pointer (some ⟨b, 0, none⟩)] w fun e w' => e = .returned (.int .i64 (Pm.lowV s.data.toList p 1 : Nat)) ∧ RB w' b s (p + 1) bad ∧ Only b w w' := by
  have hR := h
  obtain ⟨c0, c1, c2, f1, f2⟩ := h
  have hp8 : p / 8 < s.size := by omega
  have e1 : IntKind.i64.wrap ((p : Int) / 8) = ((p / 8 : Nat) : Int) := by rw [IntWalk.i64_in _ (by omega)]; omega
  have h3 : 0 ≤ (p : Int) / 8 ∧ (p : Int) / 8 < (s.size : Int) := by omega
  have h4 : ((p : Int) / 8).toNat = p / 8 := by omega
  go_enter Try.func11, Try.ntmps11
  go_wp2
  go_quiet (fail)
  go_wp2
  go_quiet (fail)
  go_wp2
  go_ret
  exact ⟨ret_int (bit_val s p hp8), (hR.drewN _).at (p + 1) _ (by simp), ((Only.refl b w).drewN _).setCell _ _⟩

set_option maxHeartbeats 400000 in
theorem bit_out (w : World) (b : Nat) (s : ByteArray) (p : Nat) (bad : Bool) (h : RB w b s p bad) (hs : s.size ≤ 140737488355328) (hp : p = 8 * s.size) :
    Calls Try.prog 11 #[.pointer (some ⟨b, 0, none⟩)] w fun e w' => e = .returned (.int .i64 0) ∧ RB w' b s p true ∧ Only b w w' := by
  have hR := h
  obtain ⟨c0, c1, c2, f1, f2⟩ := h
  have hp' : (8 * (s.size : Int)) ≤ (p : Int) := by omega
  clear hp
  go_enter Try.func11, Try.ntmps11
  go_wp2
  go_quiet (fail)
  go_wp2
  go_ret
  exact ⟨rfl, (hR.drewN _).spoil true, ((Only.refl b w).drewN _).setCell _ _⟩

/-- The next bit, whatever: behind the end it is 0, and bad. -/
theorem bit_any (w : World) (b : Nat) (s : ByteArray) (p : Nat) (bad : Bool) (h : RB w b s p bad) (hs : s.size ≤ 140737488355328) (hp : p ≤ 8 * s.size) :
    Calls Try.prog 11 #[.pointer (some ⟨b, 0, none⟩)] w fun e w' => e = .returned (.int .i64 (Pm.lowV s.data.toList p 1 : Nat)) ∧ RB w' b s (min (p + 1) (8 * s.size)) (bad || decide (8 * s.size < p + 1)) ∧ Only b w w' := by
  by_cases hlt : p < 8 * s.size
  · refine (bit_in w b s p bad h hs hlt).mono ?_
    rintro e w' ⟨rfl, hr, ho⟩
    have e1 : min (p + 1) (8 * s.size) = p + 1 := by omega
    have e2 : decide (8 * s.size < p + 1) = false := by simp; omega
    rw [e1, e2, Bool.or_false]
    exact ⟨rfl, hr, ho⟩
  · have hpe : p = 8 * s.size := by omega
    refine (bit_out w b s p bad h hs hpe).mono ?_
    rintro e w' ⟨rfl, hr, ho⟩
    have e1 : min (p + 1) (8 * s.size) = p := by omega
    have e2 : decide (8 * s.size < p + 1) = true := by simp; omega
    have e3 : Pm.lowV s.data.toList p 1 = 0 := Pm.lowV_end _ _ _ (by have : s.data.toList.length = s.size := (by simp); omega)
    rw [e1, e2, e3, Bool.or_true]
    exact ⟨rfl, hr, ho⟩
end Go.Proofs.Ytbklfkpjoinofaa
