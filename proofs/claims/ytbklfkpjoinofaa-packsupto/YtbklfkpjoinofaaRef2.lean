import Derived.Test.YtbklfkpjoinofaaRef1
import Derived.Deep.LoopGhost
set_option linter.unusedVariables false
set_option linter.unusedSimpArgs false
namespace Go.Proofs.Ytbklfkpjoinofaa
open Go.RowKit

theorem two_le (k n : Nat) (h : k ≤ n) (hn : n ≤ 16) : 2 ^ k ≤ 65536 := Nat.le_trans (Nat.pow_le_pow_right (by decide) (Nat.le_trans h hn)) (by decide)

theorem min_step (p k L : Nat) : min (min (p + k) L + 1) L = min (p + (k + 1)) L := by omega
theorem bad_step (bad : Bool) (p k L : Nat) : ((bad || decide (L < p + k)) || decide (L < min (p + k) L + 1)) = (bad || decide (L < p + (k + 1))) := by
  cases bad
  · simp only [Bool.false_or]
    by_cases h : L < p + k
    · have h1 : L < p + (k + 1) := by omega
      simp [h, h1]
    · have h2 : (L < min (p + k) L + 1) ↔ (L < p + (k + 1)) := by omega
      simp [h, h2]
  · simp
/-- The bit that the reference reads at its place (which stands still at the end) is the one that is meant. -/
theorem stuck (l : List UInt8) (p k L : Nat) (hL : L = 8 * l.length) : Pm.lowV l (min (p + k) L) 1 = Pm.lowV l (p + k) 1 := by
  by_cases h : p + k ≤ L
  · rw [Nat.min_eq_left h]
  · rw [Pm.lowV_end l (p + k) 1 (by omega), Pm.lowV_end l _ 1 (by omega)]
theorem low01 (l : List UInt8) (p : Nat) : Pm.lowV l p 1 = 0 ∨ Pm.lowV l p 1 = 1 := by have := Pm.lowV_lt l p 1; omega

set_option maxHeartbeats 400000 in
theorem low_any (w : World) (b : Nat) (s : ByteArray) (p : Nat) (bad : Bool) (n : Nat) (hn : n ≤ 16) (h : RB w b s p bad) (hs : s.size ≤ 140737488355328) (hp : p ≤ 8 * s.size) :
    Calls Try.prog 12 #[.pointer (some ⟨b, 0, none⟩), .int .i64 n] w fun e w' => e = .returned (.int .i64 (Pm.lowV s.data.toList p n : Nat)) ∧ RB w' b s (min (p + n) (8 * s.size)) (bad || decide (8 * s.size < p + n)) ∧ Only b w w' := by
  have hlen : s.data.toList.length = s.size := by simp
  have HL : Hid (8 * s.size = 8 * s.data.toList.length) := by show _ = _; rw [hlen]
  clear hlen
  go_enter Try.func12, Try.ntmps12
  go_wp2
  go_loopw [5, 6, 7] (fun v f i wr => ∃ k F V : Nat, k ≤ n ∧ F ≤ 65536 ∧ V < F ∧ i = .int .i64 k ∧ f = .int .i64 F ∧ v = .int .i64 V ∧ Hid (F = 2 ^ k ∧ V = Pm.lowV s.data.toList p k) ∧ RB wr b s (min (p + k) (8 * s.size)) (bad || decide (8 * s.size < p + k)) ∧ Only b w wr) (fun _ _ i _ => n - (intOf i).toNat)
  case atStart =>
    refine ⟨0, 1, 0, Nat.zero_le _, by omega, by omega, rfl, rfl, rfl, ⟨rfl, (Pm.lowV_zero _ _).symm⟩, ?_, Only.refl b w⟩
    have e1 : min (p + 0) (8 * s.size) = p := by omega
    have e2 : decide (8 * s.size < p + 0) = false := by simp; omega
    rw [e1, e2, Bool.or_false]; exact h
  case round =>
    obtain ⟨k, F, V, hk, hF, hV, rfl, rfl, rfl, HE, hr, ho⟩ := hrel
    by_cases hlt : k < n
    · go_wp2_with fail
      refine (bit_any wr b s _ _ hr hs (by omega)).mono ?_
      rintro e w' ⟨rfl, hr', ho'⟩
      rw [min_step, bad_step, stuck _ _ _ _ HL.out] at *
      have HX := low01 s.data.toList (p + k)
      have HV : Hid (Pm.lowV s.data.toList p (k + 1) = V + F * Pm.lowV s.data.toList (p + k) 1) := by
        show _ = _
        rw [Pm.lowV_add, HE.out.1, HE.out.2]
      generalize Pm.lowV s.data.toList (p + k) 1 = x at *
      have H2 : 2 * F ≤ 65536 := by have := HE.out.1; rw [this, ← Nat.pow_succ']; exact two_le (k + 1) n (by omega) hn
      rcases HX with rfl | rfl
      · go_wp2
        go_roundw
        case rel => exact ⟨k + 1, 2 * F, V, by omega, by omega, by omega, by go_num, by go_num, by go_num, ⟨by rw [HE.out.1, Nat.pow_succ'], by rw [HV.out]; omega⟩, hr', ho.trans ho'⟩
        case measure => simp [intOf]; omega
      · go_wp2
        go_roundw
        case rel => exact ⟨k + 1, 2 * F, V + F, by omega, by omega, by omega, by go_num, by go_num, by go_num, ⟨by rw [HE.out.1, Nat.pow_succ'], by rw [HV.out]; omega⟩, hr', ho.trans ho'⟩
        case measure => simp [intOf]; omega
    · have hkn : k = n := by omega
      subst hkn
      go_wp2
      go_ret
      exact ⟨ret_int (by rw [HE.out.2]), hr, ho⟩

set_option maxHeartbeats 400000 in
theorem high_any (w : World) (b : Nat) (s : ByteArray) (p : Nat) (bad : Bool) (n : Nat) (hn : n ≤ 16) (h : RB w b s p bad) (hs : s.size ≤ 140737488355328) (hp : p ≤ 8 * s.size) :
    Calls Try.prog 24 #[.pointer (some ⟨b, 0, none⟩), .int .i64 n] w fun e w' => e = .returned (.int .i64 (Pm.highV s.data.toList p n : Nat)) ∧ RB w' b s (min (p + n) (8 * s.size)) (bad || decide (8 * s.size < p + n)) ∧ Only b w w' := by
  have hlen : s.data.toList.length = s.size := by simp
  have HL : Hid (8 * s.size = 8 * s.data.toList.length) := by show _ = _; rw [hlen]
  clear hlen
  go_enter Try.func24, Try.ntmps24
  go_wp2
  go_loopw [5, 6] (fun v i wr => ∃ k V : Nat, k ≤ n ∧ V ≤ 65536 ∧ i = .int .i64 k ∧ v = .int .i64 V ∧ Hid (V = Pm.highV s.data.toList p k) ∧ RB wr b s (min (p + k) (8 * s.size)) (bad || decide (8 * s.size < p + k)) ∧ Only b w wr) (fun _ i _ => n - (intOf i).toNat)
  case atStart =>
    refine ⟨0, 0, Nat.zero_le _, by omega, rfl, rfl, rfl, ?_, Only.refl b w⟩
    have e1 : min (p + 0) (8 * s.size) = p := by omega
    have e2 : decide (8 * s.size < p + 0) = false := by simp; omega
    rw [e1, e2, Bool.or_false]; exact h
  case round =>
    obtain ⟨k, V, hk, hV, rfl, rfl, HE, hr, ho⟩ := hrel
    by_cases hlt : k < n
    · go_wp2_with fail
      refine (bit_any wr b s _ _ hr hs (by omega)).mono ?_
      rintro e w' ⟨rfl, hr', ho'⟩
      rw [min_step, bad_step, stuck _ _ _ _ HL.out] at *
      have HX := low01 s.data.toList (p + k)
      have HV : Hid (Pm.highV s.data.toList p (k + 1) = 2 * V + Pm.lowV s.data.toList (p + k) 1) := by
        show _ = _
        rw [Pm.highV, HE.out]
      have H2 : Pm.highV s.data.toList p (k + 1) ≤ 65536 := Nat.le_trans (Nat.le_of_lt (Pm.highV_lt _ _ _)) (two_le (k + 1) n (by omega) hn)
      have H3 : 2 * V + Pm.lowV s.data.toList (p + k) 1 ≤ 65536 := by rw [← HV.out]; exact H2
      clear H2
      generalize Pm.lowV s.data.toList (p + k) 1 = x at *
      go_wp2
      go_roundw
      case rel => exact ⟨k + 1, 2 * V + x, by omega, by omega, by go_num, by go_num, HV.out.symm, hr', ho.trans ho'⟩
      case measure => simp [intOf]; omega
    · have hkn : k = n := by omega
      subst hkn
      go_wp2
      go_ret
      exact ⟨ret_int (by rw [HE.out]), hr, ho⟩

/-- The next whole byte's place. -/
def up8 (p : Nat) : Nat := (p + 7) / 8 * 8

set_option maxHeartbeats 400000 in
theorem whole_any (w : World) (b : Nat) (s : ByteArray) (p : Nat) (bad : Bool) (h : RB w b s p bad) (hs : s.size ≤ 140737488355328) (hp : p ≤ 8 * s.size) :
    Calls Try.prog 15 #[.pointer (some ⟨b, 0, none⟩)] w fun e w' => e = .returned (.tuple #[]) ∧ RB w' b s (up8 p) (bad || decide (Pm.lowV s.data.toList p (up8 p - p) ≠ 0)) ∧ Only b w w' := by
  have hup : p ≤ up8 p ∧ up8 p ≤ 8 * s.size ∧ up8 p < p + 8 ∧ up8 p % 8 = 0 := by unfold up8; omega
  generalize hP : up8 p = P8 at *
  clear hP
  go_enter Try.func15, Try.ntmps15
  go_wp2
  go_loopg [2] 8 (fun g _ wr => ∃ q : Nat, p ≤ q ∧ q ≤ P8 ∧ P8 - q ≤ g ∧ RB wr b s q (bad || decide (Pm.lowV s.data.toList p (q - p) ≠ 0)) ∧ Only b w wr)
  case atStart =>
    refine ⟨p, Nat.le_refl _, by omega, by omega, ?_, Only.refl b w⟩
    have e1 : Pm.lowV s.data.toList p (p - p) = 0 := by rw [Nat.sub_self]; exact Pm.lowV_zero _ _
    rw [e1]; simpa using h
  case round =>
    obtain ⟨q, h1, h2, h3, hr, ho⟩ := hrel
    have c1 := hr.c1
    by_cases hlt : q < P8
    · have hm : ¬ q % 8 = 0 := by omega
      go_wp2_with fail
      refine (bit_in wr b s _ _ hr hs (by omega)).mono ?_
      rintro e w' ⟨rfl, hr', ho'⟩
      have HX := low01 s.data.toList q
      have HV : Hid (Pm.lowV s.data.toList p (q + 1 - p) = Pm.lowV s.data.toList p (q - p) + 2 ^ (q - p) * Pm.lowV s.data.toList q 1) := by
        show _ = _
        have e1 : q + 1 - p = (q - p) + 1 := by omega
        have e2 : p + (q - p) = q := by omega
        rw [e1, Pm.lowV_add, e2]
      have f2 := hr'.f2
      obtain ⟨cc, c2⟩ : ∃ cc, w'.cell? ⟨b, 2, none⟩ = some (.bool cc) := ⟨_, hr'.c2⟩
      clear c1
      generalize Pm.lowV s.data.toList q 1 = x at *
      rcases HX with rfl | rfl
      · go_wp2
        go_roundg (gk - 1)
        case measure => omega
        case rel =>
          refine ⟨q + 1, by omega, by omega, by omega, ?_, ho.trans ho'⟩
          have e1 := HV.out
          rw [Nat.mul_zero, Nat.add_zero] at e1
          rw [e1]; exact hr'
      · go_wp2
        go_roundg (gk - 1)
        case measure => omega
        case rel =>
          refine ⟨q + 1, by omega, by omega, by omega, ?_, (ho.trans ho').setCell _ _⟩
          have e1 := HV.out
          have e2 : decide (Pm.lowV s.data.toList p (q + 1 - p) ≠ 0) = true := by
            have := Nat.two_pow_pos (q - p)
            rw [e1]; simp
          rw [e2, Bool.or_true]
          exact hr'.spoil true
    · have hq : q = P8 := by omega
      subst hq
      have hm : q % 8 = 0 := by omega
      go_wp2
      go_end0
      exact ⟨rfl, hr, ho⟩
end Go.Proofs.Ytbklfkpjoinofaa
