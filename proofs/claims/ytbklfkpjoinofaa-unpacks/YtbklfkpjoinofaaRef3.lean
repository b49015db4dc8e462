import Derived.Test.YtbklfkpjoinofaaRef2
set_option linter.unusedVariables false
set_option linter.unusedSimpArgs false
namespace Go.Proofs.Ytbklfkpjoinofaa
open Go.RowKit

theorem add_shl (V B : Nat) (h : V + 2 ^ B ≤ 100000) : wrap64 ((V : Int) + wrap64 (2 ^ B)) = (V : Int) + 2 ^ B := by
  have e : (2 : Int) ^ B = ((2 ^ B : Nat) : Int) := by push_cast; rfl
  rw [e]
  generalize (2 ^ B : Nat) = F at *
  rw [IntWalk.wrap64_in (F : Int) (by omega), IntWalk.wrap64_in _ (by omega)]

set_option maxRecDepth 100000 in
set_option maxHeartbeats 400000 in
theorem lengthBits_any (w : World) (c : Nat) (h1 : 257 ≤ c) (h2 : c < 285) :
    Calls Try.prog 37 #[.int .i64 c] w fun e w' => e = .returned (.int .i64 (Pm.lenBits c : Nat)) ∧ w' = w := by
  by_cases h : c < 265
  · have e1 : Pm.lenBits c = 0 := by simp [Pm.lenBits, h]
    rw [e1]
    go_enter Try.func37, Try.ntmps37
    go_wp2
    go_ret
    exact ⟨rfl, rfl⟩
  · have e1 : Pm.lenBits c = (c - 261) / 4 := by unfold Pm.lenBits; rw [if_neg (by omega)]
    have HE : Hid (((c : Int) - 261) / 4 = ((Pm.lenBits c : Nat) : Int)) := by show _ = _; rw [e1]; omega
    clear e1
    go_enter Try.func37, Try.ntmps37
    go_wp2
    go_ret
    exact ⟨ret_int HE.out, rfl⟩

set_option maxRecDepth 100000 in
set_option maxHeartbeats 400000 in
theorem distanceBits_any (w : World) (c : Nat) (h2 : c < 30) :
    Calls Try.prog 38 #[.int .i64 c] w fun e w' => e = .returned (.int .i64 (Pm.distBits c : Nat)) ∧ w' = w := by
  by_cases h : c < 4
  · have e1 : Pm.distBits c = 0 := by simp [Pm.distBits, h]
    rw [e1]
    go_enter Try.func38, Try.ntmps38
    go_wp2
    go_ret
    exact ⟨rfl, rfl⟩
  · have e1 : Pm.distBits c = (c - 2) / 2 := by unfold Pm.distBits; rw [if_neg (by omega)]
    have HE : Hid (((c : Int) - 2) / 2 = ((Pm.distBits c : Nat) : Int)) := by show _ = _; rw [e1]; omega
    clear e1
    go_enter Try.func38, Try.ntmps38
    go_wp2
    go_ret
    exact ⟨ret_int HE.out, rfl⟩

set_option maxRecDepth 100000 in
set_option maxHeartbeats 400000 in
theorem reflength_any (w : World) (c : Nat) (h1 : 257 ≤ c) (h2 : c < 285) :
    Calls Try.prog 23 #[.int .i64 c] w fun e w' => e = .returned (.tuple #[.int .i64 (Pm.lenStart c : Nat), .int .i64 (Pm.lenBits c : Nat)]) ∧ w' = w := by
  have hc5 : ((c : Int) == 285) = false := by rw [beq_eq_false_iff_ne]; omega
  go_enter Try.func23, Try.ntmps23
  go_wp2
  go_loopg [4, 5] 30 (fun g n i wr => ∃ k V : Nat, 257 ≤ k ∧ k ≤ c ∧ V ≤ 259 ∧ c - k ≤ g ∧ i = .int .i64 k ∧ n = .int .i64 V ∧ Hid (V = Pm.lenStart k) ∧ wr = w)
  case atStart => exact ⟨257, 3, by omega, by omega, by omega, by omega, rfl, rfl, rfl, rfl⟩
  case round =>
    obtain ⟨k, V, hk1, hk2, hV, hg, rfl, rfl, HE, rfl⟩ := hrel
    by_cases hlt : k < c
    · have HS : Hid (Pm.lenStart (k + 1) = V + 2 ^ Pm.lenBits k) := by show _ = _; rw [Pm.lenStart_succ k (by omega) hk1, HE.out]
      have HB := Pm.lenBits_le k (by omega) hk1
      have HB2 := Pm.lenBits_le (k + 1) (by omega) (by omega)
      have HV : V + 2 ^ Pm.lenBits k ≤ 259 := by rw [← HS.out]; have := Nat.two_pow_pos (Pm.lenBits (k + 1)); omega
      clear HB2
      go_wp2_with fail
      refine (lengthBits_any _ k hk1 (by omega)).mono ?_
      rintro e w' ⟨rfl, rfl⟩
      generalize Pm.lenBits k = B at *
      have HB1 := HB.1
      clear HB
      go_wp2
      go_roundg (gk - 1)
      case measure => omega
      case rel => exact ⟨k + 1, V + 2 ^ B, by omega, by omega, by omega, by omega, by go_num, by simp [add_shl V B (by omega)], HS.out.symm, rfl⟩
    · have hkc : k = c := by omega
      subst hkc
      go_wp2_with fail
      refine (lengthBits_any _ k hk1 (by omega)).mono ?_
      rintro e w' ⟨rfl, rfl⟩
      go_wp2
      go_ret2
      have hv := HE.out
      subst hv
      exact ⟨rfl, rfl⟩

set_option maxRecDepth 100000 in
set_option maxHeartbeats 400000 in
theorem reflength_285 (w : World) :
    Calls Try.prog 23 #[.int .i64 285] w fun e w' => e = .returned (.tuple #[.int .i64 (Pm.lenStart 285 : Nat), .int .i64 (Pm.lenBits 285 : Nat)]) ∧ w' = w := by
  have e1 : Pm.lenStart 285 = 258 := by decide
  have e2 : Pm.lenBits 285 = 0 := by decide
  rw [e1, e2]
  go_enter Try.func23, Try.ntmps23
  go_wp2
  go_ret2
  exact ⟨rfl, rfl⟩

set_option maxRecDepth 100000 in
set_option maxHeartbeats 400000 in
theorem refdistance_any (w : World) (c : Nat) (h2 : c < 30) :
    Calls Try.prog 25 #[.int .i64 c] w fun e w' => e = .returned (.tuple #[.int .i64 (Pm.distStart c : Nat), .int .i64 (Pm.distBits c : Nat)]) ∧ w' = w := by
  go_enter Try.func25, Try.ntmps25
  go_wp2
  go_loopg [4, 5] 30 (fun g n i wr => ∃ k V : Nat, k ≤ c ∧ V ≤ 32769 ∧ c - k ≤ g ∧ i = .int .i64 k ∧ n = .int .i64 V ∧ Hid (V = Pm.distStart k) ∧ wr = w)
  case atStart => exact ⟨0, 1, by omega, by omega, by omega, rfl, rfl, rfl, rfl⟩
  case round =>
    obtain ⟨k, V, hk2, hV, hg, rfl, rfl, HE, rfl⟩ := hrel
    by_cases hlt : k < c
    · have HS : Hid (Pm.distStart (k + 1) = V + 2 ^ Pm.distBits k) := by show _ = _; rw [Pm.distStart_succ k (by omega), HE.out]
      have HB := Pm.distBits_le k (by omega)
      have HB2 := Pm.distBits_le (k + 1) (by omega)
      have HV : V + 2 ^ Pm.distBits k ≤ 32769 := by rw [← HS.out]; have := Nat.two_pow_pos (Pm.distBits (k + 1)); omega
      clear HB2
      go_wp2_with fail
      refine (distanceBits_any _ k (by omega)).mono ?_
      rintro e w' ⟨rfl, rfl⟩
      generalize Pm.distBits k = B at *
      have HB1 := HB.1
      clear HB
      go_wp2
      go_roundg (gk - 1)
      case measure => omega
      case rel => exact ⟨k + 1, V + 2 ^ B, by omega, by omega, by omega, by go_num, by simp [add_shl V B (by omega)], HS.out.symm, rfl⟩
    · have hkc : k = c := by omega
      subst hkc
      go_wp2_with fail
      refine (distanceBits_any _ k (by omega)).mono ?_
      rintro e w' ⟨rfl, rfl⟩
      go_wp2
      go_ret2
      have hv := HE.out
      subst hv
      exact ⟨rfl, rfl⟩

set_option maxRecDepth 100000 in
set_option maxHeartbeats 400000 in
theorem sym7 (w : World) (b : Nat) (s : ByteArray) (p : Nat) (bad : Bool) (h : RB w b s p bad) (hs : s.size ≤ 140737488355328) (hp : p ≤ 8 * s.size)
    (v7 x7 x8 : Nat) (E7 : Hid (Pm.highV s.data.toList p 7 = v7)) (E8 : Hid (Pm.lowV s.data.toList (p + 7) 1 = x7)) (E9 : Hid (Pm.lowV s.data.toList (p + 8) 1 = x8))
    (g7 : v7 < 128) (g8 : x7 < 2) (g9 : x8 < 2) (c1 : v7 ≤ 23) :
    Calls Try.prog 22 #[.pointer (some ⟨b, 0, none⟩)] w fun e w' => e = .returned (.int .i64 (256 + v7 : Int)) ∧ RB w' b s (min (p + 7) (8 * s.size)) (bad || decide (8 * s.size < p + 7)) ∧ Only b w w' := by
  have hlen : s.data.toList.length = s.size := by simp
  have HL : Hid (8 * s.size = 8 * s.data.toList.length) := by show _ = _; rw [hlen]
  clear hlen
  go_enter Try.func22, Try.ntmps22
  go_wp2_with fail
  refine (high_any w b s p bad 7 (by omega) h hs hp).mono ?_
  rintro e w1 ⟨rfl, hr1, ho1⟩
  rw [E7.out]
  go_wp2
  go_ret
  exact ⟨ret_int (by first | omega | (simp; done) | (simp; omega)), hr1, ho1⟩

set_option maxRecDepth 100000 in
set_option maxHeartbeats 400000 in
theorem sym8a (w : World) (b : Nat) (s : ByteArray) (p : Nat) (bad : Bool) (h : RB w b s p bad) (hs : s.size ≤ 140737488355328) (hp : p ≤ 8 * s.size)
    (v7 x7 x8 : Nat) (E7 : Hid (Pm.highV s.data.toList p 7 = v7)) (E8 : Hid (Pm.lowV s.data.toList (p + 7) 1 = x7)) (E9 : Hid (Pm.lowV s.data.toList (p + 8) 1 = x8))
    (g7 : v7 < 128) (g8 : x7 < 2) (g9 : x8 < 2) (c1 : ¬ v7 ≤ 23) (c2 : 2 * v7 + x7 ≤ 191) :
    Calls Try.prog 22 #[.pointer (some ⟨b, 0, none⟩)] w fun e w' => e = .returned (.int .i64 (2 * v7 + x7 - 48 : Int)) ∧ RB w' b s (min (p + 8) (8 * s.size)) (bad || decide (8 * s.size < p + 8)) ∧ Only b w w' := by
  have hlen : s.data.toList.length = s.size := by simp
  have HL : Hid (8 * s.size = 8 * s.data.toList.length) := by show _ = _; rw [hlen]
  clear hlen
  go_enter Try.func22, Try.ntmps22
  go_wp2_with fail
  refine (high_any w b s p bad 7 (by omega) h hs hp).mono ?_
  rintro e w1 ⟨rfl, hr1, ho1⟩
  rw [E7.out]
  go_wp2_with fail
  refine (bit_any w1 b s _ _ hr1 hs (by omega)).mono ?_
  rintro e w2 ⟨rfl, hr2, ho2⟩
  rw [min_step, bad_step] at hr2
  rw [stuck _ _ _ _ HL.out, E8.out]
  go_wp2
  go_ret
  exact ⟨ret_int (by first | omega | (simp; done) | (simp; omega)), hr2, (ho1.trans ho2)⟩

set_option maxRecDepth 100000 in
set_option maxHeartbeats 400000 in
theorem sym8b (w : World) (b : Nat) (s : ByteArray) (p : Nat) (bad : Bool) (h : RB w b s p bad) (hs : s.size ≤ 140737488355328) (hp : p ≤ 8 * s.size)
    (v7 x7 x8 : Nat) (E7 : Hid (Pm.highV s.data.toList p 7 = v7)) (E8 : Hid (Pm.lowV s.data.toList (p + 7) 1 = x7)) (E9 : Hid (Pm.lowV s.data.toList (p + 8) 1 = x8))
    (g7 : v7 < 128) (g8 : x7 < 2) (g9 : x8 < 2) (c1 : ¬ v7 ≤ 23) (c2 : ¬ 2 * v7 + x7 ≤ 191) (c3 : 2 * v7 + x7 ≤ 199) :
    Calls Try.prog 22 #[.pointer (some ⟨b, 0, none⟩)] w fun e w' => e = .returned (.int .i64 (2 * v7 + x7 + 88 : Int)) ∧ RB w' b s (min (p + 8) (8 * s.size)) (bad || decide (8 * s.size < p + 8)) ∧ Only b w w' := by
  have hlen : s.data.toList.length = s.size := by simp
  have HL : Hid (8 * s.size = 8 * s.data.toList.length) := by show _ = _; rw [hlen]
  clear hlen
  go_enter Try.func22, Try.ntmps22
  go_wp2_with fail
  refine (high_any w b s p bad 7 (by omega) h hs hp).mono ?_
  rintro e w1 ⟨rfl, hr1, ho1⟩
  rw [E7.out]
  go_wp2_with fail
  refine (bit_any w1 b s _ _ hr1 hs (by omega)).mono ?_
  rintro e w2 ⟨rfl, hr2, ho2⟩
  rw [min_step, bad_step] at hr2
  rw [stuck _ _ _ _ HL.out, E8.out]
  go_wp2
  go_ret
  exact ⟨ret_int (by first | omega | (simp; done) | (simp; omega)), hr2, (ho1.trans ho2)⟩

set_option maxRecDepth 100000 in
set_option maxHeartbeats 400000 in
theorem sym9 (w : World) (b : Nat) (s : ByteArray) (p : Nat) (bad : Bool) (h : RB w b s p bad) (hs : s.size ≤ 140737488355328) (hp : p ≤ 8 * s.size)
    (v7 x7 x8 : Nat) (E7 : Hid (Pm.highV s.data.toList p 7 = v7)) (E8 : Hid (Pm.lowV s.data.toList (p + 7) 1 = x7)) (E9 : Hid (Pm.lowV s.data.toList (p + 8) 1 = x8))
    (g7 : v7 < 128) (g8 : x7 < 2) (g9 : x8 < 2) (c1 : ¬ v7 ≤ 23) (c2 : ¬ 2 * v7 + x7 ≤ 191) (c3 : ¬ 2 * v7 + x7 ≤ 199) :
    Calls Try.prog 22 #[.pointer (some ⟨b, 0, none⟩)] w fun e w' => e = .returned (.int .i64 (2 * (2 * v7 + x7) + x8 - 256 : Int)) ∧ RB w' b s (min (p + 9) (8 * s.size)) (bad || decide (8 * s.size < p + 9)) ∧ Only b w w' := by
  have hlen : s.data.toList.length = s.size := by simp
  have HL : Hid (8 * s.size = 8 * s.data.toList.length) := by show _ = _; rw [hlen]
  clear hlen
  go_enter Try.func22, Try.ntmps22
  go_wp2_with fail
  refine (high_any w b s p bad 7 (by omega) h hs hp).mono ?_
  rintro e w1 ⟨rfl, hr1, ho1⟩
  rw [E7.out]
  go_wp2_with fail
  refine (bit_any w1 b s _ _ hr1 hs (by omega)).mono ?_
  rintro e w2 ⟨rfl, hr2, ho2⟩
  rw [min_step, bad_step] at hr2
  rw [stuck _ _ _ _ HL.out, E8.out]
  go_wp2_with fail
  refine (bit_any w2 b s _ _ hr2 hs (by omega)).mono ?_
  rintro e w3 ⟨rfl, hr3, ho3⟩
  rw [min_step, bad_step] at hr3
  rw [stuck _ _ _ _ HL.out, E9.out]
  go_wp2
  go_ret
  exact ⟨ret_int (by first | omega | (simp; done) | (simp; omega)), hr3, ((ho1.trans ho2).trans ho3)⟩


theorem symbol_any (w : World) (b : Nat) (s : ByteArray) (p : Nat) (bad : Bool) (h : RB w b s p bad) (hs : s.size ≤ 140737488355328) (hp : p ≤ 8 * s.size) :
    Calls Try.prog 22 #[.pointer (some ⟨b, 0, none⟩)] w fun e w' => e = .returned (.int .i64 ((Pm.symV s.data.toList p).1 : Nat)) ∧ RB w' b s (min (p + (Pm.symV s.data.toList p).2) (8 * s.size)) (bad || decide (8 * s.size < p + (Pm.symV s.data.toList p).2)) ∧ Only b w w' := by
  have g7 : Pm.highV s.data.toList p 7 < 128 := Pm.highV_lt s.data.toList p 7
  have g8 : Pm.lowV s.data.toList (p + 7) 1 < 2 := Pm.lowV_lt s.data.toList (p + 7) 1
  have g9 : Pm.lowV s.data.toList (p + 8) 1 < 2 := Pm.lowV_lt s.data.toList (p + 8) 1
  unfold Pm.symV
  by_cases c1 : Pm.highV s.data.toList p 7 ≤ 23
  · rw [if_pos c1]
    refine (sym7 w b s p bad h hs hp _ _ _ rfl rfl rfl g7 g8 g9 c1).mono ?_
    rintro e w' ⟨rfl, hr, ho⟩
    exact ⟨ret_int (by simp), hr, ho⟩
  · rw [if_neg c1]
    by_cases c2 : 2 * Pm.highV s.data.toList p 7 + Pm.lowV s.data.toList (p + 7) 1 ≤ 191
    · rw [if_pos c2]
      refine (sym8a w b s p bad h hs hp _ _ _ rfl rfl rfl g7 g8 g9 c1 c2).mono ?_
      rintro e w' ⟨rfl, hr, ho⟩
      exact ⟨ret_int (by simp only []; omega), hr, ho⟩
    · rw [if_neg c2]
      by_cases c3 : 2 * Pm.highV s.data.toList p 7 + Pm.lowV s.data.toList (p + 7) 1 ≤ 199
      · rw [if_pos c3]
        refine (sym8b w b s p bad h hs hp _ _ _ rfl rfl rfl g7 g8 g9 c1 c2 c3).mono ?_
        rintro e w' ⟨rfl, hr, ho⟩
        exact ⟨ret_int (by simp only []; omega), hr, ho⟩
      · rw [if_neg c3]
        refine (sym9 w b s p bad h hs hp _ _ _ rfl rfl rfl g7 g8 g9 c1 c2 c3).mono ?_
        rintro e w' ⟨rfl, hr, ho⟩
        exact ⟨ret_int (by simp only []; omega), hr, ho⟩
end Go.Proofs.Ytbklfkpjoinofaa
