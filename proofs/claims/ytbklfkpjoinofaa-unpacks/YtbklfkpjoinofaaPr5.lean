import Derived.Test.YtbklfkpjoinofaaPr4
set_option linter.unusedVariables false
set_option linter.unusedSimpArgs false
namespace Go.Proofs.Ytbklfkpjoinofaa
open Go.RowKit

theorem ret_ib2 {a b : Int} {c d : Bool} (h : a = b) (g : c = d) : Ending.returned (.tuple #[.int .i64 a, .bool c]) = .returned (.tuple #[.int .i64 b, .bool d]) := by rw [h, g]

set_option maxRecDepth 100000 in
set_option maxHeartbeats 1000000 in
/-- The program's length: its bits are there; true where it is one. -/
theorem plen_ok (w : World) (b : Nat) (s : ByteArray) (p n c : Nat) (h : PR w b s p n) (hn : n < 8) (hs : s.size ≤ 140737488355328) (h1 : 257 ≤ c) (h2 : c ≤ 285) (hp : p + Pm.lenBits c ≤ 8 * s.size) :
    Calls Try.prog 60 #[.pointer (some ⟨b, 0, none⟩), .int .i64 c] w fun e w' => e = .returned (.tuple #[.int .i64 (Pm.lenStart c + Pm.lowV s.data.toList p (Pm.lenBits c) : Nat), .bool (decide (¬ (258 ≤ Pm.lenStart c + Pm.lowV s.data.toList p (Pm.lenBits c) ∧ c ≠ 285)))]) ∧
      (∃ n', n' < 8 ∧ PR w' b s (p + Pm.lenBits c) n') ∧ Few b w w' := by
  have hlb := Pm.lenBits_le c (by omega) h1
  have hE := hlb.1
  have hX := Pm.lowV_lt s.data.toList p (Pm.lenBits c)
  have hN : Pm.lenStart c + Pm.lowV s.data.toList p (Pm.lenBits c) ≤ 258 := by omega
  clear hX hlb
  by_cases hb : 258 ≤ Pm.lenStart c + Pm.lowV s.data.toList p (Pm.lenBits c)
  · by_cases h5 : c = 285
    · have e1 : decide (¬ (258 ≤ Pm.lenStart c + Pm.lowV s.data.toList p (Pm.lenBits c) ∧ c ≠ 285)) = true := decide_eq_true (fun hh => hh.2 h5)
      rw [e1]
      clear e1
      have h6 : ((c : Int) == 285) = true := by rw [beq_iff_eq]; omega
      clear h5
      go_enter Try.func60, Try.ntmps60
      go_wp2_with fail
      refine (lengthStart_any w c h1 h2).mono ?_
      rintro e w1 ⟨rfl, rfl⟩
      go_wp2_with fail
      refine (take_ok _ b s p n (Pm.lenBits c) h hn (by omega) hs hp).mono ?_
      rintro e w2 ⟨rfl, ⟨n2, hn2, hr2⟩, ho2⟩
      generalize hX : Pm.lowV s.data.toList p (Pm.lenBits c) = X at *
      have HX := hide hX
      clear hX
      generalize hA : Pm.lenStart c = A at *
      have HA := hide hA
      clear hA
      go_wp2
      go_ret2
      exact ⟨ret_ib (by rw [HX.out, HA.out]; simp), ⟨n2, hn2, hr2⟩, ho2⟩
    · have e1 : decide (¬ (258 ≤ Pm.lenStart c + Pm.lowV s.data.toList p (Pm.lenBits c) ∧ c ≠ 285)) = false := by simp [h5, hb]
      rw [e1]
      clear e1
      have h6 : ((c : Int) == 285) = false := by rw [beq_eq_false_iff_ne]; omega
      clear h5
      go_enter Try.func60, Try.ntmps60
      go_wp2_with fail
      refine (lengthStart_any w c h1 h2).mono ?_
      rintro e w1 ⟨rfl, rfl⟩
      go_wp2_with fail
      refine (take_ok _ b s p n (Pm.lenBits c) h hn (by omega) hs hp).mono ?_
      rintro e w2 ⟨rfl, ⟨n2, hn2, hr2⟩, ho2⟩
      generalize hX : Pm.lowV s.data.toList p (Pm.lenBits c) = X at *
      have HX := hide hX
      clear hX
      generalize hA : Pm.lenStart c = A at *
      have HA := hide hA
      clear hA
      have hb3 : decide ((A : Int) + (X : Int) < 258) = false := by simp; omega
      go_wp2
      go_ret2
      exact ⟨ret_ib (by rw [HX.out, HA.out]; simp), ⟨n2, hn2, hr2⟩, ho2⟩
  · have e1 : decide (¬ (258 ≤ Pm.lenStart c + Pm.lowV s.data.toList p (Pm.lenBits c) ∧ c ≠ 285)) = true := by simp [hb]
    rw [e1]
    clear e1
    go_enter Try.func60, Try.ntmps60
    go_wp2_with fail
    refine (lengthStart_any w c h1 h2).mono ?_
    rintro e w1 ⟨rfl, rfl⟩
    go_wp2_with fail
    refine (take_ok _ b s p n (Pm.lenBits c) h hn (by omega) hs hp).mono ?_
    rintro e w2 ⟨rfl, ⟨n2, hn2, hr2⟩, ho2⟩
    generalize hX : Pm.lowV s.data.toList p (Pm.lenBits c) = X at *
    have HX := hide hX
    clear hX
    generalize hA : Pm.lenStart c = A at *
    have HA := hide hA
    clear hA
    have hb2 : decide ((A : Int) + (X : Int) < 258) = true := by simp; omega
    go_wp2
    go_ret2
    exact ⟨ret_ib (by rw [HX.out, HA.out]; simp), ⟨n2, hn2, hr2⟩, ho2⟩

set_option maxRecDepth 100000 in
set_option maxHeartbeats 1000000 in
theorem plen_no (w : World) (b : Nat) (s : ByteArray) (p n c : Nat) (h : PR w b s p n) (hn : n < 8) (hs : s.size ≤ 140737488355328) (h1 : 257 ≤ c) (h2 : c ≤ 285) (hp : 8 * s.size < p + Pm.lenBits c) :
    Calls Try.prog 60 #[.pointer (some ⟨b, 0, none⟩), .int .i64 c] w fun e w' => (∃ z, e = .returned (.tuple #[.int .i64 z, .bool false])) ∧ (∃ p' n', n' < 16 ∧ PR w' b s p' n') ∧ Few b w w' := by
  have hlb := Pm.lenBits_le c (by omega) h1
  have hE := hlb.1
  have hA : Pm.lenStart c ≤ 259 := by have := Nat.two_pow_pos (Pm.lenBits c); omega
  clear hlb
  go_enter Try.func60, Try.ntmps60
  go_wp2_with fail
  refine (lengthStart_any w c h1 h2).mono ?_
  rintro e w1 ⟨rfl, rfl⟩
  go_wp2_with fail
  refine (take_no _ b s p n (Pm.lenBits c) h (by omega) (by omega) hs hp).mono ?_
  rintro e w2 ⟨rfl, ⟨n2, hn2, hr2⟩, ho2⟩
  generalize Pm.lenStart c = A at *
  go_wp2
  go_ret2
  exact ⟨⟨_, rfl⟩, ⟨_, n2, hn2, hr2⟩, ho2⟩

set_option maxRecDepth 100000 in
set_option maxHeartbeats 1000000 in
theorem plen_big (w : World) (b c : Nat) (h1 : 285 < c) (h2 : c ≤ 287) :
    Calls Try.prog 60 #[.pointer (some ⟨b, 0, none⟩), .int .i64 c] w fun e w' => e = .returned (.tuple #[.int .i64 0, .bool false]) ∧ w' = w := by
  go_enter Try.func60, Try.ntmps60
  go_wp2
  go_ret2
  exact ⟨rfl, rfl⟩

set_option maxRecDepth 100000 in
set_option maxHeartbeats 1000000 in
theorem pdist_ok (w : World) (b : Nat) (s : ByteArray) (p n : Nat) (h : PR w b s p n) (hn : n < 8) (hs : s.size ≤ 140737488355328) (h5 : p + 5 ≤ 8 * s.size) (hv : Pm.highV s.data.toList p 5 ≤ 29) (hp : p + 5 + Pm.distBits (Pm.highV s.data.toList p 5) ≤ 8 * s.size) :
    Calls Try.prog 61 #[.pointer (some ⟨b, 0, none⟩)] w fun e w' => e = .returned (.tuple #[.int .i64 (Pm.distStart (Pm.highV s.data.toList p 5) + Pm.lowV s.data.toList (p + 5) (Pm.distBits (Pm.highV s.data.toList p 5)) : Nat), .bool true]) ∧
      (∃ n', n' < 8 ∧ PR w' b s (p + 5 + Pm.distBits (Pm.highV s.data.toList p 5)) n') ∧ Few b w w' := by
  go_enter Try.func61, Try.ntmps61
  go_wp2_with fail
  refine (takeHigh_ok w b s p n 5 h hn (by omega) hs h5).mono ?_
  rintro e w1 ⟨rfl, ⟨n1, hn1, hr1⟩, ho1⟩
  generalize hv5 : Pm.highV s.data.toList p 5 = v at *
  have HV := hide hv5
  clear hv5
  have hdb := Pm.distBits_le v (by omega)
  have hE := hdb.1
  have hX := Pm.lowV_lt s.data.toList (p + 5) (Pm.distBits v)
  have hN : Pm.distStart v + Pm.lowV s.data.toList (p + 5) (Pm.distBits v) ≤ 32768 := by omega
  clear hX hdb
  go_wp2_with fail
  refine (distanceStart_any _ v (by omega)).mono ?_
  rintro e w2 ⟨rfl, rfl⟩
  go_wp2_with fail
  refine (take_ok _ b s (p + 5) n1 (Pm.distBits v) hr1 hn1 (by omega) hs hp).mono ?_
  rintro e w3 ⟨rfl, ⟨n3, hn3, hr3⟩, ho3⟩
  generalize hX : Pm.lowV s.data.toList (p + 5) (Pm.distBits v) = X at *
  have HX := hide hX
  clear hX
  generalize hA : Pm.distStart v = A at *
  have HA := hide hA
  clear hA
  go_wp2
  go_ret2
  exact ⟨ret_ib (by rw [HV.out, HX.out, HA.out]; simp), ⟨n3, hn3, by rw [HV.out]; exact hr3⟩, ho1.trans ho3⟩

set_option maxRecDepth 100000 in
set_option maxHeartbeats 1000000 in
theorem pdist_no (w : World) (b : Nat) (s : ByteArray) (p n : Nat) (h : PR w b s p n) (hn : n < 8) (hs : s.size ≤ 140737488355328)
    (hbad : 8 * s.size < p + 5 ∨ 29 < Pm.highV s.data.toList p 5 ∨ 8 * s.size < p + 5 + Pm.distBits (Pm.highV s.data.toList p 5)) :
    Calls Try.prog 61 #[.pointer (some ⟨b, 0, none⟩)] w fun e w' => (∃ z, e = .returned (.tuple #[.int .i64 z, .bool false])) ∧ (∃ p' n', n' < 16 ∧ PR w' b s p' n') ∧ Few b w w' := by
  by_cases h5 : 8 * s.size < p + 5
  · clear hbad
    go_enter Try.func61, Try.ntmps61
    go_wp2_with fail
    refine (takeHigh_no w b s p n 5 h (by omega) (by omega) hs h5).mono ?_
    rintro e w1 ⟨⟨z, rfl⟩, ⟨n1, hn1, hr1⟩, ho1⟩
    go_wp2
    go_ret2
    exact ⟨⟨_, rfl⟩, ⟨_, n1, hn1, hr1⟩, ho1⟩
  · have hlt : Pm.highV s.data.toList p 5 < 32 := Pm.highV_lt s.data.toList p 5
    by_cases hv : 29 < Pm.highV s.data.toList p 5
    · clear hbad
      go_enter Try.func61, Try.ntmps61
      go_wp2_with fail
      refine (takeHigh_ok w b s p n 5 h hn (by omega) hs (by omega)).mono ?_
      rintro e w1 ⟨rfl, ⟨n1, hn1, hr1⟩, ho1⟩
      generalize Pm.highV s.data.toList p 5 = v at *
      go_wp2
      go_ret2
      exact ⟨⟨_, rfl⟩, ⟨_, n1, by omega, hr1⟩, ho1⟩
    · have hb2 : 8 * s.size < p + 5 + Pm.distBits (Pm.highV s.data.toList p 5) := by omega
      clear hbad
      go_enter Try.func61, Try.ntmps61
      go_wp2_with fail
      refine (takeHigh_ok w b s p n 5 h hn (by omega) hs (by omega)).mono ?_
      rintro e w1 ⟨rfl, ⟨n1, hn1, hr1⟩, ho1⟩
      generalize Pm.highV s.data.toList p 5 = v at *
      have hdb := Pm.distBits_le v (by omega)
      have hE := hdb.1
      have hA : Pm.distStart v ≤ 32769 := by have := Nat.two_pow_pos (Pm.distBits v); omega
      clear hdb
      go_wp2_with fail
      refine (distanceStart_any _ v (by omega)).mono ?_
      rintro e w2 ⟨rfl, rfl⟩
      go_wp2_with fail
      refine (take_no _ b s (p + 5) n1 (Pm.distBits v) hr1 (by omega) (by omega) hs hb2).mono ?_
      rintro e w3 ⟨rfl, ⟨n3, hn3, hr3⟩, ho3⟩
      generalize Pm.distStart v = A at *
      go_wp2
      go_ret2
      exact ⟨⟨_, rfl⟩, ⟨_, n3, hn3, hr3⟩, ho1.trans ho3⟩
end Go.Proofs.Ytbklfkpjoinofaa
