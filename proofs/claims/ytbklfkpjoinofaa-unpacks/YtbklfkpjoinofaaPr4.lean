import Derived.Test.YtbklfkpjoinofaaPr3
set_option linter.unusedVariables false
set_option linter.unusedSimpArgs false
namespace Go.Proofs.Ytbklfkpjoinofaa
open Go.RowKit

set_option maxRecDepth 100000 in
set_option maxHeartbeats 1000000 in
/-- The program's symbol: all its bits are there. -/
theorem psym_ok (w : World) (b : Nat) (s : ByteArray) (p n : Nat) (h : PR w b s p n) (hn : n < 8) (hs : s.size ≤ 140737488355328) (hp : p + (Pm.symV s.data.toList p).2 ≤ 8 * s.size) :
    Calls Try.prog 54 #[.pointer (some ⟨b, 0, none⟩)] w fun e w' => e = .returned (.tuple #[.int .i64 ((Pm.symV s.data.toList p).1 : Nat), .bool true]) ∧ (∃ n', n' < 8 ∧ PR w' b s (p + (Pm.symV s.data.toList p).2) n') ∧ Few b w w' := by
  have hw := Pm.symV_w s.data.toList p
  have g7 : Pm.highV s.data.toList p 7 < 128 := Pm.highV_lt s.data.toList p 7
  have g8 : Pm.lowV s.data.toList (p + 7) 1 < 2 := Pm.lowV_lt s.data.toList (p + 7) 1
  have g9 : Pm.lowV s.data.toList (p + 8) 1 < 2 := Pm.lowV_lt s.data.toList (p + 8) 1
  have HS := hide (show Pm.symV s.data.toList p = _ from rfl)
  generalize hsy : Pm.symV s.data.toList p = sy at *
  have HY : Hid (Pm.symV s.data.toList p = sy) := hsy
  clear hsy HS
  obtain ⟨c, wd⟩ := sy
  simp only [] at *
  go_enter Try.func54, Try.ntmps54
  go_wp2_with fail
  refine (takeHigh_ok w b s p n 7 h hn (by omega) hs (by omega)).mono ?_
  rintro e w1 ⟨rfl, ⟨n1, hn1, hr1⟩, ho1⟩
  by_cases c1 : Pm.highV s.data.toList p 7 ≤ 23
  · have e0 := HY.out
    unfold Pm.symV at e0
    rw [if_pos c1] at e0
    have HE := hide e0
    clear e0 HY
    generalize Pm.highV s.data.toList p 7 = v7 at *
    go_wp2
    go_ret2
    have e1 := HE.out
    cases e1
    exact ⟨ret_ib (by simp), ⟨n1, hn1, hr1⟩, ho1⟩
  · have e0 := HY.out
    unfold Pm.symV at e0
    rw [if_neg c1] at e0
    have hwd : 8 ≤ wd := by
      split at e0
      · cases e0; omega
      · split at e0 <;> cases e0 <;> omega
    have HE := hide e0
    clear e0 HY
    go_wp2_with fail
    refine (take_ok w1 b s (p + 7) n1 1 hr1 hn1 (by omega) hs (by omega)).mono ?_
    rintro e w2 ⟨rfl, ⟨n2, hn2, hr2⟩, ho2⟩
    have OB := or_bit (Pm.highV s.data.toList p 7) (by omega) _ g8
    generalize Pm.highV s.data.toList p 7 = v7 at *
    generalize Pm.lowV s.data.toList (p + 7) 1 = x7 at *
    by_cases c2 : 2 * v7 + x7 ≤ 191
    · have e1 := HE.out
      rw [if_pos c2] at e1
      have HE2 := hide e1
      clear e1 HE
      go_wp2
      go_ret2
      have e1 := HE2.out
      cases e1
      exact ⟨ret_ib (by first | omega | (simp; omega)), ⟨n2, hn2, hr2⟩, ho1.trans ho2⟩
    · have e1 := HE.out
      rw [if_neg c2] at e1
      have HE2 := hide e1
      clear e1 HE
      by_cases c3 : 2 * v7 + x7 ≤ 199
      · have e1 := HE2.out
        rw [if_pos c3] at e1
        have HE3 := hide e1
        clear e1 HE2
        go_wp2
        go_ret2
        have e1 := HE3.out
        cases e1
        exact ⟨ret_ib (by first | omega | (simp; omega)), ⟨n2, hn2, hr2⟩, ho1.trans ho2⟩
      · have e1 := HE2.out
        rw [if_neg c3] at e1
        have HE3 := hide e1
        clear e1 HE2
        have hwd9 : 9 ≤ wd := by have e2 := HE3.out; cases e2; omega
        have OB2 := fun hh => or_bit (2 * v7 + x7) hh _ g9
        have OB3 := OB2 (by omega)
        clear OB2
        go_wp2_with fail
        refine (take_ok w2 b s (p + 7 + 1) n2 1 hr2 hn2 (by omega) hs (by omega)).mono ?_
        rintro e w3 ⟨rfl, ⟨n3, hn3, hr3⟩, ho3⟩
        generalize Pm.lowV s.data.toList (p + 8) 1 = x8 at *
        go_wp2
        go_ret2
        have e1 := HE3.out
        cases e1
        refine ⟨ret_ib ?_, ⟨n3, hn3, hr3⟩, (ho1.trans ho2).trans ho3⟩
        have h1 : (2 * (v7 : Int) + (x7 : Int)) * 2 = ((2 * v7 + x7 : Nat) : Int) * 2 := by push_cast; rfl
        rw [h1, OB3, IntWalk.wrap64_in (144 + _) (by omega), IntWalk.wrap64_in _ (by omega)]
        omega

set_option maxRecDepth 100000 in
set_option maxHeartbeats 1000000 in
/-- The program's symbol: some bits are not there. -/
theorem psym_no (w : World) (b : Nat) (s : ByteArray) (p n : Nat) (h : PR w b s p n) (hn : n < 8) (hs : s.size ≤ 140737488355328) (hp : 8 * s.size < p + (Pm.symV s.data.toList p).2) :
    Calls Try.prog 54 #[.pointer (some ⟨b, 0, none⟩)] w fun e w' => (∃ z, e = .returned (.tuple #[.int .i64 z, .bool false])) ∧ (∃ p' n', n' < 16 ∧ PR w' b s p' n') ∧ Few b w w' := by
  have g7 : Pm.highV s.data.toList p 7 < 128 := Pm.highV_lt s.data.toList p 7
  have g8 : Pm.lowV s.data.toList (p + 7) 1 < 2 := Pm.lowV_lt s.data.toList (p + 7) 1
  by_cases h7 : 8 * s.size < p + 7
  · clear hp
    go_enter Try.func54, Try.ntmps54
    go_wp2_with fail
    refine (takeHigh_no w b s p n 7 h (by omega) (by omega) hs h7).mono ?_
    rintro e w1 ⟨⟨z, rfl⟩, ⟨n1, hn1, hr1⟩, ho1⟩
    go_wp2
    go_ret2
    exact ⟨⟨_, rfl⟩, ⟨_, n1, hn1, hr1⟩, ho1⟩
  · have c1 : ¬ Pm.highV s.data.toList p 7 ≤ 23 := by
      intro c1
      unfold Pm.symV at hp
      rw [if_pos c1] at hp
      simp only [] at hp
      omega
    have H9 : Hid (p + 8 ≤ 8 * s.size → ¬ 2 * Pm.highV s.data.toList p 7 + Pm.lowV s.data.toList (p + 7) 1 ≤ 199 ∧ 8 * s.size < p + 9) := by
      intro h8
      unfold Pm.symV at hp
      rw [if_neg c1] at hp
      by_cases c2 : 2 * Pm.highV s.data.toList p 7 + Pm.lowV s.data.toList (p + 7) 1 ≤ 191
      · rw [if_pos c2] at hp; simp only [] at hp; omega
      · rw [if_neg c2] at hp
        by_cases c3 : 2 * Pm.highV s.data.toList p 7 + Pm.lowV s.data.toList (p + 7) 1 ≤ 199
        · rw [if_pos c3] at hp; simp only [] at hp; omega
        · rw [if_neg c3] at hp; exact ⟨c3, hp⟩
    clear hp
    have OB0 : bits BinOp.or IntKind.i64 ((Pm.highV s.data.toList p 7 : Int) * 2) 0 = ((2 * Pm.highV s.data.toList p 7 : Nat) : Int) := or_bit (Pm.highV s.data.toList p 7) (by omega) 0 (by omega)
    have OB := or_bit (Pm.highV s.data.toList p 7) (by omega) _ g8
    go_enter Try.func54, Try.ntmps54
    go_wp2_with fail
    refine (takeHigh_ok w b s p n 7 h hn (by omega) hs (by omega)).mono ?_
    rintro e w1 ⟨rfl, ⟨n1, hn1, hr1⟩, ho1⟩
    by_cases h8 : 8 * s.size < p + 7 + 1
    · clear OB g8
      generalize Pm.highV s.data.toList p 7 = v7 at *
      go_wp2_with fail
      refine (take_no w1 b s (p + 7) n1 1 hr1 (by omega) (by omega) hs h8).mono ?_
      rintro e w2 ⟨rfl, ⟨n2, hn2, hr2⟩, ho2⟩
      by_cases c2 : 2 * v7 ≤ 191
      · go_wp2
        go_ret2
        exact ⟨⟨_, rfl⟩, ⟨_, n2, hn2, hr2⟩, ho1.trans ho2⟩
      · by_cases c3 : 2 * v7 ≤ 199
        · go_wp2
          go_ret2
          exact ⟨⟨_, rfl⟩, ⟨_, n2, hn2, hr2⟩, ho1.trans ho2⟩
        · go_wp2_with fail
          refine (take_no w2 b s (p + 7) n2 1 hr2 hn2 (by omega) hs h8).mono ?_
          rintro e w3 ⟨rfl, ⟨n3, hn3, hr3⟩, ho3⟩
          go_wp2
          go_ret2
          exact ⟨⟨_, rfl⟩, ⟨_, n3, hn3, hr3⟩, (ho1.trans ho2).trans ho3⟩
    · obtain ⟨c3, h9⟩ := H9.out (by omega)
      clear H9 OB0
      go_wp2_with fail
      refine (take_ok w1 b s (p + 7) n1 1 hr1 hn1 (by omega) hs (by omega)).mono ?_
      rintro e w2 ⟨rfl, ⟨n2, hn2, hr2⟩, ho2⟩
      generalize Pm.highV s.data.toList p 7 = v7 at *
      generalize Pm.lowV s.data.toList (p + 7) 1 = x7 at *
      go_wp2_with fail
      refine (take_no w2 b s (p + 7 + 1) n2 1 hr2 (by omega) (by omega) hs (by omega)).mono ?_
      rintro e w3 ⟨rfl, ⟨n3, hn3, hr3⟩, ho3⟩
      go_wp2
      go_ret2
      exact ⟨⟨_, rfl⟩, ⟨_, n3, hn3, hr3⟩, (ho1.trans ho2).trans ho3⟩
end Go.Proofs.Ytbklfkpjoinofaa
