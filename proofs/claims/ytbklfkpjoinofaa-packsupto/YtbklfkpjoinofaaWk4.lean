import Derived.Test.YtbklfkpjoinofaaWk3
import Derived.Test.YtbklfkpjoinofaaQTail
set_option linter.unusedVariables false
set_option linter.unusedSimpArgs false
namespace Go.Proofs.Ytbklfkpjoinofaa
open Go.RowKit

theorem quiet_add {Pr : Program} {f : FuncId} {args : Array Value} {w : World} {v : Value} (h : ∀ q : Nat, Calls Pr f args (w.drewN q) fun e w' => e = .returned v ∧ ∃ z, w' = (w.drewN q).drewN z) (n x : Nat) :
    Calls Pr f args (w.drewN (n + x)) fun e w'' => e = .returned v ∧ ∃ q, w'' = w.drewN (n + q) :=
  (h (n + x)).mono fun _ _ ⟨he, m, hm⟩ => ⟨he, x + m, by rw [hm, World.drewN_drewN, Nat.add_assoc]⟩

theorem PW.seenAt {w : World} {P base gs cap : Nat} {vw : Value} {W : List UInt8} {Sn : List Int} {at_ gone : Nat} (h : PW w P base vw (.slice (some ⟨gs, 0, none⟩) 4096 cap) W Sn at_ gone) (K : Nat) (hK : K < 4096) : w.cell? ⟨gs, K, none⟩ = some (.int .i64 (Sn.getD K 0)) := by
  obtain ⟨g, c, hv, _, hc⟩ := ints_at h.os (by omega)
  cases hv; exact hc K hK

/-- What is kept in mind behind n bytes more. -/
def passV (κ : Nat → Nat) (W : List UInt8) (at_ gone : Nat) (Sn : List Int) : Nat → List Int
  | 0 => Sn
  | n + 1 => if at_ + n + 4 ≤ W.length then (passV κ W at_ gone Sn n).set (κ (at_ + n)) ((gone + (at_ + n) + 1 : Nat) : Int) else passV κ W at_ gone Sn n

/-- Where the bytes were that were passed last. -/
def Last (κ : Nat → Nat) (W : List UInt8) (Sn : List Int) (at_ n gone : Nat) : Prop := 1 ≤ n → at_ + n + 3 ≤ W.length → Sn.getD (κ (at_ + n - 1)) 0 = ((gone + (at_ + n) : Nat) : Int)

set_option maxRecDepth 100000 in
set_option maxHeartbeats 2000000 in
theorem pass_core (w : World) (P base g cap gs caps : Nat) (W : List UInt8) (Sn : List Int) (at_ gone n : Nat) (h : PW w P base (.slice (some ⟨g, 0, none⟩) W.length cap) (.slice (some ⟨gs, 0, none⟩) 4096 caps) W Sn at_ gone) (hne : g ≠ gs) (ha : at_ + n ≤ W.length) (hW : W.length ≤ 10000000) (hg : gone ≤ 10000000) (hcap : W.length ≤ cap)
    (hS : Seen Sn (gone + at_))
    (κ : Nat → Nat) (HKey : Hid (∀ (wx : World) (Sx : List Int) (i : Nat), PW wx P base (.slice (some ⟨g, 0, none⟩) W.length cap) (.slice (some ⟨gs, 0, none⟩) 4096 caps) W Sx i gone → i + 4 ≤ W.length → κ i < 4096 ∧ Hid (∀ q : Nat, Calls Try.prog 56 #[.pointer (some ⟨P, 0, none⟩), .int .i64 i] (wx.drewN q) fun e w' => e = .returned (.int .i64 (κ i)) ∧ ∃ z, w' = (wx.drewN q).drewN z))) :
    Calls Try.prog 48 #[.pointer (some ⟨P, 0, none⟩), .int .i64 n] w fun e w' => e = .returned (.tuple #[]) ∧ ∃ Sn', PW w' P base (.slice (some ⟨g, 0, none⟩) W.length cap) (.slice (some ⟨gs, 0, none⟩) 4096 caps) W Sn' (at_ + n) gone ∧ Seen Sn' (gone + (at_ + n)) ∧ PassFr P (.slice (some ⟨gs, 0, none⟩) 4096 caps) w w' ∧ Last κ W Sn' at_ n gone ∧ Sn' = passV κ W at_ gone Sn n := by
  have hgP : gs ≠ P := fun e => h.ns (by simp [Value.ownBlock, e])
  go_enter Try.func48, Try.ntmps48
  go_wp2
  go_loopg [1] (n + 1) (fun gk' c wr => ∃ k : Nat, ∃ Sk, k ≤ n ∧ n - k < gk' ∧ c = .int .i64 ((n - k : Nat) : Int) ∧ PW wr P base (.slice (some ⟨g, 0, none⟩) W.length cap) (.slice (some ⟨gs, 0, none⟩) 4096 caps) W Sk (at_ + k) gone ∧ Hid (Seen Sk (gone + (at_ + k))) ∧ PassFr P (.slice (some ⟨gs, 0, none⟩) 4096 caps) w wr ∧ Hid (Last κ W Sk at_ k gone) ∧ Hid (Sk = passV κ W at_ gone Sn k))
  case atStart => exact ⟨0, Sn, by omega, by omega, rfl, h, hS, PassFr.refl _ _ _, fun h1 _ => absurd h1 (by omega), rfl⟩
  case round =>
    clear h hS
    obtain ⟨k, Sk, hk1, hk2, rfl, hPk, HSk, hFk, HLk, HVk⟩ := hrel
    obtain ⟨m, hm⟩ : ∃ m, m = n - k := ⟨_, rfl⟩
    rw [← hm]
    by_cases hz : m = 0
    · subst hz
      go_wp2
      go_end0
      obtain rfl : k = n := by omega
      exact ⟨rfl, Sk, hPk, HSk.out, hFk, HLk.out, HVk.out⟩
    · obtain ⟨A, hA⟩ : ∃ A, A = at_ + k := ⟨_, rfl⟩
      rw [← hA] at hPk HSk
      have hAW : A < W.length := by omega
      have HA := hide hA
      clear hA
      have c6 := hPk.c6
      have c7 := hPk.c7
      have c8 := hPk.c8
      have c9 := hPk.c9
      have f7 := hPk.f7
      have hm1 : 1 ≤ m := by omega
      have hm2 : m ≤ 10000000 := by omega
      by_cases h4 : A + 4 ≤ W.length
      · obtain ⟨K, HKe, hK, HK⟩ : ∃ K : Nat, Hid (K = κ A) ∧ K < 4096 ∧ Hid (∀ q : Nat, Calls Try.prog 56 #[.pointer (some ⟨P, 0, none⟩), .int .i64 A] (wr.drewN q) fun e w' => e = .returned (.int .i64 K) ∧ ∃ z, w' = (wr.drewN q).drewN z) := ⟨κ A, rfl, HKey.out wr Sk A hPk h4⟩
        have ks := hPk.seenAt K hK
        have kf := hPk.os.frozenAt K
        go_wp2
        go_quiet (fail)
        go_wp2
        refine wp_quiet_tail 21 (by kernel_rfl) (by kernel_rfl) ?_
        simp only [List.take_succ_cons, List.take_zero, List.drop_succ_cons, List.drop_zero]
        repeat (go_big_quiet_step ((go_at_call 56; exact quiet_add HK.out _ _)))
        refine wpQuiet_nil ?_
        intro _ hw'
        obtain ⟨nq2, hw''⟩ := hw'
        subst hw''
        go_wp2
        go_roundg (gk - 1)
        case measure => omega
        case rel =>
          have hA := HA.out
          refine ⟨k + 1, Sk.set K ((gone + A + 1 : Nat) : Int), by omega, by omega, by go_num, ?_, ?_, ?_, ?_, ?_⟩
          · exact (((hPk.drewN _).seen (by simp [Value.ownBlock]; exact hne) K ((gone + A + 1 : Nat) : Int) (by go_num)).go _ (by go_num))
          · have := HSk.out.set K
            rw [show gone + (at_ + (k + 1)) = gone + A + 1 by omega]; exact this
          · exact ((hFk.drewN _).seen hgP _ _).at _
          · intro _ _
            rw [show at_ + (k + 1) - 1 = A by omega, ← HKe.out, show gone + (at_ + (k + 1)) = gone + A + 1 by omega]
            have hlen : K < Sk.length := by have := hPk.os.1; simp at this; omega
            simp [List.getD_eq_getElem?_getD, List.getElem?_set, hlen]
          · show _ = _
            rw [passV, if_pos (by omega), ← HVk.out, ← hA, ← HKe.out]
      · go_wp2
        go_quiet (fail)
        go_wp2
        go_roundg (gk - 1)
        case measure => omega
        case rel =>
          have hA := HA.out
          refine ⟨k + 1, Sk, by omega, by omega, by go_num, ?_, ?_, ?_, fun _ h2 => absurd h2 (by omega), by show _ = _; rw [passV, if_neg (by omega)]; exact HVk.out⟩
          · exact (hPk.drewN _).go _ (by go_num)
          · exact HSk.out.le (by omega)
          · exact (hFk.drewN _).at _
end Go.Proofs.Ytbklfkpjoinofaa
