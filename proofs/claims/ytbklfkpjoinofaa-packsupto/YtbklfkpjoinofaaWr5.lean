import Derived.Test.YtbklfkpjoinofaaWr4
set_option linter.unusedVariables false
set_option linter.unusedSimpArgs false
namespace Go.Proofs.Ytbklfkpjoinofaa
open Go.RowKit

/-- What a put says of the stream: v's k bits stand behind what there was. -/
def Put (w : World) (P base : Nat) (vf : Value) (F : List UInt8) (H n : Nat) (v k : Nat) (w' : World) : Prop :=
  ∃ vf' F' H' n', BW w' P base vf' F' H' n' ∧ n' < 8 ∧ strm F' H' = strm F H + v * 2 ^ (8 * F.length + n) ∧ 8 * F'.length + n' = 8 * F.length + n + k ∧ PutFr P vf w vf' w'

set_option maxRecDepth 100000 in
set_option maxHeartbeats 1000000 in
theorem putHigh_any (w : World) (P base : Nat) (vf : Value) (F : List UInt8) (H n v k : Nat) (h : BW w P base vf F H n) (hP : P < w.heap.size) (hn : n < 8) (hk : k < 10) (hv : v < 2 ^ k) (hF : F.length ≤ 50000000) :
    Calls Try.prog 51 #[.pointer (some ⟨P, 1, none⟩), .int .i64 v, .int .i64 k] w fun e w' => e = .returned (.tuple #[]) ∧ Put w P base vf F H n (Pm.revV k v) k w' := by
  have hv5 : v < 512 := Nat.lt_of_lt_of_le hv (Nat.le_trans (Nat.pow_le_pow_right (by decide) (show k ≤ 9 by omega)) (by decide))
  have hr := (Pm.rev_rev k hk v hv5 hv).2
  go_enter Try.func51, Try.ntmps51
  go_wp2_with fail
  refine (highFirst_any w v k hk hv).mono ?_
  rintro e w1 ⟨rfl, z, rfl⟩
  go_wp2_with fail
  refine (put_any (w.drewN z) P base vf F H n _ k (h.drewN z) hP hn hr (by omega) hF).mono ?_
  rintro e w2 ⟨rfl, vf', F', H', n', b1, b2, b3, b4, b5⟩
  go_wp2
  go_end0
  exact ⟨rfl, vf', F', H', n', b1, b2, b3, b4, ((PutFr.refl P vf w).drewN z).trans b5⟩

set_option maxRecDepth 100000 in
set_option maxHeartbeats 1000000 in
theorem putSymbol_any (w : World) (P base : Nat) (vf : Value) (F : List UInt8) (H n c : Nat) (h : BW w P base vf F H n) (hP : P < w.heap.size) (hn : n < 8) (hc : c < 288) (hF : F.length ≤ 50000000) :
    Calls Try.prog 43 #[.pointer (some ⟨P, 0, none⟩), .int .i64 c] w fun e w' => e = .returned (.tuple #[]) ∧ Put w P base vf F H n (Pm.sb c) (Pm.symOut c).2 w' := by
  have hs := Pm.symOut_lt c hc
  unfold Pm.sb
  go_enter Try.func43, Try.ntmps43
  go_wp2_with fail
  refine (symbolBits_any w c hc).mono ?_
  rintro e w1 ⟨rfl, rfl⟩
  go_wp2_with fail
  refine (putHigh_any _ P base vf F H n _ _ h hP hn (by omega) hs.1 hF).mono ?_
  rintro e w2 ⟨rfl, hp⟩
  go_wp2
  go_end0
  exact ⟨rfl, hp⟩

set_option maxRecDepth 100000 in
set_option maxHeartbeats 1000000 in
theorem fill_any (w : World) (P base : Nat) (vf : Value) (F : List UInt8) (H n : Nat) (h : BW w P base vf F H n) (hP : P < w.heap.size) (hn : n < 8) (hF : F.length ≤ 50000000) :
    Calls Try.prog 44 #[.pointer (some ⟨P, 1, none⟩)] w fun e w' => e = .returned (.tuple #[]) ∧ Put w P base vf F H n 0 ((8 - n) % 8) w' := by
  have c3 := h.c3
  by_cases h0 : n = 0
  · subst h0
    go_enter Try.func44, Try.ntmps44
    go_wp2
    go_end0
    exact ⟨rfl, vf, F, H, 0, h, by omega, by simp, by omega, PutFr.refl P vf w⟩
  · have e8 : (8 - n) % 8 = 8 - n := by omega
    rw [e8]
    obtain ⟨k, hk⟩ : ∃ k, k = 8 - n := ⟨_, rfl⟩
    have HP := hide (fun wx (hx : BW wx P base vf F H n) (hp : P < wx.heap.size) => put_any wx P base vf F H n 0 k hx hp hn (Nat.two_pow_pos k) (by omega) hF)
    have e9 : (8 : Int) - (n : Int) = (k : Int) := by omega
    rw [← hk]
    clear hk e8
    go_enter Try.func44, Try.ntmps44
    go_wp2_with fail
    refine (HP.out _ h hP).mono ?_
    rintro e w2 ⟨rfl, hp⟩
    go_wp2
    go_end0
    exact ⟨rfl, hp⟩
end Go.Proofs.Ytbklfkpjoinofaa
