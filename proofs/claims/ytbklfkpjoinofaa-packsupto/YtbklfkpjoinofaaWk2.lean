import Derived.Test.YtbklfkpjoinofaaWk1
import Derived.BigQuiet
set_option linter.unusedVariables false
set_option linter.unusedSimpArgs false
namespace Go.Proofs.Ytbklfkpjoinofaa
open Go.RowKit

theorem ints_at {w : World} {base : Nat} {v : Value} {n : Nat} {Sn : List Int} (h : w.ownsRow base 3 1 v n (Sn.map (Value.int .i64))) (hn : 0 < n) :
    ∃ g cap, v = .slice (some ⟨g, 0, none⟩) n cap ∧ base ≤ g ∧ (∀ i, i < n → w.cell? ⟨g, i, none⟩ = some (.int .i64 (Sn.getD i 0))) := by
  have hl : Sn.length = n := by have := h.1; simpa using this
  rcases h.2 with ⟨_, h0⟩ | ⟨g, cap, cur, rfl, hb, _⟩
  · omega
  · refine ⟨g, cap, rfl, hb, fun i hi => ?_⟩
    have hx : (Sn.map (Value.int .i64))[i]? = some (.int .i64 (Sn.getD i 0)) := by
      simp [List.getElem?_eq_getElem (show i < Sn.length by omega)]
    have := h.cells (g := g) rfl i _ hx
    have hadd : (⟨g, 0, none⟩ : Addr).add i = ⟨g, i, none⟩ := by unfold Addr.add; split <;> simp_all
    rwa [hadd] at this

theorem quiet_one {P : Program} {f : FuncId} {args : Array Value} {w : World} {x : Nat} {v : Value} (h : Calls P f args (w.drewN (1 + x)) fun e w' => e = .returned v ∧ ∃ q, w' = (w.drewN (1 + x)).drewN q) :
    Calls P f args (w.drewN (1 + x)) fun e w'' => e = .returned v ∧ ∃ n, w'' = w.drewN (1 + n) :=
  h.mono fun _ _ ⟨he, m, hm⟩ => ⟨he, x + m, by rw [hm, World.drewN_drewN, Nat.add_assoc]⟩

/-- What find may answer: nothing, or bytes that come again. -/
def Found (W : List UInt8) (at_ L D : Nat) : Prop :=
  (L = 0 ∧ D = 0) ∨ (4 ≤ L ∧ L ≤ 258 ∧ at_ + L ≤ W.length ∧ 1 ≤ D ∧ D ≤ 32768 ∧ D ≤ at_ ∧ ∀ j, j < L → W.getD (at_ + j - D) 0 = W.getD (at_ + j) 0)

/-- How many of the M bytes from i on are those d before. -/
def mlen (W : List UInt8) (i d : Nat) : Nat → Nat
  | 0 => 0
  | M + 1 => if W.getD (i - d) 0 = W.getD i 0 then mlen W (i + 1) d M + 1 else 0

theorem mlen_eq (W : List UInt8) (d k : Nat) : ∀ (i M : Nat), k ≤ M → (∀ j, j < k → W.getD (i + j - d) 0 = W.getD (i + j) 0) → (k = M ∨ ¬ W.getD (i + k - d) 0 = W.getD (i + k) 0) → mlen W i d M = k := by
  induction k with
  | zero =>
    intro i M _ _ h
    cases M with
    | zero => rfl
    | succ M =>
      rcases h with h | h
      · cases h
      · rw [mlen, if_neg (by simpa using h)]
  | succ k ih =>
    intro i M hM hall h
    obtain ⟨M, rfl⟩ : ∃ m, M = m + 1 := ⟨M - 1, by omega⟩
    rw [mlen, if_pos (by simpa using hall 0 (by omega)), ih (i + 1) M (by omega)]
    · intro j hj
      have := hall (j + 1) (by omega)
      rw [show i + 1 + j = i + (j + 1) by omega]; exact this
    · rcases h with h | h
      · left; omega
      · right; rw [show i + 1 + k = i + (k + 1) by omega]; exact h

/-- What find answers. -/
def findX (W : List UInt8) (at_ gone M : Nat) (Z : Int) : Nat × Nat :=
  if Z - 1 < 0 then (0, 0) else if 32768 < (gone : Int) + (at_ : Int) - (Z - 1) then (0, 0)
  else if mlen W at_ ((gone : Int) + (at_ : Int) - (Z - 1)).toNat M < 4 then (0, 0) else (mlen W at_ ((gone : Int) + (at_ : Int) - (Z - 1)).toNat M, ((gone : Int) + (at_ : Int) - (Z - 1)).toNat)
def findV (W : List UInt8) (Sn : List Int) (at_ gone : Nat) : Nat × Nat := if min 258 (W.length - at_) < 4 then (0, 0) else findX W at_ gone (min 258 (W.length - at_)) (Sn.getD (keyN W at_) 0)

theorem findX_at {W : List UInt8} {at_ gone M : Nat} {Z : Int} {D k : Nat} (h1 : 0 ≤ Z - 1) (h2 : (gone : Int) + (at_ : Int) - (Z - 1) = (D : Int)) (h3 : D ≤ 32768) (hm : mlen W at_ D M = k) : findX W at_ gone M Z = if k < 4 then (0, 0) else (k, D) := by
  unfold findX
  rw [if_neg (by omega), if_neg (by omega), h2, Int.toNat_natCast, hm]

/-- If the place that was seen last serves for all the M bytes, all of them are taken. -/
def Full (W : List UInt8) (at_ gone M L : Nat) (Z : Int) : Prop :=
  ∀ d : Nat, (gone : Int) + (at_ : Int) - (Z - 1) = (d : Int) → 1 ≤ Z → d ≤ 32768 → (∀ j, j < M → W.getD (at_ + j - d) 0 = W.getD (at_ + j) 0) → L = M

set_option maxRecDepth 100000 in
set_option maxHeartbeats 2000000 in
theorem find_core (w : World) (P g cap gs caps : Nat) (W : List UInt8) (at_ gone M K N4 : Nat) (Z : Int) (ha : at_ < W.length) (hW : W.length ≤ 10000000) (hg : gone ≤ 10000000) (hgo : gone = 0 ∨ 32768 ≤ at_)
    (c6 : w.cell? ⟨P, 6, none⟩ = some (.slice (some ⟨g, 0, none⟩) W.length cap))
    (c7 : w.cell? ⟨P, 7, none⟩ = some (.int .i64 at_))
    (c8 : w.cell? ⟨P, 8, none⟩ = some (.int .i64 gone))
    (c9 : w.cell? ⟨P, 9, none⟩ = some (.slice (some ⟨gs, 0, none⟩) N4 caps))
    (hcell : ∀ i, i < W.length → w.cell? ⟨g, i, none⟩ = some (.int .u8 ((W.getD i 0).toNat : Nat)))
    (ks : w.cell? ⟨gs, K, none⟩ = some (.int .i64 Z)) (hK : K < N4) (hN1 : N4 ≤ 10000) (hZ1 : 0 ≤ Z) (hZ2 : Z ≤ (gone : Int) + (at_ : Int))
    (hM1 : M ≤ 258) (hM2 : at_ + M ≤ W.length) (hM4 : 4 ≤ M)
    (hcase : (258 ≤ W.length - at_ ∧ 258 ≤ M) ∨ (W.length - at_ < 258 ∧ W.length ≤ at_ + M))
    (hz : Z - 1 < 0 ∨ (0 ≤ Z - 1 ∧ 32768 < (gone : Int) + (at_ : Int) - (Z - 1)) ∨ (0 ≤ Z - 1 ∧ (gone : Int) + (at_ : Int) - (Z - 1) ≤ 32768 ∧ (gone : Int) + (at_ : Int) - (Z - 1) ≤ (at_ : Int)))
    (HKey : Hid (∀ q : Nat, Calls Try.prog 56 #[.pointer (some ⟨P, 0, none⟩), .int .i64 at_] (w.drewN q) fun e w' => e = .returned (.int .i64 K) ∧ ∃ z, w' = (w.drewN q).drewN z)) :
    Calls Try.prog 47 #[.pointer (some ⟨P, 0, none⟩)] w fun e w' => ∃ L D : Nat, e = .returned (.tuple #[.int .i64 L, .int .i64 D]) ∧ Found W at_ L D ∧ Full W at_ gone M L Z ∧ (L, D) = findX W at_ gone M Z ∧ ∃ q, w' = w.drewN q := by
  rcases hcase with ⟨hA, hA2⟩ | ⟨hA, hA2⟩
  all_goals
    go_enter Try.func47, Try.ntmps47
    go_wp2
    go_region
    go_wp2
    go_quiet ((go_at_call 56; first | exact quiet_one (HKey.out _) | exact Calls.quiet_of (HKey.out _)))
    go_wp2
    go_quiet (fail)
    rcases hz with hz | hz | ⟨hz1, hz2, hz3⟩
    · go_wp2
      go_ret2
      exact ⟨0, 0, rfl, Or.inl ⟨rfl, rfl⟩, fun d _ _ _ _ => by omega, by unfold findX; rw [if_pos hz], _, rfl⟩
    · go_wp2
      go_ret2
      exact ⟨0, 0, rfl, Or.inl ⟨rfl, rfl⟩, fun d _ _ _ _ => by omega, by unfold findX; rw [if_neg (by omega), if_pos hz.2], _, rfl⟩
    · obtain ⟨D, hD⟩ : ∃ D : Nat, (gone : Int) + (at_ : Int) - (Z - 1) = (D : Int) := ⟨((gone : Int) + (at_ : Int) - (Z - 1)).toNat, by omega⟩
      have hD1 : 1 ≤ D ∧ D ≤ 32768 ∧ D ≤ at_ := by omega
      have HDe := hide hD
      go_wp2
      clear hD hz2 hz3
      go_loopg [7] 259 (fun g i wr => ∃ k : Nat, k ≤ M ∧ M - k < g ∧ i = .int .i64 k ∧ (∃ q, wr = w.drewN q) ∧ Hid (∀ j, j < k → W.getD (at_ + j - D) 0 = W.getD (at_ + j) 0))
      case atStart => exact ⟨0, by omega, by omega, rfl, ⟨_, rfl⟩, fun j hj => absurd hj (Nat.not_lt_zero j)⟩
      case round =>
        obtain ⟨k, hk1, hk2, rfl, ⟨q, rfl⟩, HJ⟩ := hrel
        have HStep := hide (fun (hx : W.getD (at_ + k - D) 0 = W.getD (at_ + k) 0) (j : Nat) (hj : j < k + 1) => if hjk : j < k then HJ.out j hjk else (show j = k by omega) ▸ hx)
        have HEnd : Hid (4 ≤ k → Found W at_ k D) := fun h4 => Or.inr ⟨h4, by omega, by omega, hD1.1, hD1.2.1, hD1.2.2, HJ.out⟩
        have HMl := hide (fun (hm : k = M ∨ ¬ W.getD (at_ + k - D) 0 = W.getD (at_ + k) 0) => findX_at (W := W) (M := M) hz1 HDe.out hD1.2.1 (mlen_eq W D k at_ M hk1 HJ.out hm))
        clear HJ
        by_cases hkM : k < M
        · obtain ⟨I, hI⟩ : ∃ I, I = at_ + k - D := ⟨_, rfl⟩
          have eI : (at_ : Int) + (k : Int) - (D : Int) = (I : Int) := by omega
          have kI := hcell I (by omega)
          have kJ := hcell (at_ + k) (by omega)
          have hIl : I < W.length := by omega
          have hi1 : (k : Int) < 258 := by omega
          have hi2 : (k : Int) < (W.length : Int) - (at_ : Int) := by omega
          have hd1 : decide ((k : Int) < 258) = true := decide_eq_true hi1
          have hd2 : decide ((k : Int) < (W.length : Int) - (at_ : Int)) = true := decide_eq_true hi2
          rw [← hI] at HStep
          have HI := hide hI
          clear hI hcell
          by_cases hq : (W.getD I 0).toNat = (W.getD (at_ + k) 0).toNat
          · clear HMl
            have HS2 := hide (HStep.out (UInt8.toNat_inj.mp hq))
            clear HStep HEnd
            rw [hq] at kI
            generalize (W.getD (at_ + k) 0).toNat = x at *
            clear hq
            go_wp2
            go_quiet (fail)
            go_wp2
            go_roundg (gk - 1)
            case measure => omega
            case rel => exact ⟨k + 1, by omega, by omega, by go_num, ⟨_, rfl⟩, HS2⟩
          · have HMk := hide (HMl.out (Or.inr (by rw [← HI.out]; exact fun h => hq (congrArg UInt8.toNat h))))
            clear HMl
            have HNo : Hid (∀ L, Full W at_ gone M L Z) := by
              intro L d hd1 _ _ hall
              have e1 : d = D := by have := HDe.out; omega
              have h1 := hall k hkM
              rw [e1, ← HI.out] at h1
              exact absurd (congrArg UInt8.toNat h1) hq
            clear HStep
            generalize (W.getD I 0).toNat = y at *
            generalize (W.getD (at_ + k) 0).toNat = x at *
            go_wp2
            go_quiet (fail)
            by_cases h4 : k < 4
            · go_wp2
              go_ret2
              exact ⟨0, 0, rfl, Or.inl ⟨rfl, rfl⟩, HNo.out 0, by rw [HMk.out, if_pos h4], _, rfl⟩
            · go_wp2
              go_ret2
              exact ⟨k, D, rfl, HEnd.out (by omega), HNo.out k, by rw [HMk.out, if_neg h4], _, rfl⟩
        · clear HStep hcell
          first
            | have hd : decide ((k : Int) < 258) = false := decide_eq_false (by omega)
            | have hd : decide ((k : Int) < (W.length : Int) - (at_ : Int)) = false := decide_eq_false (by omega)
          go_wp2
          go_quiet (fail)
          go_wp2
          go_ret2
          exact ⟨k, D, rfl, HEnd.out (by omega), fun _ _ _ _ _ => by omega, by rw [HMl.out (Or.inl (by omega)), if_neg (by omega)], _, rfl⟩

set_option maxRecDepth 100000 in
set_option maxHeartbeats 2000000 in
theorem find_few (w : World) (P g cap : Nat) (W : List UInt8) (at_ M : Nat) (ha : at_ < W.length) (hW : W.length ≤ 10000000)
    (c6 : w.cell? ⟨P, 6, none⟩ = some (.slice (some ⟨g, 0, none⟩) W.length cap))
    (c7 : w.cell? ⟨P, 7, none⟩ = some (.int .i64 at_))
    (eM : min (258 : Int) ((W.length : Int) - (at_ : Int)) = (M : Int)) (h4 : M < 4) :
    Calls Try.prog 47 #[.pointer (some ⟨P, 0, none⟩)] w fun e w' => ∃ L D : Nat, e = .returned (.tuple #[.int .i64 L, .int .i64 D]) ∧ Found W at_ L D ∧ (L = 0 ∧ D = 0) ∧ ∃ q, w' = w.drewN q := by
  go_enter Try.func47, Try.ntmps47
  go_wp2
  go_region
  go_wp2
  go_ret2
  exact ⟨0, 0, rfl, Or.inl ⟨rfl, rfl⟩, ⟨rfl, rfl⟩, 1, rfl⟩

theorem find_any (w : World) (P base : Nat) (vw vs : Value) (W : List UInt8) (Sn : List Int) (at_ gone : Nat) (h : PW w P base vw vs W Sn at_ gone) (ha : at_ < W.length) (hW : W.length ≤ 10000000) (hg : gone ≤ 10000000) (hgo : gone = 0 ∨ 32768 ≤ at_)
    (hS : ∀ j, j < 4096 → 0 ≤ Sn.getD j 0 ∧ Sn.getD j 0 ≤ (gone + at_ : Nat)) :
    Calls Try.prog 47 #[.pointer (some ⟨P, 0, none⟩)] w fun e w' => ∃ L D : Nat, e = .returned (.tuple #[.int .i64 L, .int .i64 D]) ∧ Found W at_ L D ∧ (4 ≤ min 258 (W.length - at_) → Full W at_ gone (min 258 (W.length - at_)) L (Sn.getD (keyN W at_) 0)) ∧ (L, D) = findV W Sn at_ gone ∧ ∃ q, w' = w.drewN q := by
  obtain ⟨g, cap, hv, hle, hb, hcell⟩ := row_at h.ow (by omega)
  obtain ⟨gs, caps, hvs, hbs, hcs⟩ := ints_at h.os (by omega)
  by_cases h4 : min 258 (W.length - at_) < 4
  · refine (find_few w P g cap W at_ (min 258 (W.length - at_)) ha hW (hv ▸ h.c6) h.c7 (by omega) h4).mono ?_
    rintro e w' ⟨L, D, he, hf, ⟨h0, h00⟩, hq⟩
    exact ⟨L, D, he, hf, fun h => by omega, by unfold findV; rw [if_pos h4, h0, h00], hq⟩
  · have hK := keyN_lt W at_
    have hsn := hS (keyN W at_) hK
    refine (find_core w P g cap gs caps W at_ gone (min 258 (W.length - at_)) (keyN W at_) 4096 (Sn.getD (keyN W at_) 0) ha hW hg hgo (hv ▸ h.c6) h.c7 h.c8 (hvs ▸ h.c9) hcell (hcs _ hK) hK (by omega) hsn.1 (by have := hsn.2; omega) (by omega) (by omega) (by omega) (by omega) (by have := hsn.2; omega)
      (fun q => key_any (w.drewN q) P base vw vs W Sn at_ gone at_ (h.drewN q) (by omega) hW)).mono ?_
    rintro e w' ⟨L, D, he, hf, hfu, hx, hq⟩
    exact ⟨L, D, he, hf, fun _ => hfu, by unfold findV; rw [if_neg h4]; exact hx, hq⟩
end Go.Proofs.Ytbklfkpjoinofaa
