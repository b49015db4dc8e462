import Derived.Test.YtbklfkpjoinofaaWr5
set_option linter.unusedVariables false
set_option linter.unusedSimpArgs false
namespace Go.Proofs.Ytbklfkpjoinofaa
open Go.RowKit

/-- The packer's window and what it has seen, at block P. -/
structure PW (w : World) (P base : Nat) (vw vs : Value) (W : List UInt8) (Sn : List Int) (at_ gone : Nat) : Prop where
  c6 : w.cell? ⟨P, 6, none⟩ = some vw
  c7 : w.cell? ⟨P, 7, none⟩ = some (.int .i64 at_)
  c8 : w.cell? ⟨P, 8, none⟩ = some (.int .i64 gone)
  c9 : w.cell? ⟨P, 9, none⟩ = some vs
  f7 : w.frozen? ⟨P, 7, none⟩ = false
  ow : w.ownsRow base 5 1 vw W.length (cells W)
  os : w.ownsRow base 3 1 vs 4096 (Sn.map (Value.int .i64))
  nw : vw.ownBlock ≠ some P
  ns : vs.ownBlock ≠ some P
  hP : P < w.heap.size

theorem PW.drewN {w : World} {P base : Nat} {vw vs : Value} {W : List UInt8} {Sn : List Int} {at_ gone : Nat} (h : PW w P base vw vs W Sn at_ gone) (q : Nat) : PW (w.drewN q) P base vw vs W Sn at_ gone := ⟨h.c6, h.c7, h.c8, h.c9, h.f7, h.ow, h.os, h.nw, h.ns, h.hP⟩

/-- A byte of the window, where it lies. -/
theorem row_at {w : World} {base : Nat} {v : Value} {l : List UInt8} (h : w.ownsRow base 5 1 v l.length (cells l)) (hn : 0 < l.length) :
    ∃ g cap, v = .slice (some ⟨g, 0, none⟩) l.length cap ∧ l.length ≤ cap ∧ base ≤ g ∧ (∀ i, i < l.length → w.cell? ⟨g, i, none⟩ = some (.int .u8 ((l.getD i 0).toNat : Nat))) := by
  rcases h.2 with ⟨_, h0⟩ | ⟨g, cap, cur, rfl, hb, hg, hle, _⟩
  · omega
  · refine ⟨g, cap, rfl, hle, hb, fun i hi => ?_⟩
    have hx : (cells l)[i]? = some (.int .u8 ((l.getD i 0).toNat : Nat)) := by
      simp [cells, List.getElem?_eq_getElem hi]
    have := h.cells (g := g) rfl i _ hx
    have hadd : (⟨g, 0, none⟩ : Addr).add i = ⟨g, i, none⟩ := by unfold Addr.add; split <;> simp_all
    rwa [hadd] at this

/-- The key of four bytes. -/
def keyI (b0 b1 b2 b3 : UInt8) : Int := bits BinOp.or IntKind.u32 (bits BinOp.or IntKind.u32 (bits BinOp.or IntKind.u32 (b0.toNat : Int) ((b1.toNat : Int) * 256)) ((b2.toNat : Int) * 65536)) ((b3.toNat : Int) * 16777216) * 2654435761 % 4294967296 / 1048576
def keyN (W : List UInt8) (i : Nat) : Nat := (keyI (W.getD i 0) (W.getD (i + 1) 0) (W.getD (i + 2) 0) (W.getD (i + 3) 0)).toNat
theorem keyI_b (b0 b1 b2 b3 : UInt8) : 0 ≤ keyI b0 b1 b2 b3 ∧ keyI b0 b1 b2 b3 < 4096 := by unfold keyI; omega
theorem keyN_lt (W : List UInt8) (i : Nat) : keyN W i < 4096 := by
  have := keyI_b (W.getD i 0) (W.getD (i + 1) 0) (W.getD (i + 2) 0) (W.getD (i + 3) 0)
  unfold keyN; omega

set_option maxRecDepth 100000 in
set_option maxHeartbeats 1000000 in
theorem key_any (w : World) (P base : Nat) (vw vs : Value) (W : List UInt8) (Sn : List Int) (at_ gone i : Nat) (h : PW w P base vw vs W Sn at_ gone) (hi : i + 4 ≤ W.length) (hW : W.length ≤ 10000000) :
    Calls Try.prog 56 #[.pointer (some ⟨P, 0, none⟩), .int .i64 i] w fun e w' => e = .returned (.int .i64 (keyN W i : Nat)) ∧ ∃ q, w' = w.drewN q := by
  have c6 := h.c6
  unfold keyN
  obtain ⟨g, cap, hv, hle, hb, hcell⟩ := row_at h.ow (by omega)
  have hcm : cap ≤ 9223372036854775807 := by
    rcases h.ow.2 with ⟨_, h0⟩ | ⟨g', cap', cur, hv', _, _, _, hcm, _⟩
    · omega
    · rw [hv] at hv'; cases hv'; exact hcm
  subst hv
  have k0 := hcell i (by omega)
  have k1 := hcell (i + 1) (by omega)
  have k2 := hcell (i + 2) (by omega)
  have k3 := hcell (i + 3) (by omega)
  clear hcell
  generalize W.getD i 0 = b0 at *
  generalize W.getD (i + 1) 0 = b1 at *
  generalize W.getD (i + 2) 0 = b2 at *
  generalize W.getD (i + 3) 0 = b3 at *
  have h4 : i + 4 - i = 4 := by omega
  have hx0 := b0.toNat_lt
  have hx1 := b1.toNat_lt
  have hx2 := b2.toNat_lt
  have hx3 := b3.toNat_lt
  go_enter Try.func56, Try.ntmps56
  go_wp2
  go_quiet (fail)
  go_wp2
  go_ret
  refine ⟨ret_int ?_, _, rfl⟩
  have := keyI_b b0 b1 b2 b3
  rw [Int.toNat_of_nonneg this.1]
  rfl
end Go.Proofs.Ytbklfkpjoinofaa
