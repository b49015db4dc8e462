import Derived.Test.YtbklfkpjoinofaaWr1
import Derived.Deep.LoopGhost
set_option linter.unusedVariables false
set_option linter.unusedSimpArgs false
namespace Go.Proofs.Ytbklfkpjoinofaa
open Go.RowKit

theorem BW.drewN {w : World} {P base : Nat} {vf : Value} {F : List UInt8} {H n : Nat} (h : BW w P base vf F H n) (q : Nat) : BW (w.drewN q) P base vf F H n := ⟨h.c1, h.c2, h.c3, h.f1, h.f2, h.f3, h.own, h.ne, h.hb, h.hH⟩
theorem BW.drew {w : World} {P base : Nat} {vf : Value} {F : List UInt8} {H n : Nat} (h : BW w P base vf F H n) : BW w.drew P base vf F H n := ⟨h.c1, h.c2, h.c3, h.f1, h.f2, h.f3, h.own, h.ne, h.hb, h.hH⟩

theorem own_set {w : World} {P base : Nat} {v : Value} {n : Nat} {e : TypeId} {xs : List Value} (h : w.ownsRow base e 1 v n xs) (ne : v.ownBlock ≠ some P) (o : Nat) (x : Value) : (w.setCell ⟨P, o, none⟩ x).ownsRow base e 1 v n xs :=
  h.kept (Only.setCell (Only.refl P w) o x) (Or.inr ne)

/-- The number and the count, stored anew. -/
theorem BW.bits {w : World} {P base : Nat} {vf : Value} {F : List UInt8} {H n : Nat} (h : BW w P base vf F H n) (H' n' : Nat) {z y : Value} (hH : H' < 2 ^ n') (hz : z = .int .u32 H') (hy : y = .int .i64 n') :
    BW ((w.setCell ⟨P, 2, none⟩ z).setCell ⟨P, 3, none⟩ y) P base vf F H' n' := by
  subst hz hy
  refine ⟨?_, ?_, ?_, ?_, ?_, ?_, own_set (own_set h.own h.ne _ _) h.ne _ _, h.ne, by have := h.hb; simpa [World.setCell] using this, hH⟩
  · rw [World.cell?_setCell_other _ _ _ _ (by simp), World.cell?_setCell_other _ _ _ _ (by simp)]; exact h.c1
  · rw [World.cell?_setCell_other _ _ _ _ (by simp)]; exact World.cell?_setCell_same _ _ _ h.c2
  · exact World.cell?_setCell_same (u := .int .i64 n) _ _ _ (by rw [World.cell?_setCell_other _ _ _ _ (by simp)]; exact h.c3)
  · rw [World.frozen?_setCell, World.frozen?_setCell]; exact h.f1
  · rw [World.frozen?_setCell, World.frozen?_setCell]; exact h.f2
  · rw [World.frozen?_setCell, World.frozen?_setCell]; exact h.f3

/-- One byte more among the whole ones. -/
theorem BW.byte {w w' : World} {P base : Nat} {vf v' : Value} {F F' : List UInt8} {H n : Nat} (h : BW w P base vf F H n) (hP : P < w.heap.size) (hk : w.grownBy w' vf.ownBlock) (ho : w'.ownsRow base 5 1 v' F'.length (cells F')) (hat : v'.ownBlock = vf.ownBlock ∨ ∃ g, v'.ownBlock = some g ∧ w.heap.size ≤ g) :
    BW (w'.setCell ⟨P, 1, none⟩ v') P base v' F' H n ∧ PutFr P vf w v' (w'.setCell ⟨P, 1, none⟩ v') := by
  have hblk : w'.heap[P]? = w.heap[P]? := hk.block P hP (fun e => h.ne e.symm)
  have hcell : ∀ o, w'.cell? ⟨P, o, none⟩ = w.cell? ⟨P, o, none⟩ := fun o => World.cell?_of_block (a := ⟨P, o, none⟩) hblk
  have hfrz : ∀ o, w'.frozen? ⟨P, o, none⟩ = w.frozen? ⟨P, o, none⟩ := fun o => World.frozen?_of_block (a := ⟨P, o, none⟩) hblk
  have hne : v'.ownBlock ≠ some P := by
    rcases hat with e | ⟨g, e, hg⟩
    · rw [e]; exact h.ne
    · rw [e]; intro hh; cases hh; omega
  constructor
  · refine ⟨World.cell?_setCell_same _ _ _ ((hcell 1).trans h.c1), ?_, ?_, ?_, ?_, ?_, own_set ho hne _ _, hne, ?_, h.hH⟩
    · rw [World.cell?_setCell_other _ _ _ _ (by simp)]; exact (hcell 2).trans h.c2
    · rw [World.cell?_setCell_other _ _ _ _ (by simp)]; exact (hcell 3).trans h.c3
    · rw [World.frozen?_setCell]; exact (hfrz 1).trans h.f1
    · rw [World.frozen?_setCell]; exact (hfrz 2).trans h.f2
    · rw [World.frozen?_setCell]; exact (hfrz 3).trans h.f3
    · have h1 := h.hb; have h2 := hk.size; simp [World.setCell]; omega
  · refine PutFr.setCell ⟨hk.os, hk.tape, hk.output, hk.size, fun k h1 _ h3 => hk.block k h1 h3, fun o _ _ _ => hcell o, hfrz, hat⟩ 1 v' (Or.inl rfl)

theorem grown_trans {u v w : World} {row : Option Nat} (h : u.grownBy v row) (k : v.grownBy w row) : u.grownBy w row :=
  ⟨k.os.trans h.os, k.tape.trans h.tape, k.output.trans h.output, Nat.le_trans h.size k.size, fun i hi hn => (k.block i (Nat.lt_of_lt_of_le hi h.size) hn).trans (h.block i hi hn)⟩
theorem grown_drew (w : World) (row : Option Nat) : w.grownBy w.drew row := ⟨rfl, rfl, rfl, Nat.le_refl _, fun _ _ _ => rfl⟩
theorem cell_new1 (w : World) (v : Value) (t : TypeId) : (w.alloc (.cells #[v] t)).cell? ⟨w.heap.size, 0, none⟩ = some v := by simp

set_option maxRecDepth 100000 in
set_option maxHeartbeats 2000000 in
theorem put_any (w : World) (P base : Nat) (vf : Value) (F : List UInt8) (H n v k : Nat) (h : BW w P base vf F H n) (hP : P < w.heap.size) (hn : n < 8) (hv : v < 2 ^ k) (hk : k ≤ 16) (hF : F.length ≤ 50000000) :
    Calls Try.prog 39 #[.pointer (some ⟨P, 1, none⟩), .int .i64 v, .int .i64 k] w fun e w' => e = .returned (.tuple #[]) ∧ ∃ vf' F' H' n', BW w' P base vf' F' H' n' ∧ n' < 8 ∧ strm F' H' = strm F H + v * 2 ^ (8 * F.length + n) ∧ 8 * F'.length + n' = 8 * F.length + n + k ∧ PutFr P vf w vf' w' := by
  have hv16 : v < 65536 := Nat.lt_of_lt_of_le hv (Nat.le_trans (Nat.pow_le_pow_right (by decide) hk) (by decide))
  have HOr := hide (or_put H v n h.hH hv16 hn)
  have hG := Pm.grow_lt h.hH hv
  have HBW := hide (fun (z y : Value) hz hy => h.bits (H + v * 2 ^ n) (n + k) (z := z) (y := y) hG hz hy)
  have HST : Hid (strm F (H + v * 2 ^ n) = strm F H + v * 2 ^ (8 * F.length + n)) := by
    show _ = _
    unfold strm
    rw [Nat.add_mul, Nat.mul_assoc, ← Nat.pow_add, Nat.add_comm n, Nat.add_assoc]
  have c1 := h.c1
  have c2 := h.c2
  have c3 := h.c3
  have f2 := h.f2
  have f3 := h.f3
  clear hG hv
  go_enter Try.func39, Try.ntmps39
  go_wp2
  go_region
  go_wp2
  go_loopg [32] 30 (fun g _ wr => ∃ u G A m, BW wr P base u G A m ∧ m ≤ 23 ∧ strm G A = strm F (H + v * 2 ^ n) ∧ 8 * G.length + m = 8 * F.length + n + k ∧ PutFr P vf w u wr ∧ m < g)
  case atStart =>
    refine ⟨vf, F, H + v * 2 ^ n, n + k, (HBW.out _ _ (by rw [HOr.out]) (by go_num)).drew, by omega, rfl, by omega, ?_, by omega⟩
    exact (((PutFr.refl P vf w).setCell 2 _ (by omega)).setCell 3 _ (by omega)).drew
  case round =>
    clear HBW HOr c1 c2 c3 f2 f3 h
    obtain ⟨u, G, A, m, hB, hm, hS, hT, hFr, hg⟩ := hrel
    have c1 := hB.c1
    have c2 := hB.c2
    have c3 := hB.c3
    have f1 := hB.f1
    have f2 := hB.f2
    have f3 := hB.f3
    have HS := hide hS
    clear hS
    by_cases h8 : 8 ≤ m
    · have hPr : P < wr.heap.size := Nat.lt_of_lt_of_le hP hFr.size
      have hA := hB.hH
      have hA2 : A < 16777216 := Nat.lt_of_lt_of_le hA (Nat.le_trans (Nat.pow_le_pow_right (by decide) (show m ≤ 24 by omega)) (by decide))
      have hA3 : A / 256 < 2 ^ (m - 8) := by
        have e : 2 ^ m = 2 ^ (m - 8) * 256 := by
          rw [show (256 : Nat) = 2 ^ 8 from by decide, ← Nat.pow_add]; congr 1; omega
        rw [e] at hA
        omega
      have hub : (UInt8.ofNat A).toNat = A % 256 := by simp
      have HSt := hide (strm_byte G A (UInt8.ofNat A) hub)
      have HCell : Hid ((wr.drew.alloc (.cells #[.int .u8 ((A : Int) % 256)] 5)).cell? ⟨wr.heap.size, 0, none⟩ = some (.int .u8 ((UInt8.ofNat A).toNat : Nat))) := by
        have e : ((UInt8.ofNat A).toNat : Int) = (A : Int) % 256 := by rw [hub]; omega
        show _ = _
        rw [e]
        exact cell_new1 wr.drew _ _
      have hOd := hB.own.drew.alloc (.cells #[.int .u8 ((A : Int) % 256)] 5)
      have HGr := hide (grown_trans (grown_drew wr u.ownBlock) (World.grownBy_alloc wr.drew (.cells #[.int .u8 ((A : Int) % 256)] 5) u.ownBlock))
      have hbd : base ≤ (wr.drew.alloc (.cells #[.int .u8 ((A : Int) % 256)] 5)).heap.size := by have := hB.hb; simp; omega
      have HBd := hide hbd
      have c1a : ∀ ob : Obj, (wr.alloc ob).cell? ⟨P, 1, none⟩ = some u := fun ob => (((Below.refl (P + 1) wr).alloc hPr ob).cell (p := ⟨P, 1, none⟩) (Nat.lt_succ_self P)).trans c1
      have hGl : G.length ≤ 60000000 := by omega
      clear hub hA hbd
      obtain ⟨adu, capu, hform⟩ : ∃ ad cap, u = .slice ad G.length cap := by
        rcases hB.own.2 with ⟨hu, hz⟩ | ⟨gg, cap, cur, hu, _⟩
        · exact ⟨none, 0, by rw [hu, hz]⟩
        · exact ⟨_, _, hu⟩
      subst hform
      go_wp2
      go_region_law ((refine step_byte_at rfl (.tmp 37) (.tmp 43) 29 rfl Try.underlying29 base _ G (by simp [Act.eval, Act.put]) hOd HBd.out ⟨wr.heap.size, 0, none⟩ 1 (by simp [Act.eval, Act.put]) (UInt8.ofNat A) HCell.out rfl (by omega) ?_; intro v7 w7 hO7 hg7 hat7; have hform7 : ∃ ad L cap, v7 = .slice ad L cap := (by rcases hO7.2 with ⟨hu, _⟩ | ⟨gg, cap, cur, hu, _⟩; exact ⟨_, _, _, hu⟩; exact ⟨_, _, _, hu⟩); obtain ⟨ad7, L7, cap7, hv7⟩ := hform7; rw [hv7] at hO7 hat7 ⊢; clear hv7; have kb := (grown_trans HGr.out hg7).block P hPr (fun e => hB.ne e.symm); have k1 := (World.cell?_of_block (a := ⟨P, 1, none⟩) kb).trans c1; have k2 := (World.cell?_of_block (a := ⟨P, 2, none⟩) kb).trans c2; have k3 := (World.cell?_of_block (a := ⟨P, 3, none⟩) kb).trans c3; have kf1 := (World.frozen?_of_block (a := ⟨P, 1, none⟩) kb).trans f1; have kf2 := (World.frozen?_of_block (a := ⟨P, 2, none⟩) kb).trans f2; have kf3 := (World.frozen?_of_block (a := ⟨P, 3, none⟩) kb).trans f3))
      all_goals
        have hby := hB.byte hPr (grown_trans HGr.out hg7) hO7 (by
          rcases hat7 with e | e
          · exact Or.inl e
          · exact Or.inr ⟨_, e, by simp⟩)
        have HBy := hide hby
        clear hby hO7 hg7 hat7
        go_wp2
        go_roundg (gk - 1)
        case measure => omega
        case rel =>
          refine ⟨_, G ++ [UInt8.ofNat A], A / 256, m - 8, HBy.out.1.bits (A / 256) (m - 8) hA3 (by simp) (by go_num), by omega, HSt.out.trans HS.out, by simp; omega, ?_, by omega⟩
          exact ((hFr.trans HBy.out.2).setCell 2 _ (by omega)).setCell 3 _ (by omega)
    · go_wp2
      go_end0
      exact ⟨rfl, u, G, A, m, hB, by omega, HS.out.trans HST.out, hT, hFr⟩
end Go.Proofs.Ytbklfkpjoinofaa
