import Derived.Test.YtbklfkpjoinofaaPk2
set_option linter.unusedVariables false
set_option linter.unusedSimpArgs false
namespace Go.Proofs.Ytbklfkpjoinofaa
open Go.RowKit

/-- The interface value that holds the sink. -/
def nxt (T : Nat) : Value := .iface 50 (.pointer (some ⟨T, 0, none⟩))

theorem meth_write (T : Nat) (w : World) : (method 212 50 (.pointer (some ⟨T, 0, none⟩)) "Write").run Try.prog w = .ok (83, .pointer (some ⟨T, 0, none⟩)) w := by kernel_rfl

set_option maxRecDepth 100000 in
set_option maxHeartbeats 2000000 in
theorem send_core (w : World) (P T g cap : Nat) (F : List UInt8) (R : World → Prop)
    (c1 : w.cell? ⟨P, 1, none⟩ = some (.slice (some ⟨g, 0, none⟩) F.length cap)) (f1 : w.frozen? ⟨P, 1, none⟩ = false) (hF : 0 < F.length) (hF2 : F.length ≤ 60000000) (hcap : F.length ≤ cap) (hcm : cap ≤ 9223372036854775807)
    (hconv : (convert 29 9 (.slice (some ⟨g, 0, none⟩) F.length cap)).run Try.prog w = .ok (.string ⟨F.toArray⟩) w)
    (HW : Hid (Calls Try.prog 83 #[.pointer (some ⟨T, 0, none⟩), .string ⟨F.toArray⟩] (w.setCell ⟨P, 1, none⟩ (.slice (some ⟨g, 0, none⟩) 0 cap)) fun e w' => e = .returned .nilIface ∧ R w')) :
    Calls Try.prog 42 #[.pointer (some ⟨P, 1, none⟩), nxt T] w fun e w' => e = .returned .nilIface ∧ R w' := by
  have hm := meth_write T
  unfold nxt
  go_enter Try.func42, Try.ntmps42
  go_wp2_with fail
  refine HW.out.mono ?_
  rintro e w1 ⟨rfl, hR⟩
  go_wp2
  go_ret
  exact ⟨rfl, hR⟩

set_option maxRecDepth 100000 in
set_option maxHeartbeats 2000000 in
theorem send_nil (w : World) (P T : Nat) (ad : Option Addr) (cap : Nat) (c1 : w.cell? ⟨P, 1, none⟩ = some (.slice ad 0 cap)) :
    Calls Try.prog 42 #[.pointer (some ⟨P, 1, none⟩), nxt T] w fun e w' => e = .returned .nilIface ∧ w' = w := by
  unfold nxt
  go_enter Try.func42, Try.ntmps42
  go_wp2
  go_ret
  exact ⟨rfl, rfl⟩

/-- The packer and its sink. -/
structure PS (w : World) (P T base : Nat) (vf vw vs vt : Value) (F : List UInt8) (H n A B : Nat) (W : List UInt8) (Sn : List Int) (at_ gone : Nat) (Tk : List UInt8) : Prop where
  pk : PK w P base (nxt T) vf vw vs F H n A B W Sn at_ gone
  sk : SK w T base vt Tk
  hPT : T ≠ P
  hbP : base ≤ P
  hbT : base ≤ T
  fT : vf.ownBlock ≠ some T
  wT : vw.ownBlock ≠ some T
  sT : vs.ownBlock ≠ some T
  tP : vt.ownBlock ≠ some P
  dtf : Apart vt vf
  dtw : Apart vt vw
  dts : Apart vt vs

theorem SK.fr {w w' : World} {T base : Nat} {vt : Value} {Tk : List UInt8} {B : Nat → Prop} (h : SK w T base vt Tk) (hF : Fr B w w') (hT : ¬ B T) (hv : ∀ g, vt.ownBlock = some g → ¬ B g) : SK w' T base vt Tk := by
  have hblk := hF.keep T h.hT hT
  have hcell : ∀ o, w'.cell? ⟨T, o, none⟩ = w.cell? ⟨T, o, none⟩ := fun o => World.cell?_of_block (a := ⟨T, o, none⟩) hblk
  have hfrz : ∀ o, w'.frozen? ⟨T, o, none⟩ = w.frozen? ⟨T, o, none⟩ := fun o => World.frozen?_of_block (a := ⟨T, o, none⟩) hblk
  exact ⟨by rw [hcell]; exact h.c0, by rw [hcell]; exact h.c1, by rw [hcell]; exact h.c2, fun o => by rw [hfrz]; exact h.fz o, own_same h.own (fun g hg => hF.keep g (h.own.lt g hg).2 (hv g hg)), h.ne, Nat.lt_of_lt_of_le h.hT hF.size, Nat.le_trans h.hb hF.size⟩

theorem Fr.below {w w' : World} {B : Nat → Prop} {base : Nat} (h : Fr B w w') (hb : base ≤ w.heap.size) (hB : ∀ k, B k → base ≤ k) : Below base w w' :=
  ⟨h.os, h.tape, h.output, h.size, fun k hk => h.keep k (Nat.lt_of_lt_of_le hk hb) (fun hbk => by have := hB k hbk; omega)⟩

theorem blk_ne {v v' : Value} {w : World} {T : Nat} (hT : T < w.heap.size) (hb : v'.ownBlock = v.ownBlock ∨ ∃ g, v'.ownBlock = some g ∧ w.heap.size ≤ g) (h : v.ownBlock ≠ some T) : v'.ownBlock ≠ some T := by
  rcases hb with e | ⟨g, e, hg⟩
  · rw [e]; exact h
  · rw [e]; intro hh; cases hh; omega

/-- A packer in a world where only other blocks have turned. -/
theorem PK.fr {w w' : World} {P base : Nat} {nx vf vw vs : Value} {F : List UInt8} {H n A B : Nat} {W : List UInt8} {Sn : List Int} {at_ gone : Nat} {C : Nat → Prop} (h : PK w P base nx vf vw vs F H n A B W Sn at_ gone) (hF : Fr C w w') (hP : ¬ C P) (hf : ∀ g, vf.ownBlock = some g → ¬ C g) (hw : ∀ g, vw.ownBlock = some g → ¬ C g) (hs : ∀ g, vs.ownBlock = some g → ¬ C g) :
    PK w' P base nx vf vw vs F H n A B W Sn at_ gone := by
  have hblk := hF.keep P h.pw.hP hP
  have hcell : ∀ o, w'.cell? ⟨P, o, none⟩ = w.cell? ⟨P, o, none⟩ := fun o => World.cell?_of_block (a := ⟨P, o, none⟩) hblk
  have hfrz : ∀ o, w'.frozen? ⟨P, o, none⟩ = w.frozen? ⟨P, o, none⟩ := fun o => World.frozen?_of_block (a := ⟨P, o, none⟩) hblk
  have hb := h.bw
  have hp := h.pw
  refine ⟨⟨?_, ?_, ?_, ?_, ?_, ?_, own_same hb.own (fun g hg => hF.keep g (hb.own.lt g hg).2 (hf g hg)), hb.ne, Nat.le_trans hb.hb hF.size, hb.hH⟩,
    ⟨?_, ?_, ?_, ?_, ?_, own_same hp.ow (fun g hg => hF.keep g (hp.ow.lt g hg).2 (hw g hg)), own_same hp.os (fun g hg => hF.keep g (hp.os.lt g hg).2 (hs g hg)), hp.nw, hp.ns, Nat.lt_of_lt_of_le hp.hP hF.size⟩, ?_, ?_, ?_, ?_, h.hn, h.dfw, h.dfs, h.dws⟩
  · rw [hcell]; exact hb.c1
  · rw [hcell]; exact hb.c2
  · rw [hcell]; exact hb.c3
  · rw [hfrz]; exact hb.f1
  · rw [hfrz]; exact hb.f2
  · rw [hfrz]; exact hb.f3
  · rw [hcell]; exact hp.c6
  · rw [hcell]; exact hp.c7
  · rw [hcell]; exact hp.c8
  · rw [hcell]; exact hp.c9
  · rw [hfrz]; exact hp.f7
  · rw [hcell]; exact h.c0
  · rw [hcell]; exact h.c4
  · rw [hcell]; exact h.c5
  · intro o; rw [hfrz]; exact h.fz o

/-- A packer whose whole bytes are set back to none. -/
theorem PK.reset {w : World} {P base g cap : Nat} {nx vw vs : Value} {F : List UInt8} {H n A B : Nat} {W : List UInt8} {Sn : List Int} {at_ gone : Nat} (h : PK w P base nx (.slice (some ⟨g, 0, none⟩) F.length cap) vw vs F H n A B W Sn at_ gone) :
    PK (w.setCell ⟨P, 1, none⟩ (.slice (some ⟨g, 0, none⟩) 0 cap)) P base nx (.slice (some ⟨g, 0, none⟩) 0 cap) vw vs [] H n A B W Sn at_ gone := by
  have hb := h.bw
  have hp := h.pw
  have hown : w.ownsRow base 5 1 (.slice (some ⟨g, 0, none⟩) 0 cap) 0 [] := by
    refine ⟨rfl, ?_⟩
    rcases hb.own.2 with ⟨e, _⟩ | ⟨g', cap', cur, e, a1, a2, a3, a4, a5, _⟩
    · cases e
    · cases e; exact .inr ⟨g, cap, cur, rfl, a1, a2, by omega, a4, a5, by simp⟩
  refine ⟨⟨World.cell?_setCell_same _ _ _ hb.c1, ?_, ?_, ?_, ?_, ?_, own_set hown hb.ne _ _, hb.ne, by have := hb.hb; simpa [World.setCell] using this, hb.hH⟩,
    ⟨?_, ?_, ?_, ?_, ?_, own_set hp.ow hp.nw _ _, own_set hp.os hp.ns _ _, hp.nw, hp.ns, by have := hp.hP; simpa [World.setCell] using this⟩, ?_, ?_, ?_, ?_, h.hn, h.dfw, h.dfs, h.dws⟩
  · rw [World.cell?_setCell_other _ _ _ _ (by simp)]; exact hb.c2
  · rw [World.cell?_setCell_other _ _ _ _ (by simp)]; exact hb.c3
  · rw [World.frozen?_setCell]; exact hb.f1
  · rw [World.frozen?_setCell]; exact hb.f2
  · rw [World.frozen?_setCell]; exact hb.f3
  · rw [World.cell?_setCell_other _ _ _ _ (by simp)]; exact hp.c6
  · rw [World.cell?_setCell_other _ _ _ _ (by simp)]; exact hp.c7
  · rw [World.cell?_setCell_other _ _ _ _ (by simp)]; exact hp.c8
  · rw [World.cell?_setCell_other _ _ _ _ (by simp)]; exact hp.c9
  · rw [World.frozen?_setCell]; exact hp.f7
  · rw [World.cell?_setCell_other _ _ _ _ (by simp)]; exact h.c0
  · rw [World.cell?_setCell_other _ _ _ _ (by simp)]; exact h.c4
  · rw [World.cell?_setCell_other _ _ _ _ (by simp)]; exact h.c5
  · intro o; rw [World.frozen?_setCell]; exact h.fz o

theorem fr_set (w : World) (P o : Nat) (x : Value) : Fr (fun k => k = P) w (w.setCell ⟨P, o, none⟩ x) :=
  ⟨rfl, rfl, rfl, by simp [World.setCell], fun k _ hb => Below.heap_setCell _ _ _ _ hb⟩

theorem send_any (w : World) (P T base : Nat) (vf vw vs vt : Value) (F : List UInt8) (H n A B : Nat) (W : List UInt8) (Sn : List Int) (at_ gone : Nat) (Tk : List UInt8) (h : PS w P T base vf vw vs vt F H n A B W Sn at_ gone Tk) (hl : Tk.length + F.length ≤ 60000000) :
    Calls Try.prog 42 #[.pointer (some ⟨P, 1, none⟩), nxt T] w fun e w' => e = .returned .nilIface ∧ ∃ vf' vt', PS w' P T base vf' vw vs vt' [] H n A B W Sn at_ gone (Tk ++ F) ∧ Below base w w' := by
  have hbw := h.pk.bw
  by_cases h0 : F.length = 0
  · obtain rfl : F = [] := List.eq_nil_of_length_eq_zero h0
    obtain ⟨ad, cap, hv⟩ : ∃ ad cap, vf = .slice ad 0 cap := by
      rcases hbw.own.2 with ⟨e, _⟩ | ⟨g, cap, cur, e, _⟩
      · exact ⟨_, _, e⟩
      · exact ⟨_, _, e⟩
    refine (send_nil w P T ad cap (hv ▸ hbw.c1)).mono ?_
    rintro e w' ⟨rfl, rfl⟩
    exact ⟨rfl, vf, vt, by simpa using h, Below.refl _ _⟩
  · obtain ⟨g, cap, hv, hle, hb, hcell⟩ := row_at hbw.own (by omega)
    have hcm : cap ≤ 9223372036854775807 := by
      rcases hbw.own.2 with ⟨_, h0⟩ | ⟨g', cap', cur, hv', _, _, _, hcm, _⟩
      · omega
      · rw [hv] at hv'; cases hv'; exact hcm
    subst hv
    have hK := h.pk.reset
    have hfr := fr_set w P 1 (.slice (some ⟨g, 0, none⟩) 0 cap)
    have hS := h.sk.fr hfr h.hPT (fun x hx e => h.tP (by rw [hx, e]))
    refine send_core w P T g cap F _ hbw.c1 hbw.f1 (by omega) (by omega) hle hcm ?_ ((sinkWrite_any _ T base vt Tk ⟨F.toArray⟩ hS (by simp [ByteArray.size]; omega)).mono ?_)
    · refine run_convert_bytes_back _ 29 9 5 ⟨g, 0, none⟩ cap F Try.underlying29 Try.underlying5 Try.underlying9 ?_
      intro j hj
      have hadd : (⟨g, 0, none⟩ : Addr).add j = ⟨g, j, none⟩ := by unfold Addr.add; split <;> simp_all
      rw [hadd, hcell j hj]
      simp [List.getD_eq_getElem?_getD, List.getElem?_eq_getElem hj]
    · rintro e w' ⟨rfl, vt', hs', hF', hat⟩
      have hsz : w.heap.size = (w.setCell ⟨P, 1, none⟩ (.slice (some ⟨g, 0, none⟩) 0 cap)).heap.size := by simp [World.setCell]
      refine ⟨rfl, .slice (some ⟨g, 0, none⟩) 0 cap, vt', ⟨hK.fr hF' ?_ ?_ ?_ ?_, hs', h.hPT, h.hbP, h.hbT, h.fT, h.wT, h.sT, blk_ne hK.pw.hP hat h.tP, blk_apart hK.bw.own hat h.dtf, blk_apart hK.pw.ow hat h.dtw, blk_apart hK.pw.os hat h.dts⟩, ?_⟩
      · rintro (e | e)
        · exact h.hPT e.symm
        · exact h.tP e
      · rintro x hx (e | e)
        · exact h.fT (by rw [← e]; exact hx)
        · exact h.dtf x e hx
      · rintro x hx (e | e)
        · exact h.wT (by rw [← e]; exact hx)
        · exact h.dtw x e hx
      · rintro x hx (e | e)
        · exact h.sT (by rw [← e]; exact hx)
        · exact h.dts x e hx
      · refine (hfr.below hbw.hb (fun k e => e ▸ h.hbP)).trans (hF'.below hK.bw.hb ?_)
        rintro k (e | e)
        · rw [e]; exact h.hbT
        · exact (h.sk.own.lt k e).1
end Go.Proofs.Ytbklfkpjoinofaa
