import Derived.Test.YtjdnceekakgnlaaPk6
set_option linter.unusedVariables false
set_option linter.unusedSimpArgs false
namespace Go.Proofs.Ytjdnceekakgnlaa
open Go.RowKit

/-- Behind the sum's add. -/
theorem PS.sum {w : World} {P T base : Nat} {vf vw vs vt : Value} {F : List UInt8} {H n A B : Nat} {W : List UInt8} {Sn : List Int} {at_ gone : Nat} {Tk : List UInt8} (h : PS w P T base vf vw vs vt F H n A B W Sn at_ gone Tk) (A' B' : Nat) :
    PS ((w.setCell ⟨P, 4, none⟩ (.int .u32 A')).setCell ⟨P, 5, none⟩ (.int .u32 B')) P T base vf vw vs vt F H n A' B' W Sn at_ gone Tk := by
  have hfr := (fr_set w P 4 (.int .u32 A')).trans (fr_set (w.setCell ⟨P, 4, none⟩ (.int .u32 A')) P 5 (.int .u32 B')) (fun _ _ e => e)
  have hb := h.pk.bw
  have hp := h.pk.pw
  have cellO : ∀ o, o ≠ 4 → o ≠ 5 → ((w.setCell ⟨P, 4, none⟩ (.int .u32 A')).setCell ⟨P, 5, none⟩ (.int .u32 B')).cell? ⟨P, o, none⟩ = w.cell? ⟨P, o, none⟩ := by
    intro o a b
    rw [World.cell?_setCell_other _ _ _ _ (by intro e; cases e; omega), World.cell?_setCell_other _ _ _ _ (by intro e; cases e; omega)]
  have frzO : ∀ o, ((w.setCell ⟨P, 4, none⟩ (.int .u32 A')).setCell ⟨P, 5, none⟩ (.int .u32 B')).frozen? ⟨P, o, none⟩ = w.frozen? ⟨P, o, none⟩ := by
    intro o; rw [World.frozen?_setCell, World.frozen?_setCell]
  have two : ∀ {v : Value} {e : TypeId} {m : Nat} {xs : List Value}, w.ownsRow base e 1 v m xs → v.ownBlock ≠ some P → ((w.setCell ⟨P, 4, none⟩ (.int .u32 A')).setCell ⟨P, 5, none⟩ (.int .u32 B')).ownsRow base e 1 v m xs :=
    fun ho hne => own_set (own_set ho hne _ _) hne _ _
  have hsz : ((w.setCell ⟨P, 4, none⟩ (.int .u32 A')).setCell ⟨P, 5, none⟩ (.int .u32 B')).heap.size = w.heap.size := by simp [World.setCell]
  refine ⟨⟨⟨?_, ?_, ?_, ?_, ?_, ?_, two hb.own hb.ne, hb.ne, by rw [hsz]; exact hb.hb, hb.hH⟩, ⟨?_, ?_, ?_, ?_, ?_, two hp.ow hp.nw, two hp.os hp.ns, hp.nw, hp.ns, by rw [hsz]; exact hp.hP⟩, ?_, ?_, ?_, ?_, h.pk.hn, h.pk.dfw, h.pk.dfs, h.pk.dws⟩,
    h.sk.fr hfr h.hPT (fun g hg e => h.tP (by rw [hg, e])), h.hPT, h.hbP, h.hbT, h.fT, h.wT, h.sT, h.tP, h.dtf, h.dtw, h.dts⟩
  · rw [cellO 1 (by omega) (by omega)]; exact hb.c1
  · rw [cellO 2 (by omega) (by omega)]; exact hb.c2
  · rw [cellO 3 (by omega) (by omega)]; exact hb.c3
  · rw [frzO]; exact hb.f1
  · rw [frzO]; exact hb.f2
  · rw [frzO]; exact hb.f3
  · rw [cellO 6 (by omega) (by omega)]; exact hp.c6
  · rw [cellO 7 (by omega) (by omega)]; exact hp.c7
  · rw [cellO 8 (by omega) (by omega)]; exact hp.c8
  · rw [cellO 9 (by omega) (by omega)]; exact hp.c9
  · rw [frzO]; exact hp.f7
  · rw [cellO 0 (by omega) (by omega)]; exact h.pk.c0
  · rw [World.cell?_setCell_other _ _ _ _ (by simp)]; exact World.cell?_setCell_same _ _ _ h.pk.c4
  · exact World.cell?_setCell_same (u := .int .u32 B) _ _ _ (by rw [World.cell?_setCell_other _ _ _ _ (by simp)]; exact h.pk.c5)
  · intro o; rw [frzO]; exact h.pk.fz o

/-- Behind the window's append. -/
theorem PS.window {w w7 : World} {P T base : Nat} {vf vw vs vt v7 : Value} {F : List UInt8} {H n A B : Nat} {W W' : List UInt8} {Sn : List Int} {at_ gone : Nat} {Tk : List UInt8} (h : PS w P T base vf vw vs vt F H n A B W Sn at_ gone Tk)
    (hg : w.grownBy w7 vw.ownBlock) (ho : w7.ownsRow base 5 1 v7 W'.length (cells W')) (hat : v7.ownBlock = vw.ownBlock ∨ ∃ g, v7.ownBlock = some g ∧ w.heap.size ≤ g) :
    PS (w7.setCell ⟨P, 6, none⟩ v7) P T base vf v7 vs vt F H n A B W' Sn at_ gone Tk ∧ Below base w (w7.setCell ⟨P, 6, none⟩ v7) := by
  have hb := h.pk.bw
  have hp := h.pk.pw
  have hblk : w7.heap[P]? = w.heap[P]? := hg.block P hp.hP (fun e => hp.nw e.symm)
  have hcell : ∀ o, w7.cell? ⟨P, o, none⟩ = w.cell? ⟨P, o, none⟩ := fun o => World.cell?_of_block (a := ⟨P, o, none⟩) hblk
  have hfrz : ∀ o, w7.frozen? ⟨P, o, none⟩ = w.frozen? ⟨P, o, none⟩ := fun o => World.frozen?_of_block (a := ⟨P, o, none⟩) hblk
  have hf7 : Fr (fun k => vw.ownBlock = some k) w w7 := ⟨hg.os, hg.tape, hg.output, hg.size, fun k hk hb => hg.block k hk (fun e => hb e.symm)⟩
  have hfr : Fr (fun k => k = P ∨ vw.ownBlock = some k) w (w7.setCell ⟨P, 6, none⟩ v7) := (hf7.mono (fun k e => .inr e)).trans (fr_set w7 P 6 v7) (fun k _ e => .inl e)
  have hne : v7.ownBlock ≠ some P := blk_ne hp.hP hat hp.nw
  have one : ∀ {v : Value} {e : TypeId} {m : Nat} {xs : List Value}, w.ownsRow base e 1 v m xs → v.ownBlock ≠ some P → Apart v vw → (w7.setCell ⟨P, 6, none⟩ v7).ownsRow base e 1 v m xs :=
    fun ho hne hd => own_set (own_same ho (fun g hgv => hf7.keep g (ho.lt g hgv).2 (fun e => hd g hgv e))) hne _ _
  have cellO : ∀ o, o ≠ 6 → (w7.setCell ⟨P, 6, none⟩ v7).cell? ⟨P, o, none⟩ = w.cell? ⟨P, o, none⟩ := by
    intro o a
    rw [World.cell?_setCell_other _ _ _ _ (by intro e; cases e; omega), hcell]
  have frzO : ∀ o, (w7.setCell ⟨P, 6, none⟩ v7).frozen? ⟨P, o, none⟩ = w.frozen? ⟨P, o, none⟩ := by
    intro o; rw [World.frozen?_setCell, hfrz]
  have hsz : (w7.setCell ⟨P, 6, none⟩ v7).heap.size = w7.heap.size := by simp [World.setCell]
  refine ⟨⟨⟨⟨?_, ?_, ?_, ?_, ?_, ?_, one hb.own hb.ne h.pk.dfw, hb.ne, by rw [hsz]; exact Nat.le_trans hb.hb hg.size, hb.hH⟩, ⟨?_, ?_, ?_, ?_, ?_, own_set ho hne _ _, one hp.os hp.ns h.pk.dws.symm, hne, hp.ns, by rw [hsz]; exact Nat.lt_of_lt_of_le hp.hP hg.size⟩, ?_, ?_, ?_, ?_, h.pk.hn, (blk_apart hb.own hat h.pk.dfw.symm).symm, h.pk.dfs, blk_apart hp.os hat h.pk.dws⟩,
    h.sk.fr hfr ?_ ?_, h.hPT, h.hbP, h.hbT, h.fT, blk_ne h.sk.hT hat h.wT, h.sT, h.tP, h.dtf, (blk_apart h.sk.own hat h.dtw.symm).symm, h.dts⟩, hfr.below hb.hb ?_⟩
  · rw [cellO 1 (by omega)]; exact hb.c1
  · rw [cellO 2 (by omega)]; exact hb.c2
  · rw [cellO 3 (by omega)]; exact hb.c3
  · rw [frzO]; exact hb.f1
  · rw [frzO]; exact hb.f2
  · rw [frzO]; exact hb.f3
  · exact World.cell?_setCell_same (u := vw) _ _ _ (by rw [hcell]; exact hp.c6)
  · rw [cellO 7 (by omega)]; exact hp.c7
  · rw [cellO 8 (by omega)]; exact hp.c8
  · rw [cellO 9 (by omega)]; exact hp.c9
  · rw [frzO]; exact hp.f7
  · rw [cellO 0 (by omega)]; exact h.pk.c0
  · rw [cellO 4 (by omega)]; exact h.pk.c4
  · rw [cellO 5 (by omega)]; exact h.pk.c5
  · intro o; rw [frzO]; exact h.pk.fz o
  · rintro (e | e)
    · exact h.hPT e
    · exact h.wT e
  · rintro g hgv (e | e)
    · exact h.tP (by rw [hgv, e])
    · exact h.dtw g hgv e
  · rintro k (e | e)
    · rw [e]; exact h.hbP
    · exact (hp.ow.lt k e).1

theorem sumV_append (l m : List UInt8) (r : Nat × Nat) : Pm.sumV (l ++ m) r = Pm.sumV m (Pm.sumV l r) := by
  induction l generalizing r with
  | nil => rfl
  | cons c l ih => simp only [List.cons_append, Pm.sumV]; exact ih _

/-- More bytes are taken. -/
theorem InvP.more {Φ : Tale} {w' : World} {P T base : Nat} {D c : List UInt8} {p : Nat} {vf v7 vs vt : Value} {F : List UInt8} {H n : Nat} {W : List UInt8} {Sn : List Int} {at_ gone : Nat} {Tk : List UInt8}
    (h : PS w' P T base vf v7 vs vt F H n (Pm.sumV (D ++ c) (1, 0)).1 (Pm.sumV (D ++ c) (1, 0)).2 (W ++ c) Sn at_ gone Tk) (hW : W = D.drop gone) (hpe : gone + at_ = p) (hpl : p ≤ D.length)
    (hE : Pm.Enc (strm (Tk ++ F) H) (8 * (Tk.length + F.length) + n) (D.take p)) (hHd : Pm.Hd (strm (Tk ++ F) H) (8 * (Tk.length + F.length) + n)) (hsz : 8 * (Tk.length + F.length) + n ≤ 19 + 9 * p) (hSn : Seen Sn p) (hgo : gone = 0 ∨ 32768 ≤ at_) (hΦ : Φ (D ++ c) p Sn (8 * (Tk.length + F.length) + n)) :
    InvP Φ w' P T base (D ++ c) p := by
  refine ⟨vf, v7, vs, vt, F, H, n, W ++ c, Sn, at_, gone, Tk, h, ?_, hpe, ?_, ?_, hHd, hsz, hSn, hgo, hΦ⟩
  · rw [hW, List.drop_append_of_le_length (by omega)]
  · rw [List.length_append]; omega
  · rw [List.take_append_of_le_length hpl]; exact hE
end Go.Proofs.Ytjdnceekakgnlaa
