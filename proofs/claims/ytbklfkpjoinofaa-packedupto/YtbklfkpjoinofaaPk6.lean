import Derived.Test.YtbklfkpjoinofaaPk4
set_option linter.unusedVariables false
set_option linter.unusedSimpArgs false
namespace Go.Proofs.Ytbklfkpjoinofaa
open Go.RowKit

theorem strm_app (T F : List UInt8) (H : Nat) : strm (T ++ F) H = Pm.num T + 2 ^ (8 * T.length) * strm F H := by
  unfold strm
  rw [Pm.num_append, List.length_append, Nat.mul_add 8, Nat.pow_add, Nat.mul_add, Nat.add_assoc, Nat.mul_left_comm H]

theorem strm_on (T F F' : List UInt8) (H H' n v : Nat) (h : strm F' H' = strm F H + v * 2 ^ (8 * F.length + n)) : strm (T ++ F') H' = strm (T ++ F) H + v * 2 ^ (8 * (T.length + F.length) + n) := by
  rw [strm_app, strm_app, h, Nat.mul_add, Nat.mul_left_comm, ← Nat.pow_add, ← Nat.add_assoc, ← Nat.add_assoc, ← Nat.mul_add]

/-- Something that is said of the bytes, how many are packed, what was seen, and the number of bits. -/
abbrev Tale := List UInt8 → Nat → List Int → Nat → Prop

/-- The packer has taken the bytes D; the first p of them are packed; Φ holds. -/
def InvP (Φ : Tale) (w : World) (P T base : Nat) (D : List UInt8) (p : Nat) : Prop :=
  ∃ vf vw vs vt F H n W Sn at_ gone Tk, PS w P T base vf vw vs vt F H n (Pm.sumV D (1, 0)).1 (Pm.sumV D (1, 0)).2 W Sn at_ gone Tk ∧ W = D.drop gone ∧ gone + at_ = p ∧ p ≤ D.length ∧
    Pm.Enc (strm (Tk ++ F) H) (8 * (Tk.length + F.length) + n) (D.take p) ∧ Pm.Hd (strm (Tk ++ F) H) (8 * (Tk.length + F.length) + n) ∧ 8 * (Tk.length + F.length) + n ≤ 19 + 9 * p ∧ Seen Sn p ∧ (gone = 0 ∨ 32768 ≤ at_) ∧ Φ D p Sn (8 * (Tk.length + F.length) + n)

theorem PS.drewN {w : World} {P T base : Nat} {vf vw vs vt : Value} {F : List UInt8} {H n A B : Nat} {W : List UInt8} {Sn : List Int} {at_ gone : Nat} {Tk : List UInt8} (h : PS w P T base vf vw vs vt F H n A B W Sn at_ gone Tk) (q : Nat) : PS (w.drewN q) P T base vf vw vs vt F H n A B W Sn at_ gone Tk :=
  ⟨h.pk.drewN q, ⟨h.sk.c0, h.sk.c1, h.sk.c2, h.sk.fz, h.sk.own, h.sk.ne, h.sk.hT, h.sk.hb⟩, h.hPT, h.hbP, h.hbT, h.fT, h.wT, h.sT, h.tP, h.dtf, h.dtw, h.dts⟩
theorem InvP.drewN {Φ : Tale} {w : World} {P T base : Nat} {D : List UInt8} {p : Nat} (h : InvP Φ w P T base D p) (q : Nat) : InvP Φ (w.drewN q) P T base D p := by
  obtain ⟨vf, vw, vs, vt, F, H, n, W, Sn, at_, gone, Tk, a, b⟩ := h
  exact ⟨vf, vw, vs, vt, F, H, n, W, Sn, at_, gone, Tk, a.drewN q, b⟩

/-- A step takes Φ to Ψ. -/
def Goes (Φ Ψ : Tale) (D : List UInt8) (p : Nat) : Prop := ∀ W Sn Sn' at_ gone k b nb, W = D.drop gone → gone + at_ = p → Φ D p Sn nb → Info W at_ gone Sn Sn' k b → Ψ D (p + k) Sn' (nb + b)

theorem step_inv {Φ Ψ : Tale} (w : World) (P T base : Nat) (D : List UInt8) (p : Nat) (h : InvP Φ w P T base D p) (hp : p < D.length) (hD : D.length ≤ 1048576) (hG : Goes Φ Ψ D p) :
    Calls Try.prog 40 #[.pointer (some ⟨P, 0, none⟩)] w fun e w' => e = .returned (.tuple #[]) ∧ ∃ p', p < p' ∧ InvP Ψ w' P T base D p' ∧ Below base w w' := by
  obtain ⟨vf, vw, vs, vt, F, H, n, W, Sn, at_, gone, Tk, hS, hW, hpe, hpl, hE, hHd, hsz, hSn, hgo, hΦ⟩ := h
  have hWl : W.length = D.length - gone := by rw [hW, List.length_drop]
  have hn := hS.pk.hn
  refine (step_any w P base (nxt T) vf vw vs F H n _ _ W Sn at_ gone hS.pk (by omega) (by omega) (by omega) hgo (by rw [hpe]; exact hSn) (by omega)).mono ?_
  rintro e w' ⟨rfl, vf', F', H', n', Sn', k, v, b, hIn, _, hK, hEm, hst, hln, hSn', hFr, hblk⟩
  obtain ⟨hE', hb9, _, hik, hk1⟩ := hEm.enc hW hD (by rw [hpe]; exact hE)
  have hB : ∀ x, (x = P ∨ vf.ownBlock = some x ∨ vs.ownBlock = some x) → base ≤ x := by
    rintro x (e | e | e)
    · rw [e]; exact hS.hbP
    · exact (hS.pk.bw.own.lt x e).1
    · exact (hS.pk.pw.os.lt x e).1
  have hsk := hS.sk.fr hFr (by
    rintro (e | e | e)
    · exact hS.hPT e
    · exact hS.fT e
    · exact hS.sT e) (by
    rintro g hg (e | e | e)
    · exact hS.tP (by rw [hg, e])
    · exact hS.dtf g hg e
    · exact hS.dts g hg e)
  refine ⟨rfl, p + k, by omega, ⟨vf', vw, vs, vt, F', H', n', W, Sn', at_ + k, gone, Tk, ⟨hK, hsk, hS.hPT, hS.hbP, hS.hbT, blk_ne hS.sk.hT hblk hS.fT, hS.wT, hS.sT, hS.tP, (blk_apart hS.sk.own hblk hS.dtf.symm).symm, hS.dtw, hS.dts⟩, hW, by omega, by omega, ?_, ?_, by omega, ?_, by omega, ?_⟩, hFr.below hS.pk.bw.hb hB⟩
  · rw [strm_on Tk F F' H H' n v hst, show 8 * (Tk.length + F'.length) + n' = 8 * (Tk.length + F.length) + n + b by omega, ← hpe, Nat.add_assoc gone]
    exact hE'
  · rw [strm_on Tk F F' H H' n v hst, show 8 * (Tk.length + F'.length) + n' = 8 * (Tk.length + F.length) + n + b by omega]
    exact hHd.put v b
  · rw [← hpe, Nat.add_assoc]; exact hSn'
  · rw [show 8 * (Tk.length + F'.length) + n' = 8 * (Tk.length + F.length) + n + b by omega]
    exact hG W Sn Sn' at_ gone k b _ hW hpe hΦ hIn

theorem forget_inv {Φ : Tale} (w : World) (P T base : Nat) (D : List UInt8) (p : Nat) (h : InvP Φ w P T base D p) (hD : D.length ≤ 1048576) :
    Calls Try.prog 41 #[.pointer (some ⟨P, 0, none⟩)] w fun e w' => e = .returned (.tuple #[]) ∧ InvP Φ w' P T base D p ∧ Below base w w' := by
  obtain ⟨vf, vw, vs, vt, F, H, n, W, Sn, at_, gone, Tk, hS, hW, hpe, hpl, hE, hHd, hsz, hSn, hgo, hΦ⟩ := h
  have hWl : W.length = D.length - gone := by rw [hW, List.length_drop]
  refine (forget_any w P base (nxt T) vf vw vs F H n _ _ W Sn at_ gone hS.pk (by omega) (by omega) (by omega)).mono ?_
  rintro e w' ⟨rfl, vw', x, _, hx, hK, hx2, hblk, hFr⟩
  have hsk := hS.sk.fr hFr (by
    rintro (e | e)
    · exact hS.hPT e
    · exact hS.wT e) (by
    rintro g hg (e | e)
    · exact hS.tP (by rw [hg, e])
    · exact hS.dtw g hg e)
  refine ⟨rfl, ⟨vf, vw', vs, vt, F, H, n, W.drop x, Sn, at_ - x, gone + x, Tk, ⟨hK, hsk, hS.hPT, hS.hbP, hS.hbT, hS.fT, by rw [hblk]; exact hS.wT, hS.sT, hS.tP, hS.dtf, ?_, hS.dts⟩, ?_, by omega, hpl, hE, hHd, hsz, hSn, by omega, hΦ⟩, hFr.below hS.pk.bw.hb ?_⟩
  · intro g hg; rw [hblk]; exact hS.dtw g hg
  · rw [hW, List.drop_drop]
  · rintro k (e | e)
    · rw [e]; exact hS.hbP
    · exact (hS.pk.pw.ow.lt k e).1

theorem send_inv {Φ : Tale} (w : World) (P T base : Nat) (D : List UInt8) (p : Nat) (h : InvP Φ w P T base D p) (hD : D.length ≤ 1048576) :
    Calls Try.prog 42 #[.pointer (some ⟨P, 1, none⟩), nxt T] w fun e w' => e = .returned .nilIface ∧ InvP Φ w' P T base D p ∧ Below base w w' := by
  obtain ⟨vf, vw, vs, vt, F, H, n, W, Sn, at_, gone, Tk, hS, hW, hpe, hpl, hE, hHd, hsz, hSn, hgo, hΦ⟩ := h
  refine (send_any w P T base vf vw vs vt F H n _ _ W Sn at_ gone Tk hS (by omega)).mono ?_
  rintro e w' ⟨rfl, vf', vt', hS', hB⟩
  refine ⟨rfl, ⟨vf', vw, vs, vt', [], H, n, W, Sn, at_, gone, Tk ++ F, hS', hW, hpe, hpl, ?_, ?_, ?_, hSn, hgo, ?_⟩, hB⟩
  · simpa using hE
  · simpa using hHd
  · simpa using hsz
  · simpa using hΦ

/-- What the walk reads of it. -/
theorem InvP.read {Φ : Tale} {w : World} {P T base : Nat} {D : List UInt8} {p : Nat} (h : InvP Φ w P T base D p) : ∃ ad L cap at_, w.cell? ⟨P, 6, none⟩ = some (.slice ad L cap) ∧ w.cell? ⟨P, 7, none⟩ = some (.int .i64 (at_ : Nat)) ∧ w.cell? ⟨P, 0, none⟩ = some (nxt T) ∧ at_ ≤ L ∧ L - at_ = D.length - p ∧ L ≤ D.length ∧ p ≤ D.length ∧ P < w.heap.size := by
  obtain ⟨vf, vw, vs, vt, F, H, n, W, Sn, at_, gone, Tk, hS, hW, hpe, hpl, hE, hHd, hsz, hSn, hgo, hΦ⟩ := h
  have hWl : W.length = D.length - gone := by rw [hW, List.length_drop]
  obtain ⟨ad, cap, hv⟩ : ∃ ad cap, vw = .slice ad W.length cap := by
    rcases hS.pk.pw.ow.2 with ⟨hu, hz⟩ | ⟨gg, cap, cur, hu, _⟩
    · exact ⟨none, 0, by rw [hu, hz]⟩
    · exact ⟨_, _, hu⟩
  exact ⟨ad, W.length, cap, at_, hv ▸ hS.pk.pw.c6, hS.pk.pw.c7, hS.pk.c0, by omega, by omega, by omega, hpl, hS.pk.pw.hP⟩

theorem InvP.turn {Φ Ψ : Tale} {w : World} {P T base : Nat} {D : List UInt8} {p : Nat} (h : InvP Φ w P T base D p) (hΨ : ∀ Sn nb, Φ D p Sn nb → Ψ D p Sn nb) : InvP Ψ w P T base D p := by
  obtain ⟨vf, vw, vs, vt, F, H, n, W, Sn, at_, gone, Tk, hS, hW, hpe, hpl, hE, hHd, hsz, hSn, hgo, hΦ⟩ := h
  exact ⟨vf, vw, vs, vt, F, H, n, W, Sn, at_, gone, Tk, hS, hW, hpe, hpl, hE, hHd, hsz, hSn, hgo, hΨ _ _ hΦ⟩

/-- What keeps Φ while bytes come in, and is left of it at the end. -/
structure Keeps (Φ Ψ : Tale) : Prop where
  start : Φ [] 0 (List.replicate 4096 0) 19
  more : ∀ D c p Sn nb, p ≤ D.length → Φ D p Sn nb → Φ (D ++ c) p Sn nb
  step : ∀ D p, D.length ≤ 1048576 → 261 ≤ D.length - p → Goes Φ Φ D p
  last : ∀ D p, D.length ≤ 1048576 → p < D.length → Goes Ψ Ψ D p

/-- Behind the sum's add. -/
theorem PS.sum {w : World} {P T base : Nat} {vf vw vs vt : Value} {F : List UInt8} {H n A B : Nat} {W : List UInt8} {Sn : List Int} {at_ gone : Nat} {Tk : List UInt8} (h : PS w P T base vf vw vs vt F H n A B W Sn at_ gone Tk) (A' B' : Nat) :
    PS ((w.setCell ⟨P, 4, none⟩ (.int .u32 A')).setCell ⟨P, 5, none⟩ (.int .u32 B')) P T base vf vw vs vt F H n A' B' W Sn at_ gone Tk := by
  have hfr := (fr_set w P 4 (.int .u32 A')).trans (fr_set (w.setCell ⟨P, 4, none⟩ (.int .u32 A')) P 5 (.int .u32 B')) (fun _ _ e => e)
  have hb := h.pk.bw
  have hp := h.pk.pw
  have cellO : ∀ o, o ≠ 4 → o ≠ 5 → ((w.setCell ⟨P, 4, none⟩ (.int .u32 A')).setCell ⟨P, 5, none⟩ (.int .u32 B')).cell? ⟨P, o, none⟩ = w.cell? ⟨P, o, none⟩ := by
    intro o a b
    rw [World.cell?_setCell_other _ _ _ _ (by intro e; cases e; omega), World.cell?_setCell_other _ _ _ _ (by intro e; cases e; omega)]
  have frzO : ∀ o, ((w.setCell ⟨P, 4, none⟩ (.int .u32 A')).setCell ⟨P, 5, none⟩ (.int .u32 B')).frozen? ⟨P, o, none⟩ = w.frozen? ⟨P, o, none⟩ := by
    intro o; rw [World.frozen?_setCell, World.frozen?_setCell]
  have two : ∀ {v : Value} {e : TypeId} {m : Nat} {xs : List Value}, w.ownsRow base e 1 v m xs → v.ownBlock ≠ some P → ((w.setCell ⟨P, 4, none⟩ (.int .u32 A')).setCell ⟨P, 5, none⟩ (.int .u32 B')).ownsRow base e 1 v m xs :=
    fun ho hne => own_set (own_set ho hne _ _) hne _ _
  have hsz : ((w.setCell ⟨P, 4, none⟩ (.int .u32 A')).setCell ⟨P, 5, none⟩ (.int .u32 B')).heap.size = w.heap.size := by simp [World.setCell]
  refine ⟨⟨⟨?_, ?_, ?_, ?_, ?_, ?_, two hb.own hb.ne, hb.ne, by rw [hsz]; exact hb.hb, hb.hH⟩, ⟨?_, ?_, ?_, ?_, ?_, two hp.ow hp.nw, two hp.os hp.ns, hp.nw, hp.ns, by rw [hsz]; exact hp.hP⟩, ?_, ?_, ?_, ?_, h.pk.hn, h.pk.dfw, h.pk.dfs, h.pk.dws⟩,
    h.sk.fr hfr h.hPT (fun g hg e => h.tP (by rw [hg, e])), h.hPT, h.hbP, h.hbT, h.fT, h.wT, h.sT, h.tP, h.dtf, h.dtw, h.dts⟩
  · rw [cellO 1 (by omega) (by omega)]; exact hb.c1
  · rw [cellO 2 (by omega) (by omega)]; exact hb.c2
  · rw [cellO 3 (by omega) (by omega)]; exact hb.c3
  · rw [frzO]; exact hb.f1
  · rw [frzO]; exact hb.f2
  · rw [frzO]; exact hb.f3
  · rw [cellO 6 (by omega) (by omega)]; exact hp.c6
  · rw [cellO 7 (by omega) (by omega)]; exact hp.c7
  · rw [cellO 8 (by omega) (by omega)]; exact hp.c8
  · rw [cellO 9 (by omega) (by omega)]; exact hp.c9
  · rw [frzO]; exact hp.f7
  · rw [cellO 0 (by omega) (by omega)]; exact h.pk.c0
  · rw [World.cell?_setCell_other _ _ _ _ (by simp)]; exact World.cell?_setCell_same _ _ _ h.pk.c4
  · exact World.cell?_setCell_same (u := .int .u32 B) _ _ _ (by rw [World.cell?_setCell_other _ _ _ _ (by simp)]; exact h.pk.c5)
  · intro o; rw [frzO]; exact h.pk.fz o

/-- Behind the window's append. -/
theorem PS.window {w w7 : World} {P T base : Nat} {vf vw vs vt v7 : Value} {F : List UInt8} {H n A B : Nat} {W W' : List UInt8} {Sn : List Int} {at_ gone : Nat} {Tk : List UInt8} (h : PS w P T base vf vw vs vt F H n A B W Sn at_ gone Tk)
    (hg : w.grownBy w7 vw.ownBlock) (ho : w7.ownsRow base 5 1 v7 W'.length (cells W')) (hat : v7.ownBlock = vw.ownBlock ∨ ∃ g, v7.ownBlock = some g ∧ w.heap.size ≤ g) :
    PS (w7.setCell ⟨P, 6, none⟩ v7) P T base vf v7 vs vt F H n A B W' Sn at_ gone Tk ∧ Below base w (w7.setCell ⟨P, 6, none⟩ v7) := by
  have hb := h.pk.bw
  have hp := h.pk.pw
  have hblk : w7.heap[P]? = w.heap[P]? := hg.block P hp.hP (fun e => hp.nw e.symm)
  have hcell : ∀ o, w7.cell? ⟨P, o, none⟩ = w.cell? ⟨P, o, none⟩ := fun o => World.cell?_of_block (a := ⟨P, o, none⟩) hblk
  have hfrz : ∀ o, w7.frozen? ⟨P, o, none⟩ = w.frozen? ⟨P, o, none⟩ := fun o => World.frozen?_of_block (a := ⟨P, o, none⟩) hblk
  have hf7 : Fr (fun k => vw.ownBlock = some k) w w7 := ⟨hg.os, hg.tape, hg.output, hg.size, fun k hk hb => hg.block k hk (fun e => hb e.symm)⟩
  have hfr : Fr (fun k => k = P ∨ vw.ownBlock = some k) w (w7.setCell ⟨P, 6, none⟩ v7) := (hf7.mono (fun k e => .inr e)).trans (fr_set w7 P 6 v7) (fun k _ e => .inl e)
  have hne : v7.ownBlock ≠ some P := blk_ne hp.hP hat hp.nw
  have one : ∀ {v : Value} {e : TypeId} {m : Nat} {xs : List Value}, w.ownsRow base e 1 v m xs → v.ownBlock ≠ some P → Apart v vw → (w7.setCell ⟨P, 6, none⟩ v7).ownsRow base e 1 v m xs :=
    fun ho hne hd => own_set (own_same ho (fun g hgv => hf7.keep g (ho.lt g hgv).2 (fun e => hd g hgv e))) hne _ _
  have cellO : ∀ o, o ≠ 6 → (w7.setCell ⟨P, 6, none⟩ v7).cell? ⟨P, o, none⟩ = w.cell? ⟨P, o, none⟩ := by
    intro o a
    rw [World.cell?_setCell_other _ _ _ _ (by intro e; cases e; omega), hcell]
  have frzO : ∀ o, (w7.setCell ⟨P, 6, none⟩ v7).frozen? ⟨P, o, none⟩ = w.frozen? ⟨P, o, none⟩ := by
    intro o; rw [World.frozen?_setCell, hfrz]
  have hsz : (w7.setCell ⟨P, 6, none⟩ v7).heap.size = w7.heap.size := by simp [World.setCell]
  refine ⟨⟨⟨⟨?_, ?_, ?_, ?_, ?_, ?_, one hb.own hb.ne h.pk.dfw, hb.ne, by rw [hsz]; exact Nat.le_trans hb.hb hg.size, hb.hH⟩, ⟨?_, ?_, ?_, ?_, ?_, own_set ho hne _ _, one hp.os hp.ns h.pk.dws.symm, hne, hp.ns, by rw [hsz]; exact Nat.lt_of_lt_of_le hp.hP hg.size⟩, ?_, ?_, ?_, ?_, h.pk.hn, (blk_apart hb.own hat h.pk.dfw.symm).symm, h.pk.dfs, blk_apart hp.os hat h.pk.dws⟩,
    h.sk.fr hfr ?_ ?_, h.hPT, h.hbP, h.hbT, h.fT, blk_ne h.sk.hT hat h.wT, h.sT, h.tP, h.dtf, (blk_apart h.sk.own hat h.dtw.symm).symm, h.dts⟩, hfr.below hb.hb ?_⟩
  · rw [cellO 1 (by omega)]; exact hb.c1
  · rw [cellO 2 (by omega)]; exact hb.c2
  · rw [cellO 3 (by omega)]; exact hb.c3
  · rw [frzO]; exact hb.f1
  · rw [frzO]; exact hb.f2
  · rw [frzO]; exact hb.f3
  · exact World.cell?_setCell_same (u := vw) _ _ _ (by rw [hcell]; exact hp.c6)
  · rw [cellO 7 (by omega)]; exact hp.c7
  · rw [cellO 8 (by omega)]; exact hp.c8
  · rw [cellO 9 (by omega)]; exact hp.c9
  · rw [frzO]; exact hp.f7
  · rw [cellO 0 (by omega)]; exact h.pk.c0
  · rw [cellO 4 (by omega)]; exact h.pk.c4
  · rw [cellO 5 (by omega)]; exact h.pk.c5
  · intro o; rw [frzO]; exact h.pk.fz o
  · rintro (e | e)
    · exact h.hPT e
    · exact h.wT e
  · rintro g hgv (e | e)
    · exact h.tP (by rw [hgv, e])
    · exact h.dtw g hgv e
  · rintro k (e | e)
    · rw [e]; exact h.hbP
    · exact (hp.ow.lt k e).1

theorem sumV_append (l m : List UInt8) (r : Nat × Nat) : Pm.sumV (l ++ m) r = Pm.sumV m (Pm.sumV l r) := by
  induction l generalizing r with
  | nil => rfl
  | cons c l ih => simp only [List.cons_append, Pm.sumV]; exact ih _

/-- More bytes are taken. -/
theorem InvP.more {Φ : Tale} {w' : World} {P T base : Nat} {D c : List UInt8} {p : Nat} {vf v7 vs vt : Value} {F : List UInt8} {H n : Nat} {W : List UInt8} {Sn : List Int} {at_ gone : Nat} {Tk : List UInt8}
    (h : PS w' P T base vf v7 vs vt F H n (Pm.sumV (D ++ c) (1, 0)).1 (Pm.sumV (D ++ c) (1, 0)).2 (W ++ c) Sn at_ gone Tk) (hW : W = D.drop gone) (hpe : gone + at_ = p) (hpl : p ≤ D.length)
    (hE : Pm.Enc (strm (Tk ++ F) H) (8 * (Tk.length + F.length) + n) (D.take p)) (hHd : Pm.Hd (strm (Tk ++ F) H) (8 * (Tk.length + F.length) + n)) (hsz : 8 * (Tk.length + F.length) + n ≤ 19 + 9 * p) (hSn : Seen Sn p) (hgo : gone = 0 ∨ 32768 ≤ at_) (hΦ : Φ (D ++ c) p Sn (8 * (Tk.length + F.length) + n)) :
    InvP Φ w' P T base (D ++ c) p := by
  refine ⟨vf, v7, vs, vt, F, H, n, W ++ c, Sn, at_, gone, Tk, h, ?_, hpe, ?_, ?_, hHd, hsz, hSn, hgo, hΦ⟩
  · rw [hW, List.drop_append_of_le_length (by omega)]
  · rw [List.length_append]; omega
  · rw [List.take_append_of_le_length hpl]; exact hE
end Go.Proofs.Ytbklfkpjoinofaa
