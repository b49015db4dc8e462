import Derived.Test.YtbklfkpjoinofaaWk4
import Derived.Test.YtbklfkpjoinofaaEnc3
set_option linter.unusedVariables false
set_option linter.unusedSimpArgs false
namespace Go.Proofs.Ytbklfkpjoinofaa
open Go.RowKit

/-- Two slices that lie in blocks of their own. -/
def Apart (v u : Value) : Prop := ∀ g, v.ownBlock = some g → u.ownBlock ≠ some g
theorem Apart.symm {v u : Value} (h : Apart v u) : Apart u v := fun g a b => h g b a

theorem own_same {w w' : World} {base : Nat} {e : TypeId} {v : Value} {n : Nat} {xs : List Value} (h : w.ownsRow base e 1 v n xs) (hk : ∀ g, v.ownBlock = some g → w'.heap[g]? = w.heap[g]?) : w'.ownsRow base e 1 v n xs := by
  refine ⟨h.1, ?_⟩
  rcases h.2 with h2 | ⟨g, cap, cur, rfl, a, b, c⟩
  · exact .inl h2
  · exact .inr ⟨g, cap, cur, rfl, a, (hk g rfl).trans b, c⟩

/-- Only the blocks of B may have turned, and new ones may lie behind. -/
structure Fr (B : Nat → Prop) (w w' : World) : Prop where
  os : w'.os = w.os
  tape : w'.tape = w.tape
  output : w'.output = w.output
  size : w.heap.size ≤ w'.heap.size
  keep : ∀ k, k < w.heap.size → ¬ B k → w'.heap[k]? = w.heap[k]?

theorem Fr.refl (B : Nat → Prop) (w : World) : Fr B w w := ⟨rfl, rfl, rfl, Nat.le_refl _, fun _ _ _ => rfl⟩
theorem Fr.drewN {B : Nat → Prop} {w w' : World} (h : Fr B w w') (q : Nat) : Fr B w (w'.drewN q) := ⟨h.os, h.tape, h.output, h.size, h.keep⟩
theorem Fr.trans {B C : Nat → Prop} {u v w : World} (h : Fr B u v) (k : Fr C v w) (hC : ∀ x, x < u.heap.size → C x → B x) : Fr B u w :=
  ⟨k.os.trans h.os, k.tape.trans h.tape, k.output.trans h.output, Nat.le_trans h.size k.size, fun x hx hb => (k.keep x (Nat.lt_of_lt_of_le hx h.size) (fun hc => hb (hC x hx hc))).trans (h.keep x hx hb)⟩
theorem Fr.mono {B C : Nat → Prop} {u v : World} (h : Fr B u v) (hB : ∀ x, B x → C x) : Fr C u v := ⟨h.os, h.tape, h.output, h.size, fun x hx hc => h.keep x hx (fun hb => hc (hB x hb))⟩
theorem PutFr.fr {P : Nat} {vf vf' : Value} {w w' : World} (h : PutFr P vf w vf' w') : Fr (fun k => k = P ∨ vf.ownBlock = some k) w w' :=
  ⟨h.os, h.tape, h.output, h.size, fun k hk hb => h.keep k hk (fun e => hb (.inl e)) (fun e => hb (.inr e.symm))⟩
theorem PassFr.fr {P : Nat} {vs : Value} {w w' : World} (h : PassFr P vs w w') : Fr (fun k => k = P ∨ vs.ownBlock = some k) w w' :=
  ⟨h.os, h.tape, h.output, h.size, fun k hk hb => h.keep k hk (fun e => hb (.inl e)) (fun e => hb (.inr e.symm))⟩

/-- The whole packer, at block P: whom it writes to, its bits, its sum, its window. -/
structure PK (w : World) (P base : Nat) (nx vf vw vs : Value) (F : List UInt8) (H n A B : Nat) (W : List UInt8) (Sn : List Int) (at_ gone : Nat) : Prop where
  bw : BW w P base vf F H n
  pw : PW w P base vw vs W Sn at_ gone
  c0 : w.cell? ⟨P, 0, none⟩ = some nx
  c4 : w.cell? ⟨P, 4, none⟩ = some (.int .u32 A)
  c5 : w.cell? ⟨P, 5, none⟩ = some (.int .u32 B)
  fz : ∀ o, w.frozen? ⟨P, o, none⟩ = false
  hn : n < 8
  dfw : Apart vf vw
  dfs : Apart vf vs
  dws : Apart vw vs

theorem PK.drewN {w : World} {P base : Nat} {nx vf vw vs : Value} {F : List UInt8} {H n A B : Nat} {W : List UInt8} {Sn : List Int} {at_ gone : Nat} (h : PK w P base nx vf vw vs F H n A B W Sn at_ gone) (q : Nat) : PK (w.drewN q) P base nx vf vw vs F H n A B W Sn at_ gone :=
  ⟨h.bw.drewN q, h.pw.drewN q, h.c0, h.c4, h.c5, h.fz, h.hn, h.dfw, h.dfs, h.dws⟩

theorem blk_apart {vf vf' v : Value} {w : World} {base : Nat} {e : TypeId} {n : Nat} {xs : List Value} (ho : w.ownsRow base e 1 v n xs) (hb : vf'.ownBlock = vf.ownBlock ∨ ∃ g, vf'.ownBlock = some g ∧ w.heap.size ≤ g) (hd : Apart vf v) : Apart vf' v := by
  intro g hg hv
  rcases hb with e | ⟨x, e, hx⟩
  · exact hd g (e ▸ hg) hv
  · rw [e] at hg; cases hg
    have := (ho.lt _ hv).2
    omega

/-- Behind a put. -/
theorem PK.put {w w' : World} {P base : Nat} {nx vf vw vs vf' : Value} {F F' : List UInt8} {H n H' n' A B : Nat} {W : List UInt8} {Sn : List Int} {at_ gone : Nat} (h : PK w P base nx vf vw vs F H n A B W Sn at_ gone)
    (hB : BW w' P base vf' F' H' n') (hn : n' < 8) (hF : PutFr P vf w vf' w') : PK w' P base nx vf' vw vs F' H' n' A B W Sn at_ gone := by
  have hw : ∀ {v : Value} {e : TypeId} {m : Nat} {xs : List Value}, w.ownsRow base e 1 v m xs → v.ownBlock ≠ some P → Apart vf v → w'.ownsRow base e 1 v m xs := by
    intro v e m xs ho hne hd
    refine own_same ho fun g hg => hF.keep g (ho.lt g hg).2 (fun e => hne (by rw [hg, e])) (fun e => hd g e.symm hg)
  refine ⟨hB, ⟨?_, ?_, ?_, ?_, ?_, hw h.pw.ow h.pw.nw h.dfw, hw h.pw.os h.pw.ns h.dfs, h.pw.nw, h.pw.ns, Nat.lt_of_lt_of_le h.pw.hP hF.size⟩, ?_, ?_, ?_, ?_, hn, blk_apart h.pw.ow hF.blk h.dfw, blk_apart h.pw.os hF.blk h.dfs, h.dws⟩
  · rw [hF.cell 6 (by omega) (by omega) (by omega)]; exact h.pw.c6
  · rw [hF.cell 7 (by omega) (by omega) (by omega)]; exact h.pw.c7
  · rw [hF.cell 8 (by omega) (by omega) (by omega)]; exact h.pw.c8
  · rw [hF.cell 9 (by omega) (by omega) (by omega)]; exact h.pw.c9
  · rw [hF.frz]; exact h.pw.f7
  · rw [hF.cell 0 (by omega) (by omega) (by omega)]; exact h.c0
  · rw [hF.cell 4 (by omega) (by omega) (by omega)]; exact h.c4
  · rw [hF.cell 5 (by omega) (by omega) (by omega)]; exact h.c5
  · intro o; rw [hF.frz]; exact h.fz o

/-- Behind a pass. -/
theorem PK.pass {w w' : World} {P base : Nat} {nx vf vw vs : Value} {F : List UInt8} {H n A B : Nat} {W : List UInt8} {Sn Sn' : List Int} {at_ at' gone : Nat} (h : PK w P base nx vf vw vs F H n A B W Sn at_ gone)
    (hP : PW w' P base vw vs W Sn' at' gone) (hF : PassFr P vs w w') : PK w' P base nx vf vw vs F H n A B W Sn' at' gone := by
  have hb := h.bw
  refine ⟨⟨?_, ?_, ?_, ?_, ?_, ?_, own_same hb.own fun g hg => hF.keep g (hb.own.lt g hg).2 (fun e => hb.ne (by rw [hg, e])) (fun e => h.dfs g hg e.symm), hb.ne, Nat.le_trans hb.hb hF.size, hb.hH⟩, hP, ?_, ?_, ?_, ?_, h.hn, h.dfw, h.dfs, h.dws⟩
  · rw [hF.cell 1 (by omega)]; exact hb.c1
  · rw [hF.cell 2 (by omega)]; exact hb.c2
  · rw [hF.cell 3 (by omega)]; exact hb.c3
  · rw [hF.frz]; exact hb.f1
  · rw [hF.frz]; exact hb.f2
  · rw [hF.frz]; exact hb.f3
  · rw [hF.cell 0 (by omega)]; exact h.c0
  · rw [hF.cell 4 (by omega)]; exact h.c4
  · rw [hF.cell 5 (by omega)]; exact h.c5
  · intro o; rw [hF.frz]; exact h.fz o

theorem pass_any (w : World) (P base : Nat) (vw vs : Value) (W : List UInt8) (Sn : List Int) (at_ gone n : Nat) (h : PW w P base vw vs W Sn at_ gone) (hd : Apart vw vs) (hn : 1 ≤ n) (ha : at_ + n ≤ W.length) (hW : W.length ≤ 10000000) (hg : gone ≤ 10000000) (hS : Seen Sn (gone + at_)) :
    Calls Try.prog 48 #[.pointer (some ⟨P, 0, none⟩), .int .i64 n] w fun e w' => e = .returned (.tuple #[]) ∧ ∃ Sn', PW w' P base vw vs W Sn' (at_ + n) gone ∧ Seen Sn' (gone + (at_ + n)) ∧ PassFr P vs w w' ∧ Last (keyN W) W Sn' at_ n gone ∧ Sn' = passV (keyN W) W at_ gone Sn n := by
  obtain ⟨g, cap, hv, hle, hb, _⟩ := row_at h.ow (by omega)
  obtain ⟨gs, caps, hvs, hbs, _⟩ := ints_at h.os (by omega)
  subst hv hvs
  refine pass_core w P base g cap gs caps W Sn at_ gone n h (fun e => hd g rfl (by rw [e]; rfl)) ha hW hg hle hS (keyN W) ?_
  intro wx Sx i hx hi
  exact ⟨keyN_lt W i, fun q => key_any (wx.drewN q) P base _ _ W Sx i gone i (hx.drewN q) hi hW⟩
end Go.Proofs.Ytbklfkpjoinofaa
