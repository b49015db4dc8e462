import Derived.Test.YtbklfkpjoinofaaPk3
set_option linter.unusedVariables false
set_option linter.unusedSimpArgs false
namespace Go.Proofs.Ytbklfkpjoinofaa
open Go.RowKit

theorem wpList_copy_keep {P : Program} {w : World} {ops : Array Oper} {rest : List Oper} {o : Oper} {a : Act} {Q : Exit → Act → World → Prop} (hgd : o.guard = none) (d s : Operand) (dT sT : TypeId)
    (ho : o.op = .call { callee := .builtin .copy, args := #[d, s], argTypes := #[dT, sT] }) (elem : TypeId) (hu : P.underlying dT = some (.slice elem)) (hsz : (P.info? elem).map (·.size) = some 1)
    (g dLen dCap : Nat) (ad : Addr) (sLen sCap : Nat) (hd : a.eval d = .slice (some ⟨g, 0, none⟩) dLen dCap) (hs : a.eval s = .slice (some ad) sLen sCap)
    (cur : Array Value) (t : TypeId) (hg : w.heap[g]? = some (.cells cur t (0, 0))) (cs : List Value) (hn : cs.length = Nat.min sLen dLen)
    (hsrc : ∀ j v, cs[j]? = some v → w.cell? (ad.add j) = some v) (hfit : cs.length ≤ cur.size) (h1 : ∀ v ∈ cs, v.oneCell' = true)
    (h : ∀ w', Hid (w'.heap[g]? = some (.cells (cs ++ cur.toList.drop cs.length).toArray t (0, 0))) → Hid (Fr (fun k => k = g) w w') → wpList P ops Q rest (a.put o.dst (goInt cs.length)) w') : wpList P ops Q (o :: rest) a w := by
  refine wpList_copy_own hgd d s dT sT ho elem hu hsz g 0 dLen dCap ad sLen sCap hd hs cur t hg cs hn hsrc (by omega) h1 (h _ ?_ ?_)
  · show _ = _
    rw [setRow_heap w g cur _ t _ hg]
    simp
  · exact ⟨rfl, rfl, rfl, by simp [World.setRow], fun k _ hb => setRow_other w g k _ hb⟩

set_option maxRecDepth 100000 in
set_option maxHeartbeats 2000000 in
theorem forget_core (w : World) (P g cap : Nat) (W : List UInt8) (at_ gone E : Nat) (cur : Array Value)
    (c6 : w.cell? ⟨P, 6, none⟩ = some (.slice (some ⟨g, 0, none⟩) W.length cap)) (c7 : w.cell? ⟨P, 7, none⟩ = some (.int .i64 at_)) (c8 : w.cell? ⟨P, 8, none⟩ = some (.int .i64 gone))
    (f6 : w.frozen? ⟨P, 6, none⟩ = false) (f7 : w.frozen? ⟨P, 7, none⟩ = false) (f8 : w.frozen? ⟨P, 8, none⟩ = false)
    (hE : (at_ : Int) - 32768 = (E : Int)) (hE2 : 32768 ≤ E) (ha : at_ ≤ W.length) (hW : W.length ≤ 10000000) (hg : gone ≤ 10000000) (hcap : W.length ≤ cap) (hcm : cap ≤ 9223372036854775807) (hPg : P ≠ g) (hPs : P < w.heap.size)
    (hgc : w.heap[g]? = some (.cells cur 5 (0, 0))) (hfit : W.length ≤ cur.size) (HC : Hid (∀ i, i < W.length → w.cell? ⟨g, i, none⟩ = some (.int .u8 ((W.getD i 0).toNat : Nat)))) :
    Calls Try.prog 41 #[.pointer (some ⟨P, 0, none⟩)] w fun e w' => e = .returned (.tuple #[]) ∧ ∃ w2, w2.heap[g]? = some (.cells (cells (W.drop E) ++ cur.toList.drop (cells (W.drop E)).length).toArray 5 (0, 0)) ∧ Fr (fun k => k = g) w w2 ∧
      w' = ((w2.setCell ⟨P, 6, none⟩ (.slice (some ⟨g, 0, none⟩) (W.length - E) cap)).setCell ⟨P, 7, none⟩ (.int .i64 32768)).setCell ⟨P, 8, none⟩ (.int .i64 ((gone + E : Nat) : Int)) := by
  obtain ⟨L, hL⟩ : ∃ L, L = W.length - E := ⟨_, rfl⟩
  have hL1 : L + E = W.length := by omega
  have hLe : (W.length : Int) - (E : Int) = (L : Int) := by omega
  have HcL : Hid ((cells (W.drop E)).length = L) := by show _ = _; rw [cells_length, List.length_drop]; omega
  have HcN : Hid ((cells (W.drop E)).length = Nat.min L W.length) := by show _ = _; rw [HcL.out]; exact (Nat.min_eq_left (by omega)).symm
  have HSrc : Hid (∀ q, ∀ j v, (cells (W.drop E))[j]? = some v → (w.drewN q).cell? ((⟨g, E, none⟩ : Addr).add j) = some v) := by
    intro q j v hj
    have hadd : (⟨g, E, none⟩ : Addr).add j = ⟨g, E + j, none⟩ := by unfold Addr.add; split <;> simp_all
    rw [hadd]
    have hjl : j < L := by
      have := (List.getElem?_eq_some_iff.1 hj).1
      rw [HcL.out] at this; exact this
    have := HC.out (E + j) (by omega)
    rw [show (w.drewN q).cell? ⟨g, E + j, none⟩ = w.cell? ⟨g, E + j, none⟩ from rfl, this]
    simp only [cells, List.getElem?_map, List.getElem?_drop] at hj
    rw [List.getElem?_eq_getElem (show E + j < W.length by omega)] at hj
    simp only [Option.map_some] at hj
    rw [← hj]
    simp [List.getD_eq_getElem?_getD, List.getElem?_eq_getElem (show E + j < W.length by omega)]
  have HOne : Hid (∀ v ∈ cells (W.drop E), v.oneCell' = true) := by
    intro v hv
    simp only [cells, List.mem_map] at hv
    obtain ⟨c, _, rfl⟩ := hv
    rfl
  have HFit : Hid ((cells (W.drop E)).length ≤ cur.size) := by show _ ≤ _; rw [HcL.out]; omega
  have hE3 : ¬ (E : Int) < 32768 := by omega
  have hE4 : (E : Int) ≤ 10000000 := by omega
  have hEc : (E : Int) < (cap : Int) := by omega
  have hLc : L ≤ cap := by omega
  rw [← hL]
  clear hL HC
  obtain ⟨cs, hcs⟩ : ∃ cs, cs = cells (W.drop E) := ⟨_, rfl⟩
  rw [← hcs] at HcL HcN HSrc HOne HFit ⊢
  clear hcs
  go_enter Try.func41, Try.ntmps41
  go_wp2
  refine wp_quiet_tail 10 (by kernel_rfl) (by kernel_rfl) ?_
  simp only [List.take_succ_cons, List.take_zero, List.drop_succ_cons, List.drop_zero]
  repeat (go_big_quiet_step (fail))
  refine wpQuiet_nil ?_
  intro _ hw'
  obtain ⟨nq2, hw''⟩ := hw'
  subst hw''
  refine wpList_copy_keep rfl (.tmp 14) (.tmp 20) 29 29 rfl 5 Try.underlying29 (by kernel_rfl) g W.length cap ⟨g, E, none⟩ L (cap - E) (by simp [Act.eval, Act.put]) ?_ cur 5 hgc cs HcN.out (HSrc.out nq2) HFit.out HOne.out ?_
  · simp [Act.eval, Act.put]
    omega
  intro w2 HG2 HF2
  rw [HcL.out]
  have kb := HF2.out.keep P hPs hPg
  have k6 := (World.cell?_of_block (a := ⟨P, 6, none⟩) kb).trans c6
  have k7 := (World.cell?_of_block (a := ⟨P, 7, none⟩) kb).trans c7
  have k8 := (World.cell?_of_block (a := ⟨P, 8, none⟩) kb).trans c8
  have kf6 := (World.frozen?_of_block (a := ⟨P, 6, none⟩) kb).trans f6
  have kf7 := (World.frozen?_of_block (a := ⟨P, 7, none⟩) kb).trans f7
  have kf8 := (World.frozen?_of_block (a := ⟨P, 8, none⟩) kb).trans f8
  have hE5 : (at_ : Int) - (E : Int) = 32768 := by omega
  clear kb c6 c7 c8 f6 f7 f8 hgc HcN HSrc HOne HFit
  go_wp2
  go_end0
  refine ⟨rfl, w2, ?_, ?_, ?_⟩
  · rw [HcL.out] at HG2 ⊢; exact HG2.out
  · exact ((Fr.refl _ w).drewN nq2).trans HF2.out (fun _ _ h => h)
  · congr 2

set_option maxRecDepth 100000 in
set_option maxHeartbeats 2000000 in
theorem forget_few (w : World) (P at_ : Nat) (c7 : w.cell? ⟨P, 7, none⟩ = some (.int .i64 at_)) (ha : at_ < 65536) :
    Calls Try.prog 41 #[.pointer (some ⟨P, 0, none⟩)] w fun e w' => e = .returned (.tuple #[]) ∧ w' = w := by
  have h1 : (at_ : Int) - 32768 < 32768 := by omega
  go_enter Try.func41, Try.ntmps41
  go_wp2
  (try simp only [Exit.inBlock, Exit.then])
  refine bodyPost_ret (results_none rfl _ _ _) rfl ?_
  exact ⟨rfl, rfl⟩

/-- Behind a forget. -/
theorem PK.forgot {w w2 : World} {P base g cap E : Nat} {nx vf vs : Value} {F : List UInt8} {H n A B : Nat} {W : List UInt8} {Sn : List Int} {at_ gone : Nat} {cur : Array Value} (h : PK w P base nx vf (.slice (some ⟨g, 0, none⟩) W.length cap) vs F H n A B W Sn at_ gone)
    (hcur : w.heap[g]? = some (.cells cur 5 (0, 0))) (hE : E ≤ W.length)
    (h2 : w2.heap[g]? = some (.cells (cells (W.drop E) ++ cur.toList.drop (cells (W.drop E)).length).toArray 5 (0, 0))) (hF : Fr (fun k => k = g) w w2) (at' gone' : Nat) :
    PK (((w2.setCell ⟨P, 6, none⟩ (.slice (some ⟨g, 0, none⟩) (W.length - E) cap)).setCell ⟨P, 7, none⟩ (.int .i64 at')).setCell ⟨P, 8, none⟩ (.int .i64 gone')) P base nx vf (.slice (some ⟨g, 0, none⟩) (W.length - E) cap) vs F H n A B (W.drop E) Sn at' gone' := by
  have hb := h.bw
  have hp := h.pw
  have hPg : P ≠ g := fun e => hp.nw (by rw [e]; rfl)
  have hblk := hF.keep P hp.hP hPg
  have hcell : ∀ o, w2.cell? ⟨P, o, none⟩ = w.cell? ⟨P, o, none⟩ := fun o => World.cell?_of_block (a := ⟨P, o, none⟩) hblk
  have hfrz : ∀ o, w2.frozen? ⟨P, o, none⟩ = w.frozen? ⟨P, o, none⟩ := fun o => World.frozen?_of_block (a := ⟨P, o, none⟩) hblk
  have hlen : (cells (W.drop E)).length = W.length - E := by rw [cells_length, List.length_drop]
  have hown : w2.ownsRow base 5 1 (.slice (some ⟨g, 0, none⟩) (W.length - E) cap) (W.drop E).length (cells (W.drop E)) := by
    rcases hp.ow.2 with ⟨e, _⟩ | ⟨g', cap', cur', e, a1, a2, a3, a4, a5, _⟩
    · cases e
    · cases e
      rw [hcur] at a2
      cases a2
      refine ⟨by rw [hlen, List.length_drop]; omega, .inr ⟨g, cap, _, by rw [List.length_drop], a1, h2, by rw [List.length_drop]; omega, a4, ?_, ?_⟩⟩
      · simp only [List.size_toArray, List.length_append, List.length_drop, Array.length_toList, hlen]; omega
      · simp only [List.length_drop, Nat.mul_one]
        rw [← hlen]; exact List.take_left
  have hf : w2.ownsRow base 5 1 vf F.length (cells F) := own_same hb.own (fun x hx => hF.keep x (hb.own.lt x hx).2 (fun e => h.dfw x hx (by rw [e]; rfl)))
  have hs : w2.ownsRow base 3 1 vs 4096 (Sn.map (Value.int .i64)) := own_same hp.os (fun x hx => hF.keep x (hp.os.lt x hx).2 (fun e => h.dws g rfl (by rw [hx, e])))
  have hwn : (Value.slice (some ⟨g, 0, none⟩) (W.length - E) cap).ownBlock ≠ some P := hp.nw
  have three : ∀ {v : Value} {e : TypeId} {m : Nat} {xs : List Value}, w2.ownsRow base e 1 v m xs → v.ownBlock ≠ some P → (((w2.setCell ⟨P, 6, none⟩ (.slice (some ⟨g, 0, none⟩) (W.length - E) cap)).setCell ⟨P, 7, none⟩ (.int .i64 at')).setCell ⟨P, 8, none⟩ (.int .i64 gone')).ownsRow base e 1 v m xs :=
    fun ho hne => own_set (own_set (own_set ho hne _ _) hne _ _) hne _ _
  have cellO : ∀ o, o ≠ 6 → o ≠ 7 → o ≠ 8 → (((w2.setCell ⟨P, 6, none⟩ (.slice (some ⟨g, 0, none⟩) (W.length - E) cap)).setCell ⟨P, 7, none⟩ (.int .i64 at')).setCell ⟨P, 8, none⟩ (.int .i64 gone')).cell? ⟨P, o, none⟩ = w.cell? ⟨P, o, none⟩ := by
    intro o a b c
    rw [World.cell?_setCell_other _ _ _ _ (by intro e; cases e; omega), World.cell?_setCell_other _ _ _ _ (by intro e; cases e; omega), World.cell?_setCell_other _ _ _ _ (by intro e; cases e; omega), hcell]
  have frzO : ∀ o, (((w2.setCell ⟨P, 6, none⟩ (.slice (some ⟨g, 0, none⟩) (W.length - E) cap)).setCell ⟨P, 7, none⟩ (.int .i64 at')).setCell ⟨P, 8, none⟩ (.int .i64 gone')).frozen? ⟨P, o, none⟩ = w.frozen? ⟨P, o, none⟩ := by
    intro o
    rw [World.frozen?_setCell, World.frozen?_setCell, World.frozen?_setCell, hfrz]
  have hsz : (((w2.setCell ⟨P, 6, none⟩ (.slice (some ⟨g, 0, none⟩) (W.length - E) cap)).setCell ⟨P, 7, none⟩ (.int .i64 at')).setCell ⟨P, 8, none⟩ (.int .i64 gone')).heap.size = w2.heap.size := by simp [World.setCell]
  refine ⟨⟨?_, ?_, ?_, ?_, ?_, ?_, three hf hb.ne, hb.ne, by rw [hsz]; exact Nat.le_trans hb.hb hF.size, hb.hH⟩, ⟨?_, ?_, ?_, ?_, ?_, three hown hwn, three hs hp.ns, hwn, hp.ns, by rw [hsz]; exact Nat.lt_of_lt_of_le hp.hP hF.size⟩, ?_, ?_, ?_, ?_, h.hn, h.dfw, h.dfs, h.dws⟩
  · rw [cellO 1 (by omega) (by omega) (by omega)]; exact hb.c1
  · rw [cellO 2 (by omega) (by omega) (by omega)]; exact hb.c2
  · rw [cellO 3 (by omega) (by omega) (by omega)]; exact hb.c3
  · rw [frzO]; exact hb.f1
  · rw [frzO]; exact hb.f2
  · rw [frzO]; exact hb.f3
  · rw [World.cell?_setCell_other _ _ _ _ (by simp), World.cell?_setCell_other _ _ _ _ (by simp)]
    exact World.cell?_setCell_same _ _ _ (by rw [hcell]; exact hp.c6)
  · rw [World.cell?_setCell_other _ _ _ _ (by simp)]
    exact World.cell?_setCell_same (u := .int .i64 at_) _ _ _ (by rw [World.cell?_setCell_other _ _ _ _ (by simp), hcell]; exact hp.c7)
  · exact World.cell?_setCell_same (u := .int .i64 gone) _ _ _ (by rw [World.cell?_setCell_other _ _ _ _ (by simp), World.cell?_setCell_other _ _ _ _ (by simp), hcell]; exact hp.c8)
  · rw [cellO 9 (by omega) (by omega) (by omega)]; exact hp.c9
  · rw [frzO]; exact hp.f7
  · rw [cellO 0 (by omega) (by omega) (by omega)]; exact h.c0
  · rw [cellO 4 (by omega) (by omega) (by omega)]; exact h.c4
  · rw [cellO 5 (by omega) (by omega) (by omega)]; exact h.c5
  · intro o; rw [frzO]; exact h.fz o

theorem forget_any (w : World) (P base : Nat) (nx vf vw vs : Value) (F : List UInt8) (H n A B : Nat) (W : List UInt8) (Sn : List Int) (at_ gone : Nat) (h : PK w P base nx vf vw vs F H n A B W Sn at_ gone) (ha : at_ ≤ W.length) (hW : W.length ≤ 10000000) (hg : gone ≤ 10000000) :
    Calls Try.prog 41 #[.pointer (some ⟨P, 0, none⟩)] w fun e w' => e = .returned (.tuple #[]) ∧ ∃ vw' x, x = (if at_ < 65536 then 0 else at_ - 32768) ∧ x ≤ at_ ∧ PK w' P base nx vf vw' vs F H n A B (W.drop x) Sn (at_ - x) (gone + x) ∧ (x = 0 ∨ 32768 ≤ at_ - x) ∧ vw'.ownBlock = vw.ownBlock ∧
      Fr (fun k => k = P ∨ vw.ownBlock = some k) w w' := by
  by_cases h6 : at_ < 65536
  · refine (forget_few w P at_ h.pw.c7 h6).mono ?_
    rintro e w' ⟨rfl, rfl⟩
    exact ⟨rfl, vw, 0, by rw [if_pos h6], by omega, by simpa using h, .inl rfl, rfl, Fr.refl _ _⟩
  · obtain ⟨g, cap, hv, hle, hb, hcell⟩ := row_at h.pw.ow (by omega)
    subst hv
    have hP := h.pw.hP
    obtain ⟨cur, hcur, hcs, hcm⟩ : ∃ cur, w.heap[g]? = some (.cells cur 5 (0, 0)) ∧ cur.size = cap ∧ cap ≤ 9223372036854775807 := by
      rcases h.pw.ow.2 with ⟨e, _⟩ | ⟨g', cap', cur', e, a1, a2, a3, a4, a5, _⟩
      · cases e
      · cases e; exact ⟨cur', a2, by simpa using a5, a4⟩
    have hPg : P ≠ g := fun e => h.pw.nw (by rw [e]; rfl)
    obtain ⟨E, hE⟩ : ∃ E, E = at_ - 32768 := ⟨_, rfl⟩
    refine (forget_core w P g cap W at_ gone E cur h.pw.c6 h.pw.c7 h.pw.c8 (h.fz 6) (h.fz 7) (h.fz 8) (by omega) (by omega) ha hW hg hle hcm hPg hP hcur (by omega) hcell).mono ?_
    rintro e w' ⟨rfl, w2, h2, hF2, hw⟩
    have e32 : (32768 : Int) = ((at_ - E : Nat) : Int) := by omega
    rw [e32] at hw
    have hK := h.forgot (E := E) hcur (by omega) h2 hF2 (at_ - E) (gone + E)
    rw [← hw] at hK
    refine ⟨rfl, _, E, by rw [if_neg h6]; exact hE, by omega, hK, .inr (by omega), rfl, ?_⟩
    rw [hw]
    have hs3 := (((fr_set w2 P 6 (.slice (some ⟨g, 0, none⟩) (W.length - E) cap)).trans (fr_set _ P 7 (.int .i64 ((at_ - E : Nat) : Int))) (fun _ _ e => e)).trans (fr_set _ P 8 (.int .i64 ((gone + E : Nat) : Int))) (fun _ _ e => e))
    exact (hF2.mono (fun k e => .inr (by rw [e]; rfl))).trans hs3 (fun k _ e => .inl e)
end Go.Proofs.Ytbklfkpjoinofaa
