import Derived.Test.YtjdnceekakgnlaaPk3
set_option linter.unusedVariables false
set_option linter.unusedSimpArgs false
namespace Go.Proofs.Ytjdnceekakgnlaa
open Go.RowKit

theorem wpList_copy_keep {P : Program} {w : World} {ops : Array Oper} {rest : List Oper} {o : Oper} {a : Act} {Q : Exit → Act → World → Prop} (hgd : o.guard = none) (d s : Operand) (dT sT : TypeId)
    (ho : o.op = .call { callee := .builtin .copy, args := #[d, s], argTypes := #[dT, sT] }) (elem : TypeId) (hu : P.underlying dT = some (.slice elem)) (hsz : (P.info? elem).map (·.size) = some 1)
    (g dLen dCap : Nat) (ad : Addr) (sLen sCap : Nat) (hd : a.eval d = .slice (some ⟨g, 0, none⟩) dLen dCap) (hs : a.eval s = .slice (some ad) sLen sCap)
    (cur : Array Value) (t : TypeId) (hg : w.heap[g]? = some (.cells cur t (0, 0))) (cs : List Value) (hn : cs.length = Nat.min sLen dLen)
    (hsrc : ∀ j v, cs[j]? = some v → w.cell? (ad.add j) = some v) (hfit : cs.length ≤ cur.size) (h1 : ∀ v ∈ cs, v.oneCell' = true)
    (h : ∀ w', Hid (w'.heap[g]? = some (.cells (cs ++ cur.toList.drop cs.length).toArray t (0, 0))) → Hid (Fr (fun k => k = g) w w') → wpList P ops Q rest (a.put o.dst (goInt cs.length)) w') : wpList P ops Q (o :: rest) a w := by
  refine wpList_copy_own hgd d s dT sT ho elem hu hsz g 0 dLen dCap ad sLen sCap hd hs cur t hg cs hn hsrc (by omega) h1 (h _ ?_ ?_)
  · show _ = _
    rw [setRow_heap w g cur _ t _ hg]
    simp
  · exact ⟨rfl, rfl, rfl, by simp [World.setRow], fun k _ hb => setRow_other w g k _ hb⟩

set_option maxRecDepth 100000 in
set_option maxHeartbeats 2000000 in
theorem forget_core (w : World) (P g cap : Nat) (W : List UInt8) (at_ gone E : Nat) (cur : Array Value)
    (c6 : w.cell? ⟨P, 6, none⟩ = some (.slice (some ⟨g, 0, none⟩) W.length cap)) (c7 : w.cell? ⟨P, 7, none⟩ = some (.int .i64 at_)) (c8 : w.cell? ⟨P, 8, none⟩ = some (.int .i64 gone))
    (f6 : w.frozen? ⟨P, 6, none⟩ = false) (f7 : w.frozen? ⟨P, 7, none⟩ = false) (f8 : w.frozen? ⟨P, 8, none⟩ = false)
    (hE : (at_ : Int) - 32768 = (E : Int)) (hE2 : 32768 ≤ E) (ha : at_ ≤ W.length) (hW : W.length ≤ 10000000) (hg : gone ≤ 10000000) (hcap : W.length ≤ cap) (hcm : cap ≤ 9223372036854775807) (hPg : P ≠ g) (hPs : P < w.heap.size)
    (hgc : w.heap[g]? = some (.cells cur 5 (0, 0))) (hfit : W.length ≤ cur.size) (HC : Hid (∀ i, i < W.length → w.cell? ⟨g, i, none⟩ = some (.int .u8 ((W.getD i 0).toNat : Nat)))) :
    Calls Try.prog 41 #[.pointer (some ⟨P, 0, none⟩)] w fun e w' => e = .returned (.tuple #[]) ∧ ∃ w2, w2.heap[g]? = some (.cells (cells (W.drop E) ++ cur.toList.drop (cells (W.drop E)).length).toArray 5 (0, 0)) ∧ Fr (fun k => k = g) w w2 ∧
      w' = ((w2.setCell ⟨P, 6, none⟩ (.slice (some ⟨g, 0, none⟩) (W.length - E) cap)).setCell ⟨P, 7, none⟩ (.int .i64 32768)).setCell ⟨P, 8, none⟩ (.int .i64 ((gone + E : Nat) : Int)) := by
  obtain ⟨L, hL⟩ : ∃ L, L = W.length - E := ⟨_, rfl⟩
  have hL1 : L + E = W.length := by omega
  have hLe : (W.length : Int) - (E : Int) = (L : Int) := by omega
  have HcL : Hid ((cells (W.drop E)).length = L) := by show _ = _; rw [cells_length, List.length_drop]; omega
  have HcN : Hid ((cells (W.drop E)).length = Nat.min L W.length) := by show _ = _; rw [HcL.out]; exact (Nat.min_eq_left (by omega)).symm
  have HSrc : Hid (∀ q, ∀ j v, (cells (W.drop E))[j]? = some v → (w.drewN q).cell? ((⟨g, E, none⟩ : Addr).add j) = some v) := by
    intro q j v hj
    have hadd : (⟨g, E, none⟩ : Addr).add j = ⟨g, E + j, none⟩ := by unfold Addr.add; split <;> simp_all
    rw [hadd]
    have hjl : j < L := by
      have := (List.getElem?_eq_some_iff.1 hj).1
      rw [HcL.out] at this; exact this
    have := HC.out (E + j) (by omega)
    rw [show (w.drewN q).cell? ⟨g, E + j, none⟩ = w.cell? ⟨g, E + j, none⟩ from rfl, this]
    simp only [cells, List.getElem?_map, List.getElem?_drop] at hj
    rw [List.getElem?_eq_getElem (show E + j < W.length by omega)] at hj
    simp only [Option.map_some] at hj
    rw [← hj]
    simp [List.getD_eq_getElem?_getD, List.getElem?_eq_getElem (show E + j < W.length by omega)]
  have HOne : Hid (∀ v ∈ cells (W.drop E), v.oneCell' = true) := by
    intro v hv
    simp only [cells, List.mem_map] at hv
    obtain ⟨c, _, rfl⟩ := hv
    rfl
  have HFit : Hid ((cells (W.drop E)).length ≤ cur.size) := by show _ ≤ _; rw [HcL.out]; omega
  have hE3 : ¬ (E : Int) < 32768 := by omega
  have hE4 : (E : Int) ≤ 10000000 := by omega
  have hEc : (E : Int) < (cap : Int) := by omega
  have hLc : L ≤ cap := by omega
  rw [← hL]
  clear hL HC
  obtain ⟨cs, hcs⟩ : ∃ cs, cs = cells (W.drop E) := ⟨_, rfl⟩
  rw [← hcs] at HcL HcN HSrc HOne HFit ⊢
  clear hcs
  go_enter Try.func41, Try.ntmps41
  go_wp2
  refine wp_quiet_tail 10 (by kernel_rfl) (by kernel_rfl) ?_
  simp only [List.take_succ_cons, List.take_zero, List.drop_succ_cons, List.drop_zero]
  repeat (go_big_quiet_step (fail))
  refine wpQuiet_nil ?_
  intro _ hw'
  obtain ⟨nq2, hw''⟩ := hw'
  subst hw''
  refine wpList_copy_keep rfl (.tmp 14) (.tmp 20) 29 29 rfl 5 Try.underlying29 (by kernel_rfl) g W.length cap ⟨g, E, none⟩ L (cap - E) (by simp [Act.eval, Act.put]) ?_ cur 5 hgc cs HcN.out (HSrc.out nq2) HFit.out HOne.out ?_
  · simp [Act.eval, Act.put]
    omega
  intro w2 HG2 HF2
  rw [HcL.out]
  have kb := HF2.out.keep P hPs hPg
  have k6 := (World.cell?_of_block (a := ⟨P, 6, none⟩) kb).trans c6
  have k7 := (World.cell?_of_block (a := ⟨P, 7, none⟩) kb).trans c7
  have k8 := (World.cell?_of_block (a := ⟨P, 8, none⟩) kb).trans c8
  have kf6 := (World.frozen?_of_block (a := ⟨P, 6, none⟩) kb).trans f6
  have kf7 := (World.frozen?_of_block (a := ⟨P, 7, none⟩) kb).trans f7
  have kf8 := (World.frozen?_of_block (a := ⟨P, 8, none⟩) kb).trans f8
  have hE5 : (at_ : Int) - (E : Int) = 32768 := by omega
  clear kb c6 c7 c8 f6 f7 f8 hgc HcN HSrc HOne HFit
  go_wp2
  go_end0
  refine ⟨rfl, w2, ?_, ?_, ?_⟩
  · rw [HcL.out] at HG2 ⊢; exact HG2.out
  · exact ((Fr.refl _ w).drewN nq2).trans HF2.out (fun _ _ h => h)
  · congr 2
end Go.Proofs.Ytjdnceekakgnlaa
