import Derived.Test.YtbklfkpjoinofaaRef4
import Derived.Test.YtbklfkpjoinofaaOwn
set_option linter.unusedVariables false
set_option linter.unusedSimpArgs false
namespace Go.Proofs.Ytbklfkpjoinofaa
open Go.RowKit

theorem RB.kept {w w' : World} {b : Nat} {s : ByteArray} {p : Nat} {bad : Bool} (h : RB w b s p bad) (k : Below (b + 1) w w') : RB w' b s p bad :=
  ⟨by rw [k.cell (Nat.lt_succ_self b)]; exact h.c0, by rw [k.cell (Nat.lt_succ_self b)]; exact h.c1, by rw [k.cell (Nat.lt_succ_self b)]; exact h.c2,
   by rw [k.frozen (Nat.lt_succ_self b)]; exact h.f1, by rw [k.frozen (Nat.lt_succ_self b)]; exact h.f2⟩

theorem reflength_all (w : World) (c : Nat) (h1 : 257 ≤ c) (h2 : c ≤ 285) :
    Calls Try.prog 23 #[.int .i64 c] w fun e w' => e = .returned (.tuple #[.int .i64 (Pm.lenStart c : Nat), .int .i64 (Pm.lenBits c : Nat)]) ∧ w' = w := by
  by_cases h : c = 285
  · subst h; exact reflength_285 w
  · exact reflength_any w c h1 (by omega)

/-- How a part of the reference ends: res is what the document says of it. -/
def RefEnd (w0 : World) (b : Nat) (s : ByteArray) (res : Option (Nat × List UInt8)) (v : Value) (w' : World) : Prop :=
  ∃ p' bad' out', RB w' b s p' bad' ∧ p' ≤ 8 * s.size ∧ Out w' b v out' ∧ Below b w0 w' ∧ out'.length ≤ 1200000 ∧
    ((bad' = false ∧ out'.length ≤ 1048576 ∧ res = some (p', out')) ∨ ((bad' = true ∨ 1048576 < out'.length) ∧ res = none))

set_option maxRecDepth 100000 in
set_option maxHeartbeats 1000000 in
theorem refcoded_any (w : World) (b : Nat) (s : ByteArray) (p : Nat) (v : Value) (out : List UInt8) (h : RB w b s p false) (hO : Out w b v out) (hl : out.length ≤ 1048576) (hs : s.size ≤ 140737488355328) (hp : p ≤ 8 * s.size)
    (f : Nat) (hf : 8 * s.size < p + f) :
    Calls Try.prog 14 #[.pointer (some ⟨b, 0, none⟩), v] w fun e w' => ∃ v', e = .returned v' ∧ RefEnd w b s (Pm.codedM s.data.toList f p out) v' w' := by
  have hlen : s.data.toList.length = s.size := by simp
  have HL : Hid (8 * s.size = 8 * s.data.toList.length) := by show _ = _; rw [hlen]
  clear hlen
  generalize hres : Pm.codedM s.data.toList f p out = res
  have HR : Hid (Pm.codedM s.data.toList f p out = res) := hres
  clear hres
  go_enter Try.func14, Try.ntmps14
  go_wp2
  go_loopg [1] (8 * s.size + 2) (fun g u wr => ∃ q bd o, RB wr b s q bd ∧ q ≤ 8 * s.size ∧ Out wr b u o ∧ Below b w wr ∧ o.length ≤ 1200000 ∧ 8 * s.size + 1 - q ≤ g ∧
    ((bd = false ∧ o.length ≤ 1048576 ∧ ∃ f', 8 * s.size < q + f' ∧ Pm.codedM s.data.toList f' q o = res) ∨ ((bd = true ∨ 1048576 < o.length) ∧ res = none)))
  case atStart => exact ⟨p, false, out, h, hp, hO, Below.refl _ _, by omega, by omega, Or.inl ⟨rfl, hl, f, hf, HR.out⟩⟩
  case round =>
    clear hf HR h hO hl
    obtain ⟨q, bd, o, hr, hq, ho, hb, hol, hg, hcase⟩ := hrel
    have r0 := hr.c0
    have r1 := hr.c1
    have r2 := hr.c2
    obtain ⟨ad, cap, hform, hnone⟩ := ho.form
    subst hform
    by_cases hlive : bd = false ∧ o.length ≤ 1048576
    · obtain ⟨rfl, hlo⟩ := hlive
      have hcase' : ∃ f', 8 * s.size < q + f' ∧ Pm.codedM s.data.toList f' q o = res := by
        rcases hcase with ⟨_, _, hh⟩ | ⟨hh | hh, _⟩
        · exact hh
        · cases hh
        · omega
      clear hcase
      have HC : Hid (∃ f', 8 * s.size < q + f' ∧ Pm.codedM s.data.toList f' q o = res) := hcase'
      clear hcase' hnone
      go_wp2_with fail
      refine (symbol_any wr b s q false hr hs hq).mono ?_
      rintro e w1 ⟨rfl, hr1, ho1⟩
      have hwd := Pm.symV_w s.data.toList q
      have hcc := Pm.symV_c s.data.toList q
      by_cases hend : 8 * s.size < q + (Pm.symV s.data.toList q).2
      · -- the bits have ended
        have HN : Hid (res = none) := Pm.coded_none hq HC.out (Pm.stepM_bad (by rw [← HL.out]; exact hend))
        have e1 : min (q + (Pm.symV s.data.toList q).2) (8 * s.size) = 8 * s.size := by omega
        have e2 : (false || decide (8 * s.size < q + (Pm.symV s.data.toList q).2)) = true := by simp; omega
        rw [e1, e2] at hr1
        clear e1 e2 HC
        have t2 := hr1.c2
        generalize (Pm.symV s.data.toList q).1 = c at *
        generalize (Pm.symV s.data.toList q).2 = wd at *
        go_wp2
        go_ret
        exact ⟨_, rfl, _, _, _, hr1, Nat.le_refl _, ho.only ho1, hb.trans (ho1.below hr.lt), hol, Or.inr ⟨Or.inl rfl, HN.out⟩⟩
      · have e1 : min (q + (Pm.symV s.data.toList q).2) (8 * s.size) = q + (Pm.symV s.data.toList q).2 := by omega
        have e2 : (false || decide (8 * s.size < q + (Pm.symV s.data.toList q).2)) = false := by simp; omega
        rw [e1, e2] at hr1
        clear e1 e2
        have hend' : q + (Pm.symV s.data.toList q).2 ≤ 8 * s.data.toList.length := by rw [← HL.out]; omega
        have t2 := hr1.c2
        by_cases h256 : (Pm.symV s.data.toList q).1 = 256
        · have HN : Hid (res = some (q + (Pm.symV s.data.toList q).2, o)) := Pm.coded_end hq HC.out (Pm.stepM_end hend' h256)
          clear HC hend'
          generalize (Pm.symV s.data.toList q).1 = c at *
          generalize (Pm.symV s.data.toList q).2 = wd at *
          subst h256
          go_wp2
          go_ret
          exact ⟨_, rfl, _, _, _, hr1, by omega, ho.only ho1, hb.trans (ho1.below hr.lt), hol, Or.inl ⟨rfl, hlo, HN.out⟩⟩
        · by_cases hlt : (Pm.symV s.data.toList q).1 < 256
          · -- a byte
            have HB : Hid (o.length + 1 ≤ 1048576 → ∃ f', 8 * s.size < q + (Pm.symV s.data.toList q).2 + f' ∧ Pm.codedM s.data.toList f' (q + (Pm.symV s.data.toList q).2) (o ++ [UInt8.ofNat (Pm.symV s.data.toList q).1]) = res) :=
              fun hh => Pm.coded_go hq HC.out (Pm.stepM_byte hend' hlt hh) (by omega)
            have HN : Hid (1048576 < o.length + 1 → res = none) := fun hh => Pm.coded_none hq HC.out (Pm.stepM_full hlt hh)
            clear HC hend'
            generalize (Pm.symV s.data.toList q).1 = c at *
            generalize (Pm.symV s.data.toList q).2 = wd at *
            have hO1 := ho.only ho1
            have hub : (UInt8.ofNat c).toNat = c := by simp; omega
            have HCell : Hid ((w1.alloc (.cells #[.int .u8 c] 5)).cell? ⟨w1.heap.size, 0, none⟩ = some (.int .u8 ((UInt8.ofNat c).toNat : Nat))) := by
              show _ = _
              rw [hub]; simp
            clear hub
            go_wp2_with (at_builtin; refine wpList_byte rfl (.tmp 35) (.tmp 38) 29 rfl Try.underlying29 b _ o rfl (hO1.alloc _) ⟨w1.heap.size, 0, none⟩ 1 rfl (UInt8.ofNat c) HCell.out rfl (by omega) ?_)
            intro v' w2 hO2 hb2
            go_wp2
            go_roundg (gk - 1)
            case measure => omega
            case rel =>
              refine ⟨q + wd, false, o ++ [UInt8.ofNat c], (hr1.kept ?_).kept hb2, by omega, hO2, ?_, by simp; omega, by omega, ?_⟩
              · exact (Below.refl _ _).alloc hO1.base _
              · exact ((hb.trans (ho1.below hr.lt)).trans ((Below.refl _ _).alloc (Nat.le_of_lt hO1.base) _)).trans (hb2.mono (Nat.le_succ b))
              · by_cases hh : o.length + 1 ≤ 1048576
                · exact Or.inl ⟨rfl, by simp; omega, HB.out hh⟩
                · exact Or.inr ⟨Or.inr (by simp; omega), HN.out (by omega)⟩
          · -- bytes that come again
            have hc1 : 257 ≤ (Pm.symV s.data.toList q).1 := by omega
            have HNo : Hid (Pm.againM s.data.toList (q + (Pm.symV s.data.toList q).2) (Pm.symV s.data.toList q).1 o = none → res = none) :=
              fun hh => Pm.coded_none hq HC.out (Pm.stepM_not (by omega) hh)
            have HGo : Hid (∀ r, Pm.againM s.data.toList (q + (Pm.symV s.data.toList q).2) (Pm.symV s.data.toList q).1 o = some r → ∃ f', 8 * s.size < r.1 + f' ∧ Pm.codedM s.data.toList f' r.1 r.2 = res) :=
              fun r hh => Pm.coded_go hq HC.out (Pm.stepM_again hend' (by omega) hh) (by have := (Pm.againM_some (q' := r.1) (o := r.2) hh).1; omega)
            clear HC hend'
            generalize (Pm.symV s.data.toList q).1 = c at *
            generalize (Pm.symV s.data.toList q).2 = wd at *
            have hO1 := ho.only ho1
            have hb1 := hb.trans (ho1.below hr.lt)
            clear ho1 ho hb r0 r1 r2 hr
            by_cases h285 : 285 < c
            · have HN : Hid (res = none) := HNo.out (by unfold Pm.againM; rw [if_pos h285])
              have tf := hr1.f2
              go_wp2
              go_ret
              exact ⟨_, rfl, _, _, _, hr1.spoil true, by omega, hO1.only ((Only.refl b _).setCell _ _), hb1.setCell (Nat.le_refl b) _, hol, Or.inr ⟨Or.inl rfl, HN.out⟩⟩
            · have HNo1 := hide (fun hh => HNo.out (Pm.again_no1 (q := q + wd) (out := o) HL.out hc1 hh))
              have HNo2 := hide (fun hh => HNo.out (Pm.again_no2 (q := q + wd) (c := c) (out := o) HL.out hh))
              have HYes := hide (fun n1 n2 => Pm.again_yes (q := q + wd) (c := c) (out := o) HL.out hc1 (by omega) n1 n2)
              have hlb := Pm.lenBits_le c (by omega) hc1
              have hE := hlb.1
              have hA := hlb.2.2
              have hX := Pm.lowV_lt s.data.toList (q + wd) (Pm.lenBits c)
              have hF := two_le (Pm.lenBits c) 5 hE (by omega)
              go_wp2_with fail
              refine (reflength_all _ c hc1 (by omega)).mono ?_
              rintro e w2 ⟨rfl, rfl⟩
              go_wp2_with fail
              refine (low_any _ b s _ _ (Pm.lenBits c) (by omega) hr1 hs (by omega)).mono ?_
              rintro e w3 ⟨rfl, hr3, ho3⟩
              go_wp2_with fail
              refine (high_any _ b s _ _ 5 (by omega) hr3 hs (by omega)).mono ?_
              rintro e w4 ⟨rfl, hr4, ho4⟩
              rw [Bool.false_or] at hr4
              have hv5 : Pm.highV s.data.toList (min (q + wd + Pm.lenBits c) (8 * s.size)) 5 < 32 := Pm.highV_lt _ _ 5
              have hO4 := (hO1.only ho3).only ho4
              have hb4 := (hb1.trans (ho3.below hr1.lt)).trans (ho4.below hr3.lt)
              have hq4 : min (min (q + wd + Pm.lenBits c) (8 * s.size) + 5) (8 * s.size) ≤ 8 * s.size := by omega
              clear hr3 hr1 ho3 ho4 hO1 hb1
              generalize Pm.highV s.data.toList (min (q + wd + Pm.lenBits c) (8 * s.size)) 5 = v5 at *
              generalize Pm.lowV s.data.toList (q + wd) (Pm.lenBits c) = X at *
              generalize Pm.lenStart c = A at *
              generalize Pm.lenBits c = E at *
              have hX2 : A + X ≤ 258 := by omega
              clear hlb hX hF
              by_cases t1 : 29 < v5
              · have HN : Hid (res = none) := HNo1.out (Or.inl t1)
                have tf := hr4.f2
                have tc := hr4.c2
                go_wp2
                go_ret
                exact ⟨_, rfl, _, _, _, hr4.spoil true, hq4, hO4.only ((Only.refl b _).setCell _ _), hb4.setCell (Nat.le_refl b) _, hol, Or.inr ⟨Or.inl rfl, HN.out⟩⟩
              · by_cases t2 : c = 284 ∧ 258 ≤ A + X
                · have HN : Hid (res = none) := HNo1.out (Or.inr t2)
                  have tf := hr4.f2
                  have tc := hr4.c2
                  obtain ⟨rfl, t3⟩ := t2
                  have t5 : ((A : Int) + (X : Int) == 258) = true := by rw [beq_iff_eq]; omega
                  go_wp2
                  go_ret
                  exact ⟨_, rfl, _, _, _, hr4.spoil true, hq4, hO4.only ((Only.refl b _).setCell _ _), hb4.setCell (Nat.le_refl b) _, hol, Or.inr ⟨Or.inl rfl, HN.out⟩⟩
                · have t1n : v5 ≤ 29 := by omega
                  have hdb := Pm.distBits_le v5 (by omega)
                  have hY := Pm.lowV_lt s.data.toList (min (min (q + wd + E) (8 * s.size) + 5) (8 * s.size)) (Pm.distBits v5)
                  have hDB := hdb.1
                  have hD1 := hdb.2.1
                  have hD2 : Pm.distStart v5 + Pm.lowV s.data.toList (min (min (q + wd + E) (8 * s.size) + 5) (8 * s.size)) (Pm.distBits v5) ≤ 32768 := by omega
                  clear hdb hY
                  have HNT : Hid (¬ (29 < v5 ∨ c = 284 ∧ 258 ≤ A + X)) := by rintro (hh | hh); exact t1 hh; exact t2 hh
                  have t2b : ¬ (c = 284 ∧ A + X = 258) := by omega
                  clear HNo1 t2 t1
                  rcases (show (¬ c = 284) ∨ (c = 284 ∧ ¬ A + X = 258) from by omega) with t2c | ⟨rfl, t2d⟩
                  rotate_left
                  have t2c : ((A : Int) + (X : Int) == 258) = false := by rw [beq_eq_false_iff_ne]; omega
                  all_goals
                    go_wp2_with fail
                    refine (refdistance_any _ v5 (by omega)).mono ?_
                    rintro e w5 ⟨rfl, rfl⟩
                    go_wp2_with fail
                    refine (low_any _ b s _ _ (Pm.distBits v5) (by omega) hr4 hs hq4).mono ?_
                    rintro e w6 ⟨rfl, hr6, ho6⟩
                    have hO6 := hO4.only ho6
                    have hb6 := hb4.trans (ho6.below hr4.lt)
                    have hq6 : min (min (min (q + wd + E) (8 * s.size) + 5) (8 * s.size) + Pm.distBits v5) (8 * s.size) ≤ 8 * s.size := Nat.min_le_right _ _
                    have tc := hr6.c2
                    have tf := hr6.f2
                    generalize Pm.lowV s.data.toList (min (min (q + wd + E) (8 * s.size) + 5) (8 * s.size)) (Pm.distBits v5) = Y at *
                    generalize Pm.distStart v5 = D at *
                    generalize Pm.distBits v5 = G at *
                    generalize hbd : (decide (8 * s.size < q + wd + E) || decide (8 * s.size < min (q + wd + E) (8 * s.size) + 5) || decide (8 * s.size < min (min (q + wd + E) (8 * s.size) + 5) (8 * s.size) + G)) = bd at *
                    clear hbd
                    cases bd with
                    | true =>
                      have HN : Hid (res = none) := HNo2.out (Or.inl rfl)
                      go_wp2
                      go_ret
                      exact ⟨_, rfl, _, _, _, hr6.spoil true, hq6, hO6.only ((Only.refl b _).setCell _ _), hb6.setCell (Nat.le_refl b) _, hol, Or.inr ⟨Or.inl rfl, HN.out⟩⟩
                    | false =>
                      by_cases t6 : o.length < D + Y
                      · have HN : Hid (res = none) := HNo2.out (Or.inr t6)
                        go_wp2
                        go_ret
                        exact ⟨_, rfl, _, _, _, hr6.spoil true, hq6, hO6.only ((Only.refl b _).setCell _ _), hb6.setCell (Nat.le_refl b) _, hol, Or.inr ⟨Or.inl rfl, HN.out⟩⟩
                      · have hd1 : 1 ≤ D + Y := by omega
                        have H8 := HYes.out HNT.out (by rintro (hh | hh); cases hh; exact t6 hh)
                        have HT := hide H8
                        have HDY : Hid (D + Y ≤ o.length) := Nat.le_of_not_lt t6
                        clear H8 HNo2 HYes HNT
                        have hDY := HDY.out
                        go_wp2
                        obtain ⟨gkO, hgkO⟩ : ∃ x, x = gk := ⟨_, rfl⟩
                        subst hgkO
                        go_loopg [1, 11] (A + X) (fun g u i wr' => ∃ k : Nat, k ≤ A + X ∧ A + X - k ≤ g ∧ i = .int .i64 k ∧ Out wr' b u (Pm.copyV o (D + Y) k) ∧ Below (b + 1) w6 wr')
                        case atStart => exact ⟨0, by omega, by omega, rfl, hO6, Below.refl _ _⟩
                        case round =>
                          obtain ⟨k, hk1, hk2, rfl, hOk, hbk⟩ := hrel
                          have HCS := hide (Pm.copyV_succ o (D + Y) k)
                          have hM := Pm.copyV_length o (D + Y) k
                          have HDone : Hid (k = A + X → Out _ b _ (Pm.copyV o (D + Y) (A + X))) := fun hh => hh ▸ hOk
                          by_cases hkl : k < A + X
                          · clear HDone
                            generalize Pm.copyV o (D + Y) k = o2 at *
                            have hM1 : o2.length ≤ o.length + k := by omega
                            have hM2 : o.length + k ≤ o2.length := by omega
                            clear hM
                            obtain ⟨gb, cap2, hv2, hcell, hgb⟩ := hOk.at (o2.length - (D + Y)) (by omega)
                            subst hv2
                            generalize o2.getD (o2.length - (D + Y)) 0 = cc at *
                            have HCell : Hid ((wr.alloc (.cells #[.int .u8 (cc.toNat : Nat)] 5)).cell? ⟨wr.heap.size, 0, none⟩ = some (.int .u8 (cc.toNat : Nat))) := by
                              show _ = _
                              simp
                            go_wp2_with (at_builtin; refine wpList_byte rfl (.tmp 103) (.tmp 111) 29 rfl Try.underlying29 b _ o2 rfl (hOk.alloc _) ⟨wr.heap.size, 0, none⟩ 1 rfl cc HCell.out rfl (by omega) ?_)
                            intro v' w7 hO7 hb7
                            go_wp2
                            go_roundg (gk - 1)
                            case measure => omega
                            case rel =>
                              refine ⟨k + 1, by omega, by omega, by go_num, ?_, ?_⟩
                              · rw [HCS.out]; exact hO7
                              · exact (hbk.trans ((Below.refl _ _).alloc hOk.base _)).trans hb7
                          · have hke : k = A + X := by omega
                            have hOD := HDone.out hke
                            have hMD := Pm.copyV_length o (D + Y) (A + X)
                            subst hke
                            clear HCS hM HDone
                            go_wp2
                            go_roundg (gkO - 1)
                            case measure => omega
                            case rel =>
                              refine ⟨_, false, _, hr6.kept hbk, hq6, hOD, hb6.trans (hbk.mono (Nat.le_succ b)), by omega, ?_, ?_⟩
                              · omega
                              · by_cases hh : o.length + (A + X) ≤ 1048576
                                · exact Or.inl ⟨rfl, by omega, HGo.out _ (HT.out.2 hh)⟩
                                · exact Or.inr ⟨Or.inr (by omega), HNo.out (HT.out.1 (by omega))⟩
    · have hN : res = none := by
        rcases hcase with ⟨g1, g2, _⟩ | ⟨_, hh⟩
        · exact absurd ⟨g1, g2⟩ hlive
        · exact hh
      have HN : Hid (res = none) := hN
      have hdead : bd = true ∨ 1048576 < o.length := by
        cases bd
        · right; exact Nat.lt_of_not_le (fun hh => hlive ⟨rfl, hh⟩)
        · left; rfl
      have HD : Hid (bd = true ∨ 1048576 < o.length) := hdead
      clear hN hcase hlive hnone
      cases bd with
      | true =>
        clear hdead HD
        go_wp2
        go_ret
        exact ⟨_, rfl, _, _, _, hr, hq, ho, hb, hol, Or.inr ⟨Or.inl rfl, HN.out⟩⟩
      | false =>
        have h5 : 1048576 < o.length := by rcases hdead with hh | hh; cases hh; exact hh
        clear hdead HD
        go_wp2
        go_ret
        exact ⟨_, rfl, _, _, _, hr, hq, ho, hb, hol, Or.inr ⟨Or.inr h5, HN.out⟩⟩
end Go.Proofs.Ytbklfkpjoinofaa
