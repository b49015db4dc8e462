import Derived.Test.YtbklfkpjoinofaaRef5
import Derived.Test.YtbklfkpjoinofaaNum2
import Derived.Deep.RegionHeldLaw
set_option linter.unusedVariables false
set_option linter.unusedSimpArgs false
namespace Go.Proofs.Ytbklfkpjoinofaa
open Go.RowKit

set_option maxRecDepth 100000 in
set_option maxHeartbeats 1000000 in
/-- A block that can't be stored: the reference says that it is bad, whatever. -/
theorem refstored_any (w : World) (b : Nat) (s : ByteArray) (p : Nat) (bad : Bool) (v : Value) (out : List UInt8) (h : RB w b s p bad) (hO : Out w b v out) (hl : out.length ≤ 1048576) (hs : s.size ≤ 140737488355328) (hp : p ≤ 8 * s.size) :
    Calls Try.prog 13 #[.pointer (some ⟨b, 0, none⟩), v] w fun e w' => ∃ v', e = .returned v' ∧ RefEnd w b s (if bad then none else Pm.plainR s.data.toList p out) v' w' := by
  have hlen : s.data.toList.length = s.size := by simp
  have HL : Hid (8 * s.size = 8 * s.data.toList.length) := by show _ = _; rw [hlen]
  clear hlen
  have hup : p ≤ up8 p ∧ up8 p ≤ 8 * s.size ∧ up8 p % 8 = 0 := by unfold up8; omega
  generalize hres : (if bad then none else Pm.plainR s.data.toList p out) = res
  have HR := hide hres
  clear hres
  obtain ⟨ad, cap, hform, hnone⟩ := hO.form
  subst hform
  go_enter Try.func13, Try.ntmps13
  go_wp2_with fail
  refine (whole_any w b s p bad h hs hp).mono ?_
  rintro e w1 ⟨rfl, hr1, ho1⟩
  generalize hP : up8 p = P at *
  have HP := hide hP
  clear hP
  go_wp2_with fail
  refine (low_any w1 b s P _ 16 (by omega) hr1 hs (by omega)).mono ?_
  rintro e w2 ⟨rfl, hr2, ho2⟩
  go_wp2_with fail
  refine (low_any w2 b s _ _ 16 (by omega) hr2 hs (Nat.min_le_right _ _)).mono ?_
  rintro e w3 ⟨rfl, hr3, ho3⟩
  have hN : Pm.lowV s.data.toList P 16 < 65536 := Pm.lowV_lt _ _ 16
  have hM : Pm.lowV s.data.toList (min (P + 16) (8 * s.size)) 16 < 65536 := Pm.lowV_lt _ _ 16
  have hO3 := ((hO.only ho1).only ho2).only ho3
  have hb3 := (((Below.refl b w).trans (ho1.below h.lt)).trans (ho2.below hr1.lt)).trans (ho3.below hr2.lt)
  clear ho1 ho2 ho3 hr1 hr2 hO h
  have hlen2 : s.data.toList.length = s.size := by simp
  have HNo := hide (fun hh => HR.out.symm.trans (Pm.plain_no (out := out) HL.out (show Pm.up8 p = P from HP.out) (by omega) hh))
  have HYes := hide (fun h1 h2 h3 => Pm.plain_yes (out := out) (bad := bad) HL.out (show Pm.up8 p = P from HP.out) h1 h2 h3)
  rw [hlen2] at HNo HYes
  rw [HR.out] at HYes
  clear hlen2 HR HP HL
  have hQ : min (min (P + 16) (8 * s.size) + 16) (8 * s.size) ≤ 8 * s.size := Nat.min_le_right _ _
  have hQ8 : min (min (P + 16) (8 * s.size) + 16) (8 * s.size) % 8 = 0 := by omega
  generalize min (min (P + 16) (8 * s.size) + 16) (8 * s.size) = Q at *
  have HQ8 := hide hQ8
  clear hQ8
  generalize Pm.lowV s.data.toList (min (P + 16) (8 * s.size)) 16 = M at *
  generalize Pm.lowV s.data.toList P 16 = N at *
  generalize (bad || decide (Pm.lowV s.data.toList p (P - p) ≠ 0) || decide (8 * s.size < P + 16) || decide (8 * s.size < min (P + 16) (8 * s.size) + 16)) = bd at *
  have c0 := hr3.c0
  have c1 := hr3.c1
  have c2 := hr3.c2
  have f1 := hr3.f1
  have f2 := hr3.f2
  generalize hQB : Q / 8 = B at *
  have e1 : IntKind.i64.wrap ((Q : Int) / 8) = (B : Int) := by rw [IntWalk.i64_in _ (by omega)]; omega
  have hB : B ≤ s.size := by omega
  have HQB := hide hQB
  clear hQB
  cases bd with
  | true =>
    have HN := hide (HNo.out (Or.inl rfl))
    go_wp2
    go_quiet (fail)
    go_wp2
    go_ret
    exact ⟨_, rfl, _, _, _, (hr3.drewN _).spoil true, hQ, (hO3.drewN _).only ((Only.refl b _).setCell _ _), (below_drewN hb3 _).setCell (Nat.le_refl b) _, by omega, Or.inr ⟨Or.inl rfl, HN.out⟩⟩
  | false =>
    by_cases h2 : M = 65535 - N
    · have hm : ((M : Int) != 65535 - (N : Int)) = false := by rw [bne_eq_false_iff_eq]; omega
      by_cases h3 : s.size < B + N
      · have HN := hide (HNo.out (Or.inr (Or.inr h3)))
        have h4 : (s.size : Int) < (B : Int) + (N : Int) := by omega
        clear h2
        go_wp2
        go_quiet (fail)
        go_wp2
        go_ret
        exact ⟨_, rfl, _, _, _, (hr3.drewN _).spoil true, hQ, (hO3.drewN _).only ((Only.refl b _).setCell _ _), (below_drewN hb3 _).setCell (Nat.le_refl b) _, by omega, Or.inr ⟨Or.inl rfl, HN.out⟩⟩
      · have HY := hide (HYes.out rfl h2 (by omega))
        have h4 : (B : Int) + (N : Int) ≤ (s.size : Int) := by omega
        have h4' : decide ((s.size : Int) < (B : Int) + (N : Int)) = false := by simp; omega
        have e2 : IntKind.i64.wrap ((B : Int) + (N : Int)) = (B : Int) + (N : Int) := IntWalk.i64_in _ (by omega)
        have hsl : ∀ wx, (Instr.slice 9 (.string s) (some (.int .i64 (B : Int))) (some (.int .i64 ((B : Int) + (N : Int)))) none).run Try.prog wx = .ok (.string (s.extract B (B + N))) wx := by
          intro wx
          rw [run_slice_string wx 9 s .i64 .i64 (B : Int) ((B : Int) + (N : Int)) Try.underlying9 (by omega) (by omega) (by omega)]
          have t1 : ((B : Int) + (N : Int)).toNat = B + N := by omega
          rw [t1, Int.toNat_natCast]
        clear h2 HNo HYes
        go_wp2
        go_quiet (fail)
        go_wp2
        have hO4 := (hO3.drewN nq).drew
        go_region_held_law (fun w' => w'.cell? ⟨b, 0, none⟩ = some (.string s) ∧ w'.cell? ⟨b, 1, none⟩ = some (.int .i64 Q)) (go_keep) ((refine step_text rfl (.tmp 42) (.tmp 59) 29 9 rfl Try.underlying29 Try.underlying9 b _ out (by simp [Act.eval, Act.put]) hO4 (s.extract B (B + N)) (by simp [Act.eval, Act.put]) (by simp; omega) ?_; intro v' w5 hO5 hb5; have k0 := (hb5.cell (p := ⟨b, 0, none⟩) (Nat.lt_succ_self b)); have k1 := (hb5.cell (p := ⟨b, 1, none⟩) (Nat.lt_succ_self b))))
        have q1 : w5.cell? ⟨b, 1, none⟩ = some (.int .i64 Q) := by rw [k1]; exact c1
        have q2 : w5.frozen? ⟨b, 1, none⟩ = false := by rw [hb5.frozen (p := ⟨b, 1, none⟩) (Nat.lt_succ_self b)]; exact f1
        clear k0 k1
        go_wp2
        go_ret
        have hr5 := (hr3.drewN nq).drew.kept hb5
        have hl5 : (out ++ (s.extract B (B + N)).data.toList).length = out.length + N := by
          rw [Pm.extract_list, List.length_append, List.length_take, List.length_drop]
          have : s.data.toList.length = s.size := by simp
          omega
        have hl6 : out ++ (s.extract B (B + N)).data.toList = out ++ (s.data.toList.drop B).take N := by rw [Pm.extract_list]
        refine ⟨_, rfl, Q + 8 * N, false, _, hr5.at (Q + 8 * N) _ (by simp), ?_, hO5.only ((Only.refl b _).setCell _ _), ?_, by omega, ?_⟩
        · have k1 := HQB.out
          have k2 := HQ8.out
          omega
        · exact (((below_drewN hb3 _).drew).trans (hb5.mono (Nat.le_succ b))).setCell (Nat.le_refl b) _
        · by_cases hh : out.length + N ≤ 1048576
          · exact Or.inl ⟨rfl, by omega, by rw [hl6]; exact HY.out.1 hh⟩
          · exact Or.inr ⟨Or.inr (by omega), HY.out.2 (by omega)⟩
    · have HN := hide (HNo.out (Or.inr (Or.inl h2)))
      have hm : ((M : Int) != 65535 - (N : Int)) = true := by rw [bne_iff_ne]; omega
      go_wp2
      go_quiet (fail)
      go_wp2
      go_ret
      exact ⟨_, rfl, _, _, _, (hr3.drewN _).spoil true, hQ, (hO3.drewN _).only ((Only.refl b _).setCell _ _), (below_drewN hb3 _).setCell (Nat.le_refl b) _, by omega, Or.inr ⟨Or.inl rfl, HN.out⟩⟩
end Go.Proofs.Ytbklfkpjoinofaa
