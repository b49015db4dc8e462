import Derived.Test.YtbklfkpjoinofaaPk6
import Derived.Deep.CutRange
set_option linter.unusedVariables false
set_option linter.unusedSimpArgs false
namespace Go.Proofs.Ytbklfkpjoinofaa
open Go.RowKit

theorem ext_take (s : ByteArray) (N : Nat) : (s.extract 0 N).data.toList = s.data.toList.take N := by
  have := Pm.extract_list s 0 N
  rwa [Nat.zero_add, List.drop_zero] at this
theorem ext_drop (s : ByteArray) (N : Nat) (h : N ≤ s.size) : (s.extract N s.size).data.toList = s.data.toList.drop N := by
  have := Pm.extract_list s N (s.size - N)
  rw [show N + (s.size - N) = s.size by omega] at this
  rw [this, List.take_of_length_le (by simp)]

theorem undrew {b q : Nat} {w w' : World} (h : Below b (w.drewN q) w') : Below b w w' := ⟨h.os, h.tape, h.output, h.size, h.block⟩

set_option maxRecDepth 100000 in
set_option maxHeartbeats 4000000 in
theorem write_any {Φ Ψ : Tale} (hKp : Keeps Φ Ψ) (w : World) (P T base : Nat) (D : List UInt8) (p : Nat) (S : ByteArray) (h : InvP Φ w P T base D p) (hD : D.length + S.size ≤ 1048576) (hR : D.length - p < 261) :
    Calls Try.prog 28 #[.pointer (some ⟨P, 0, none⟩), .string S] w fun e w' => e = .returned .nilIface ∧ ∃ p', InvP Φ w' P T base (D ++ S.data.toList) p' ∧ (D ++ S.data.toList).length - p' < 261 ∧ Below base w w' := by
  go_enter Try.func28, Try.ntmps28
  go_wp2
  go_loopg [1, 5, 6] (S.size + 1) (fun g x _ _ wr => ∃ s D' p', x = .string s ∧ s.size < g ∧ D'.length + s.size ≤ 1048576 ∧ Hid (D' ++ s.data.toList = D ++ S.data.toList) ∧ InvP Φ wr P T base D' p' ∧ Below base w wr ∧ D'.length - p' < 261)
  case atStart => exact ⟨S, D, p, rfl, by omega, hD, rfl, h, Below.refl _ _, hR⟩
  case round =>
    clear h
    obtain ⟨s, D', p', rfl, hsg, hsD, HEq, hI, hBe, hRr⟩ := hrel
    by_cases hs0 : s.size = 0
    · go_wp2
      go_ret
      have hnil : s.data.toList = [] := List.eq_nil_of_length_eq_zero (by simpa using hs0)
      have := HEq.out
      rw [hnil, List.append_nil] at this
      exact ⟨rfl, p', this ▸ hI, this ▸ hRr, hBe⟩
    · obtain ⟨vf, vw, vs, vt, F, H, n, W, Sn, at_, gone, Tk, hS, hW, hpe, hpl, hE, hHd, hsz, hSn, hgo, hΦ⟩ := hI
      have HΦ := hide hΦ
      clear hΦ
      have hsm := Pm.sumV_lt D' (1, 0) (by decide)
      have hP := hS.pk.pw.hP
      have hs1 : 0 < s.size := by omega
      have c4 := hS.pk.c4
      have c5 := hS.pk.c5
      obtain ⟨A, hA⟩ : ∃ A, A = (Pm.sumV D' (1, 0)).1 := ⟨_, rfl⟩
      obtain ⟨B, hB⟩ : ∃ B, B = (Pm.sumV D' (1, 0)).2 := ⟨_, rfl⟩
      rw [← hA] at hsm c4
      rw [← hB] at hsm c5
      rw [← hA, ← hB] at hS
      have HAB : Hid (Pm.sumV D' (1, 0) = (A, B)) := by show _ = _; rw [hA, hB]
      clear hA hB
      go_upto_region 2 with fail
      go_cut [5] from 7 to 59 (fun v wx => ∃ N : Nat, v = .int .i64 N ∧ N ≤ s.size ∧ 0 < N ∧ N ≤ 32768 ∧ wx = wr)
      case first =>
        by_cases hN : s.size ≤ 32768
        · have hN2 : (s.size : Int) ≤ 32768 := by omega
          go_wp2
          go_meet
          exact ⟨s.size, rfl, by omega, by omega, hN, rfl⟩
        · have hN2 : (32768 : Int) < (s.size : Int) := by omega
          go_wp2
          go_meet
          exact ⟨32768, rfl, by omega, by omega, by omega, rfl⟩
      case rest =>
      obtain ⟨N, rfl, hN1, hN2, hN3, rfl⟩ := hcut
      obtain ⟨c, hc⟩ : ∃ c, c = s.extract 0 N := ⟨_, rfl⟩
      have HcE := hide hc.symm
      have Hc : Hid (c.data.toList = s.data.toList.take N) := by show _ = _; rw [hc, ext_take]
      have hcs : c.size = N := by rw [hc]; simp; omega
      have Hd2 : Hid ((s.extract N s.size).data.toList = s.data.toList.drop N) := ext_drop s N hN1
      have hds : (s.extract N s.size).size = s.size - N := by simp
      clear hc
      obtain ⟨adw, capw, hvw⟩ : ∃ ad cap, vw = .slice ad W.length cap := by
        rcases hS.pk.pw.ow.2 with ⟨hu, hz⟩ | ⟨gg, cap, cur, hu, _⟩
        · exact ⟨none, 0, by rw [hu, hz]⟩
        · exact ⟨_, _, hu⟩
      subst hvw
      have hWl : W.length ≤ D'.length := by rw [hW, List.length_drop]; omega
      have HW := hide hW
      clear hW
      go_wp2
      refine wp_quiet_tail 6 (by kernel_rfl) (by kernel_rfl) ?_
      simp only [List.take_succ_cons, List.take_zero, List.drop_succ_cons, List.drop_zero]
      repeat (go_big_quiet_step (fail))
      refine wpQuiet_nil ?_
      intro _ hw'
      obtain ⟨nq2, hw''⟩ := hw'
      subst hw''
      go_wp2_with fail
      rw [HcE.out]
      refine (add4_any (wc.drewN nq2) P A B c (by omega) hsm.1 hsm.2 c4 c5 (hS.pk.fz 4) (hS.pk.fz 5)).mono ?_
      rintro e w1 ⟨rfl, q3, hw1⟩
      have HS1 := hide (((hS.drewN nq2).drewN q3).sum (Pm.sumV c.data.toList (A, B)).1 (Pm.sumV c.data.toList (A, B)).2)
      have HB1 : Hid (Below base wc w1) := by
        rw [hw1]
        exact (((Fr.refl (fun k => k = P) wc).drewN nq2).drewN q3 |>.trans ((fr_set _ P 4 _).trans (fr_set _ P 5 _) (fun _ _ e => e)) (fun _ _ e => e)).below hS.pk.bw.hb (fun k e => e ▸ hS.hbP)
      rw [← hw1] at HS1
      clear hw1 c4 c5 hS
      have HS2 : Hid (Pm.sumV (D' ++ c.data.toList) (1, 0) = Pm.sumV c.data.toList (A, B)) := by show _ = _; rw [sumV_append, HAB.out]
      rw [← HS2.out] at HS1
      have c6 := HS1.out.pk.pw.c6
      have f6 := HS1.out.pk.fz 6
      have HO := hide HS1.out.pk.pw.ow.drew
      have hbd : base ≤ w1.drew.heap.size := HS1.out.pk.bw.hb
      have HG := hide (grown_drew w1 (Value.slice adw W.length capw).ownBlock)
      go_wp2
      go_region_law ((refine step_text_at rfl (.tmp 24) (.tmp 27) 29 9 rfl Try.underlying29 Try.underlying9 base _ W (by simp [Act.eval, Act.put]) HO.out hbd c (by simp [Act.eval, Act.put, HcE.out]) (by omega) ?_; intro v7 w7 hO7 hg7 hat7; have hform7 : ∃ ad L cap, v7 = .slice ad L cap := (by rcases hO7.2 with ⟨hu, _⟩ | ⟨gg, cap, cur, hu, _⟩; exact ⟨_, _, _, hu⟩; exact ⟨_, _, _, hu⟩); obtain ⟨ad7, L7, cap7, hv7⟩ := hform7; rw [hv7] at hO7 hat7 ⊢; clear hv7; have kb := (grown_trans HG.out hg7).block P HS1.out.pk.pw.hP (fun e => HS1.out.pk.pw.nw e.symm); have k6 := (World.cell?_of_block (a := ⟨P, 6, none⟩) kb).trans c6; have kf6 := (World.frozen?_of_block (a := ⟨P, 6, none⟩) kb).trans f6))
      obtain ⟨gO, hgO⟩ : ∃ gO, gO = gk := ⟨_, rfl⟩
      have hw2 := HS1.out.window (grown_trans HG.out hg7) hO7 (by
        rcases hat7 with e | e
        · exact Or.inl e
        · exact Or.inr ⟨_, e, by simp⟩)
      have HI2 := hide (InvP.more hw2.1 HW.out hpe hpl hE hHd hsz hSn hgo (hKp.more _ _ _ _ _ hpl HΦ.out))
      have HB2 := hide ((hBe.trans HB1.out).trans hw2.2)
      obtain ⟨D2, hD2⟩ : ∃ D2, D2 = D' ++ c.data.toList := ⟨_, rfl⟩
      have hD2l : D2.length + (s.size - N) ≤ 1048576 := by
        have : c.data.toList.length = N := by simpa using hcs
        rw [hD2, List.length_append, this]; omega
      have HEq2 : Hid (D2 ++ (s.extract N s.size).data.toList = D ++ S.data.toList) := by
        show _ = _
        rw [hD2, Hd2.out, Hc.out, List.append_assoc, List.take_append_drop]; exact HEq.out
      rw [← hD2] at HI2
      clear hw2 hO7 hg7 hat7 hD2 HΦ HS1 HB1 HS2 HO HG hE hHd hsz hSn hgo hBe HAB HW hpe HEq Hc Hd2 c6 f6 k6 kf6 kb hbd
      go_wp2
      go_loopg [34] 1048577 (fun g _ wr2 => ∃ p2, InvP Φ wr2 P T base D2 p2 ∧ Below base w wr2 ∧ D2.length - p2 < g)
      case atStart => exact ⟨p', HI2.out, HB2.out, by omega⟩
      case round =>
        clear HI2 HB2
        obtain ⟨p2, hI2, hB2, hg2⟩ := hrel
        obtain ⟨ad, L, cap, at2, c6, c7, c0, h1, h2, h3, h4, h5⟩ := hI2.read
        by_cases h261 : 261 ≤ D2.length - p2
        · have h261' : (261 : Int) ≤ (L : Int) - (at2 : Int) := by omega
          go_wp2
          go_quiet (fail)
          go_wp2_with fail
          refine (step_inv _ P T base D2 p2 (hI2.drewN _) (by omega) (by omega) (hKp.step D2 p2 (by omega) h261)).mono ?_
          rintro e w3 ⟨rfl, p3, hp3, hI3, hB3⟩
          go_wp2
          go_roundg (gk - 1)
          case measure => omega
          case rel => exact ⟨p3, hI3, hB2.trans (undrew hB3), by omega⟩
        · have h261' : ¬ (261 : Int) ≤ (L : Int) - (at2 : Int) := by omega
          go_wp2
          go_quiet (fail)
          go_wp2_with fail
          refine (forget_inv _ P T base D2 p2 (hI2.drewN _) (by omega)).mono ?_
          rintro e w3 ⟨rfl, hI3, hB3⟩
          clear c6 c7 c0 h1 h2 h3 h4 h5 h261' hI2
          obtain ⟨ad3, L3, cap3, at3, _, _, c0, _⟩ := hI3.read
          unfold nxt at c0
          go_wp2
          refine wp_quiet_tail 7 (by kernel_rfl) (by kernel_rfl) ?_
          simp only [List.take_succ_cons, List.take_zero, List.drop_succ_cons, List.drop_zero]
          repeat (go_big_quiet_step (fail))
          refine wpQuiet_nil ?_
          intro _ hw'
          obtain ⟨nq3, hw''⟩ := hw'
          subst hw''
          go_wp2_with fail
          refine (send_inv (w3.drewN nq3) P T base D2 p2 (hI3.drewN _) (by omega)).mono ?_
          rintro e w4 ⟨rfl, hI4, hB4⟩
          go_wp2
          go_roundg (gO - 1)
          case measure => omega
          case rel => exact ⟨s.extract N s.size, D2, p2, rfl, by rw [hds]; omega, by rw [hds]; exact hD2l, HEq2.out, hI4, (hB2.trans (undrew hB3)).trans (undrew hB4), by omega⟩
end Go.Proofs.Ytbklfkpjoinofaa
