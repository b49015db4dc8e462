import Derived.Test.YtbklfkpjoinofaaPr8
set_option linter.unusedVariables false
set_option linter.unusedSimpArgs false
namespace Go.Proofs.Ytbklfkpjoinofaa
open Go.RowKit

theorem PR.up {w : World} {b : Nat} {s : ByteArray} {p n : Nat} (h : PR w b s p n) (hn : n < 8) : p + n = Pm.up8 p ∧ Pm.up8 p - p = n := by
  have := h.at8
  unfold Pm.up8
  omega

set_option maxRecDepth 100000 in
set_option maxHeartbeats 2000000 in
theorem plain_any (w : World) (b : Nat) (s : ByteArray) (p n : Nat) (v : Value) (out : List UInt8) (h : PU w b s p n v out) (hn : n < 8) (hl : out.length ≤ 1048576) (hs : s.size ≤ 140737488355328) :
    Calls Try.prog 45 #[.pointer (some ⟨b, 0, none⟩)] w fun e w' => PEnd w b s (Pm.plainR s.data.toList p out) e w' := by
  have hlen : s.data.toList.length = s.size := by simp
  obtain ⟨hP, hn2⟩ := h.r.up hn
  have hP8 : Pm.up8 p % 8 = 0 := by unfold Pm.up8; omega
  have HNo := hide (fun hh => Pm.plainR_none (l := s.data.toList) (p := p) (out := out) hh)
  have HYes := hide (fun h1 h2 h3 h4 h5 => Pm.plainR_some (l := s.data.toList) (p := p) (out := out) h1 h2 h3 h4 h5)
  rw [hlen, hn2] at HNo HYes
  have HAl := align_any w b s p n h.r
  rw [hP] at HAl
  generalize hres : Pm.plainR s.data.toList p out = res at *
  clear hres hn2 hP hlen
  generalize Pm.up8 p = P at *
  by_cases z0 : Pm.lowV s.data.toList p n = 0
  · have z0' : decide (Pm.lowV s.data.toList p n = 0) = true := decide_eq_true z0
    rw [z0'] at HAl
    have HA := hide HAl
    clear HAl z0'
    by_cases z1 : P + 16 ≤ 8 * s.size
    · by_cases z2 : P + 32 ≤ 8 * s.size
      · have hN : Pm.lowV s.data.toList P 16 < 65536 := Pm.lowV_lt _ _ 16
        have hM : Pm.lowV s.data.toList (P + 16) 16 < 65536 := Pm.lowV_lt _ _ 16
        by_cases z3 : Pm.lowV s.data.toList (P + 16) 16 = 65535 - Pm.lowV s.data.toList P 16
        · by_cases z4 : out.length + Pm.lowV s.data.toList P 16 ≤ 1048576
          · by_cases z5 : P / 8 + 4 + Pm.lowV s.data.toList P 16 ≤ s.size
            · have HE := hide (HYes.out z0 z2 z3 z5 z4)
              have hm : ((Pm.lowV s.data.toList (P + 16) 16 : Int) != 65535 - (Pm.lowV s.data.toList P 16 : Int)) = false := by rw [bne_eq_false_iff_eq]; omega
              clear HNo HYes z0 z3
              go_enter Try.func45, Try.ntmps45
              go_wp2_with fail
              refine HA.out.mono ?_
              rintro e w1 ⟨rfl, hr1, ho1⟩
              have hU1 := h.few ho1 hr1
              have hb1 := ho1.below h.lt
              clear hr1 ho1
              go_wp2_with fail
              refine (take_ok w1 b s P 0 16 hU1.r (by omega) (by omega) hs z1).mono ?_
              rintro e w2 ⟨rfl, ⟨n2, hn2, hr2⟩, ho2⟩
              have hU2 := hU1.few ho2 hr2
              have hb2 := hb1.trans (ho2.below hU1.lt)
              clear hr2 ho2
              go_wp2_with fail
              refine (take_ok w2 b s (P + 16) n2 16 hU2.r hn2 (by omega) hs z2).mono ?_
              rintro e w3 ⟨rfl, ⟨n3, hn3, hr3⟩, ho3⟩
              have hU3 := hU2.few ho3 hr3
              have hb3 := hb2.trans (ho3.below hU2.lt)
              have hn30 : n3 = 0 := by have := hr3.at8; omega
              subst hn30
              clear hr3 ho3 hU1 hU2 hb1 hb2
              generalize Pm.lowV s.data.toList (P + 16) 16 = M at *
              generalize Pm.lowV s.data.toList P 16 = N at *
              go_wp2_with fail
              refine (hasRoom_any w3 b s _ _ N v out hU3 (by omega) hl).mono ?_
              rintro e w4 ⟨rfl, z, rfl⟩
              have e2 : decide (out.length + N ≤ 1048576) = true := decide_eq_true z4
              rw [e2]
              clear e2
              have hU4 := hU3.drewN z
              have hb4 := below_drewN hb3 z
              clear hU3 hb3
              go_wp2_with fail
              have e8 : (P + 16 + 16) / 8 = P / 8 + 4 := by omega
              have HTB := takeBytes_ok (w3.drewN z) b s (P + 16 + 16) N hU4.r hs (by omega)
              rw [e8] at HTB
              refine HTB.mono ?_
              clear HTB e8
              rintro e w5 ⟨rfl, hr5, ho5⟩
              have hU5 := hU4.few ho5 hr5
              have hb5 := hb4.trans (ho5.below hU4.lt)
              clear hr5 ho5 hU4 hb4
              have hO5 := hU5.o
              have c4 := hU5.c4
              have f4 := hU5.f4
              obtain ⟨ad, cap, hform, _⟩ := hO5.form
              rw [hform] at c4 hO5 hU5
              clear hform
              have hxs : (s.extract (P / 8 + 4) (P / 8 + 4 + N)).size ≤ N := by simp; omega
              generalize hX : s.extract (P / 8 + 4) (P / 8 + 4 + N) = X at *
              have HX := hide hX
              clear hX
              go_wp2_with (at_builtin; refine wpList_text rfl (.tmp 53) (.tmp 54) 29 9 rfl Try.underlying29 Try.underlying9 b _ out rfl hO5 X rfl (by omega) ?_)
              intro v7 w7 hO7 hb7
              obtain ⟨ad7, cap7, hv7, hno7⟩ := hO7.form
              clear hno7
              generalize (out ++ X.data.toList).length = L7 at hv7
              rw [hv7] at hO7 ⊢
              clear hv7
              have k4 := (hb7.cell (p := ⟨b, 4, none⟩) (Nat.lt_succ_self b)).trans c4
              have kf := (hb7.frozen (p := ⟨b, 4, none⟩) (Nat.lt_succ_self b)).trans f4
              go_wp2
              go_ret
              refine ⟨(hb5.trans (hb7.mono (Nat.le_succ b))).setCell (Nat.le_refl b) _, Or.inr ⟨P + 32 + 8 * N, 0, _, out ++ X.data.toList, rfl, ?_, by omega, ?_, hU5.grow hb7 hO7⟩⟩
              · rw [HE.out, ← HX.out, Pm.extract_list]
              · have hxl : X.data.toList.length = X.size := by simp
                rw [List.length_append, hxl]; omega
            · have HE := hide (HNo.out (Or.inr (Or.inr (Or.inr (Or.inl (by omega))))))
              have hm : ((Pm.lowV s.data.toList (P + 16) 16 : Int) != 65535 - (Pm.lowV s.data.toList P 16 : Int)) = false := by rw [bne_eq_false_iff_eq]; omega
              clear HNo HYes z0 z3
              go_enter Try.func45, Try.ntmps45
              go_wp2_with fail
              refine HA.out.mono ?_
              rintro e w1 ⟨rfl, hr1, ho1⟩
              have hU1 := h.few ho1 hr1
              have hb1 := ho1.below h.lt
              clear hr1 ho1
              go_wp2_with fail
              refine (take_ok w1 b s P 0 16 hU1.r (by omega) (by omega) hs z1).mono ?_
              rintro e w2 ⟨rfl, ⟨n2, hn2, hr2⟩, ho2⟩
              have hU2 := hU1.few ho2 hr2
              have hb2 := hb1.trans (ho2.below hU1.lt)
              clear hr2 ho2
              go_wp2_with fail
              refine (take_ok w2 b s (P + 16) n2 16 hU2.r hn2 (by omega) hs z2).mono ?_
              rintro e w3 ⟨rfl, ⟨n3, hn3, hr3⟩, ho3⟩
              have hU3 := hU2.few ho3 hr3
              have hb3 := hb2.trans (ho3.below hU2.lt)
              have hn30 : n3 = 0 := by have := hr3.at8; omega
              subst hn30
              clear hr3 ho3 hU1 hU2 hb1 hb2
              generalize Pm.lowV s.data.toList (P + 16) 16 = M at *
              generalize Pm.lowV s.data.toList P 16 = N at *
              go_wp2_with fail
              refine (hasRoom_any w3 b s _ _ N v out hU3 (by omega) hl).mono ?_
              rintro e w4 ⟨rfl, z, rfl⟩
              have e2 : decide (out.length + N ≤ 1048576) = true := decide_eq_true z4
              rw [e2]
              clear e2
              have hU4 := hU3.drewN z
              have hb4 := below_drewN hb3 z
              clear hU3 hb3
              go_wp2_with fail
              refine (takeBytes_no (w3.drewN z) b s (P + 16 + 16) N hU4.r hs (by omega) (by omega)).mono ?_
              rintro e w5 ⟨rfl, hr5, ho5⟩
              have hU5 := hU4.few ho5 hr5
              have hb5 := hb4.trans (ho5.below hU4.lt)
              clear hr5 ho5 hU4 hb4
              have hO5 := hU5.o
              have c4 := hU5.c4
              have f4 := hU5.f4
              obtain ⟨ad, cap, hform, _⟩ := hO5.form
              rw [hform] at c4 hO5 hU5
              clear hform
              have hxs : (⟨#[]⟩ : ByteArray).size = 0 := rfl
              go_wp2_with (at_builtin; refine wpList_text rfl (.tmp 53) (.tmp 54) 29 9 rfl Try.underlying29 Try.underlying9 b _ out rfl hO5 ⟨#[]⟩ rfl (by rw [hxs]; omega) ?_)
              intro v7 w7 hO7 hb7
              obtain ⟨ad7, cap7, hv7, hno7⟩ := hO7.form
              clear hno7
              generalize (out ++ (⟨#[]⟩ : ByteArray).data.toList).length = L7 at hv7
              rw [hv7] at hO7 ⊢
              clear hv7
              have k4 := (hb7.cell (p := ⟨b, 4, none⟩) (Nat.lt_succ_self b)).trans c4
              have kf := (hb7.frozen (p := ⟨b, 4, none⟩) (Nat.lt_succ_self b)).trans f4
              go_wp2
              go_ret
              exact ⟨(hb5.trans (hb7.mono (Nat.le_succ b))).setCell (Nat.le_refl b) _, Or.inl ⟨rfl, HE.out⟩⟩
          · have HE := hide (HNo.out (Or.inr (Or.inr (Or.inr (Or.inr (by omega))))))
            have hm : ((Pm.lowV s.data.toList (P + 16) 16 : Int) != 65535 - (Pm.lowV s.data.toList P 16 : Int)) = false := by rw [bne_eq_false_iff_eq]; omega
            clear HNo HYes z0 z3
            go_enter Try.func45, Try.ntmps45
            go_wp2_with fail
            refine HA.out.mono ?_
            rintro e w1 ⟨rfl, hr1, ho1⟩
            have hU1 := h.few ho1 hr1
            have hb1 := ho1.below h.lt
            clear hr1 ho1
            go_wp2_with fail
            refine (take_ok w1 b s P 0 16 hU1.r (by omega) (by omega) hs z1).mono ?_
            rintro e w2 ⟨rfl, ⟨n2, hn2, hr2⟩, ho2⟩
            have hU2 := hU1.few ho2 hr2
            have hb2 := hb1.trans (ho2.below hU1.lt)
            clear hr2 ho2
            go_wp2_with fail
            refine (take_ok w2 b s (P + 16) n2 16 hU2.r hn2 (by omega) hs z2).mono ?_
            rintro e w3 ⟨rfl, ⟨n3, hn3, hr3⟩, ho3⟩
            have hU3 := hU2.few ho3 hr3
            have hb3 := hb2.trans (ho3.below hU2.lt)
            clear hr3 ho3 hU1 hU2 hb1 hb2
            generalize Pm.lowV s.data.toList (P + 16) 16 = M at *
            generalize Pm.lowV s.data.toList P 16 = N at *
            go_wp2_with fail
            refine (hasRoom_any w3 b s _ _ N v out hU3 (by omega) hl).mono ?_
            rintro e w4 ⟨rfl, z, rfl⟩
            have e2 : decide (out.length + N ≤ 1048576) = false := decide_eq_false z4
            rw [e2]
            go_wp2
            go_ret
            exact ⟨below_drewN hb3 z, Or.inl ⟨rfl, HE.out⟩⟩
        · have HE := hide (HNo.out (Or.inr (Or.inr (Or.inl z3))))
          have hm : ((Pm.lowV s.data.toList (P + 16) 16 : Int) != 65535 - (Pm.lowV s.data.toList P 16 : Int)) = true := by rw [bne_iff_ne]; omega
          clear HNo HYes z0 z3
          go_enter Try.func45, Try.ntmps45
          go_wp2_with fail
          refine HA.out.mono ?_
          rintro e w1 ⟨rfl, hr1, ho1⟩
          have hb1 := ho1.below h.lt
          go_wp2_with fail
          refine (take_ok w1 b s P 0 16 hr1 (by omega) (by omega) hs z1).mono ?_
          rintro e w2 ⟨rfl, ⟨n2, hn2, hr2⟩, ho2⟩
          have hb2 := hb1.trans (ho2.below hr1.lt)
          go_wp2_with fail
          refine (take_ok w2 b s (P + 16) n2 16 hr2 hn2 (by omega) hs z2).mono ?_
          rintro e w3 ⟨rfl, _, ho3⟩
          have hb3 := hb2.trans (ho3.below hr2.lt)
          generalize Pm.lowV s.data.toList (P + 16) 16 = M at *
          generalize Pm.lowV s.data.toList P 16 = N at *
          go_wp2
          go_ret
          exact ⟨hb3, Or.inl ⟨rfl, HE.out⟩⟩
      · have HE := hide (HNo.out (Or.inr (Or.inl (by omega))))
        clear HNo HYes z0
        go_enter Try.func45, Try.ntmps45
        go_wp2_with fail
        refine HA.out.mono ?_
        rintro e w1 ⟨rfl, hr1, ho1⟩
        have hb1 := ho1.below h.lt
        go_wp2_with fail
        refine (take_ok w1 b s P 0 16 hr1 (by omega) (by omega) hs z1).mono ?_
        rintro e w2 ⟨rfl, ⟨n2, hn2, hr2⟩, ho2⟩
        have hb2 := hb1.trans (ho2.below hr1.lt)
        go_wp2_with fail
        refine (take_no w2 b s (P + 16) n2 16 hr2 (by omega) (by omega) hs (by omega)).mono ?_
        rintro e w3 ⟨rfl, _, ho3⟩
        have hb3 := hb2.trans (ho3.below hr2.lt)
        generalize Pm.lowV s.data.toList P 16 = N at *
        go_wp2
        go_ret
        exact ⟨hb3, Or.inl ⟨rfl, HE.out⟩⟩
    · have HE := hide (HNo.out (Or.inr (Or.inl (by omega))))
      clear HNo HYes z0
      go_enter Try.func45, Try.ntmps45
      go_wp2_with fail
      refine HA.out.mono ?_
      rintro e w1 ⟨rfl, hr1, ho1⟩
      have hb1 := ho1.below h.lt
      go_wp2_with fail
      refine (take_no w1 b s P 0 16 hr1 (by omega) (by omega) hs (by omega)).mono ?_
      rintro e w2 ⟨rfl, ⟨n2, hn2, hr2⟩, ho2⟩
      have hb2 := hb1.trans (ho2.below hr1.lt)
      go_wp2_with fail
      refine (take_no w2 b s P n2 16 hr2 hn2 (by omega) hs (by omega)).mono ?_
      rintro e w3 ⟨rfl, _, ho3⟩
      have hb3 := hb2.trans (ho3.below hr2.lt)
      go_wp2
      go_ret
      exact ⟨hb3, Or.inl ⟨rfl, HE.out⟩⟩
  · have HE := hide (HNo.out (Or.inl z0))
    have z0' : decide (Pm.lowV s.data.toList p n = 0) = false := decide_eq_false z0
    rw [z0'] at HAl
    have HA := hide HAl
    clear HAl z0' HNo HYes z0
    go_enter Try.func45, Try.ntmps45
    go_wp2_with fail
    refine HA.out.mono ?_
    rintro e w1 ⟨rfl, hr1, ho1⟩
    go_wp2
    go_ret
    exact ⟨ho1.below h.lt, Or.inl ⟨rfl, HE.out⟩⟩
end Go.Proofs.Ytbklfkpjoinofaa
