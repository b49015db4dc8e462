import Derived.Test.YtbklfkpjoinofaaPr6
set_option linter.unusedVariables false
set_option linter.unusedSimpArgs false
namespace Go.Proofs.Ytbklfkpjoinofaa
open Go.RowKit

theorem cell_new (w : World) (v : Value) (t : TypeId) : (w.alloc (.cells #[v] t)).cell? ⟨w.heap.size, 0, none⟩ = some v := by simp

set_option maxRecDepth 100000 in
set_option maxHeartbeats 2000000 in
theorem again_ok (w : World) (b : Nat) (s : ByteArray) (p n c : Nat) (v : Value) (out : List UInt8) (h : PU w b s p n v out) (hn : n < 8) (hs : s.size ≤ 140737488355328) (ho : out.length ≤ 1048576) (h1 : 257 ≤ c) (q : Nat) (o' : List UInt8) (ha : Pm.againM s.data.toList p c out = some (q, o')) :
    Calls Try.prog 55 #[.pointer (some ⟨b, 0, none⟩), .int .i64 c] w fun e w' => e = .returned (.bool true) ∧ (∃ n' v', n' < 8 ∧ PU w' b s q n' v' o') ∧ Below b w w' := by
  have hlen : s.data.toList.length = s.size := by simp
  have hc := Pm.againM_conds (by rw [ha]; simp : Pm.againM s.data.toList p c out ≠ none)
  rw [hlen] at hc
  obtain ⟨k1, k2, k3, k4, k5, k6, k7, k8⟩ := hc
  have he := Pm.againM_eq (l := s.data.toList) k1 (by rw [hlen]; exact k2) k3 k4 (by rw [hlen]; exact k5) k6 (by rw [hlen]; exact k7) k8
  rw [ha] at he
  simp only [Option.some.injEq, Prod.mk.injEq] at he
  obtain ⟨rfl, rfl⟩ := he
  have hlb := Pm.lenBits_le c (by omega) h1
  have hX := Pm.lowV_lt s.data.toList p (Pm.lenBits c)
  have hN3 : 3 ≤ Pm.lenStart c + Pm.lowV s.data.toList p (Pm.lenBits c) ∧ Pm.lenStart c + Pm.lowV s.data.toList p (Pm.lenBits c) ≤ 258 := by omega
  have hdb := Pm.distBits_le (Pm.highV s.data.toList (p + Pm.lenBits c) 5) (by omega)
  have hY := Pm.lowV_lt s.data.toList (p + Pm.lenBits c + 5) (Pm.distBits (Pm.highV s.data.toList (p + Pm.lenBits c) 5))
  have hD3 : 1 ≤ Pm.distStart (Pm.highV s.data.toList (p + Pm.lenBits c) 5) + Pm.lowV s.data.toList (p + Pm.lenBits c + 5) (Pm.distBits (Pm.highV s.data.toList (p + Pm.lenBits c) 5)) ∧ Pm.distStart (Pm.highV s.data.toList (p + Pm.lenBits c) 5) + Pm.lowV s.data.toList (p + Pm.lenBits c + 5) (Pm.distBits (Pm.highV s.data.toList (p + Pm.lenBits c) 5)) ≤ 32768 := by omega
  clear hX hlb hY hdb ha hlen
  have e1 : decide (¬ (258 ≤ Pm.lenStart c + Pm.lowV s.data.toList p (Pm.lenBits c) ∧ c ≠ 285)) = true := decide_eq_true k3
  have HLen := plen_ok w b s p n c h.r hn hs h1 k1 k2
  rw [e1] at HLen
  have HLen' := hide HLen
  have HDist := hide (fun (wx : World) (nx : Nat) (hx : PR wx b s (p + Pm.lenBits c) nx) (hnx : nx < 8) => pdist_ok wx b s (p + Pm.lenBits c) nx hx hnx hs k5 k6 k7)
  clear HLen e1 k3 k5 k6 k7
  generalize Pm.lenStart c + Pm.lowV s.data.toList p (Pm.lenBits c) = N at *
  generalize Pm.distStart (Pm.highV s.data.toList (p + Pm.lenBits c) 5) + Pm.lowV s.data.toList (p + Pm.lenBits c + 5) (Pm.distBits (Pm.highV s.data.toList (p + Pm.lenBits c) 5)) = D at *
  generalize p + Pm.lenBits c + 5 + Pm.distBits (Pm.highV s.data.toList (p + Pm.lenBits c) 5) = Q at *
  go_enter Try.func55, Try.ntmps55
  go_wp2_with fail
  refine HLen'.out.mono ?_
  rintro e w1 ⟨rfl, ⟨n1, hn1, hr1⟩, ho1⟩
  have hU1 := h.few ho1 hr1
  have hb1 := ho1.below h.lt
  clear HLen' ho1 hr1
  go_wp2_with fail
  refine (hasRoom_any w1 b s _ _ N v out hU1 (by omega) ho).mono ?_
  rintro e w2 ⟨rfl, z, rfl⟩
  have e2 : decide (out.length + N ≤ 1048576) = true := decide_eq_true k4
  rw [e2]
  clear e2
  have hU2 := hU1.drewN z
  have hb2 := below_drewN hb1 z
  clear hU1 hb1
  go_wp2_with fail
  refine (HDist.out _ n1 hU2.r hn1).mono ?_
  rintro e w3 ⟨rfl, ⟨n3, hn3, hr3⟩, ho3⟩
  have hU3 := hU2.few ho3 hr3
  have hb3 := hb2.trans (ho3.below hU2.lt)
  clear hU2 hb2 ho3 hr3 HDist
  have c4 := hU3.c4
  obtain ⟨ad, cap, hform, _⟩ := hU3.o.form
  rw [hform] at c4
  have hdd : decide (out.length < D) = false := decide_eq_false (by omega)
  go_wp2
  clear c4
  go_loopg [39] (N + 1) (fun g i wr => ∃ k : Nat, k ≤ N ∧ N - k < g ∧ i = .int .i64 k ∧ (∃ u, PU wr b s Q n3 u (Pm.copyV out D k)) ∧ Below b w wr)
  case atStart => exact ⟨0, by omega, by omega, rfl, ⟨v, hU3⟩, hb3⟩
  case round =>
    clear hU3 hb3 hform
    obtain ⟨k, hk1, hk2, rfl, ⟨u, hUk⟩, hbk⟩ := hrel
    have HCS := hide (Pm.copyV_succ out D k)
    have hM := Pm.copyV_length out D k
    have HDone : Hid (k = N → PU wr b s Q n3 u (Pm.copyV out D N)) := fun hh => hh ▸ hUk
    by_cases hkl : k < N
    · clear HDone
      generalize Pm.copyV out D k = o2 at *
      have hM1 : o2.length ≤ out.length + k := by omega
      have hM2 : out.length + k ≤ o2.length := by omega
      clear hM
      have hOk := hUk.o
      obtain ⟨gb, cap2, hv2, hcell, hgb⟩ := hOk.at (o2.length - D) (by omega)
      subst hv2
      generalize hI : o2.length - D = I at *
      have eI : IntKind.i64.wrap ((o2.length : Int) - (D : Int)) = (I : Int) := by rw [IntWalk.i64_in _ (by omega)]; omega
      have eB : (I : Int) < (o2.length : Int) := by omega
      clear hI
      generalize o2.getD I 0 = cc at *
      have c4 := hUk.c4
      have f4 := hUk.f4
      have c4a : ∀ ob : Obj, (wr.alloc ob).cell? ⟨b, 4, none⟩ = some (.slice (some ⟨gb, 0, none⟩) o2.length cap2) := fun ob => (((Below.refl (b + 1) wr).alloc hOk.base ob).cell (p := ⟨b, 4, none⟩) (Nat.lt_succ_self b)).trans c4
      have HCell : Hid ((wr.drew.alloc (.cells #[.int .u8 (cc.toNat : Nat)] 5)).cell? ⟨wr.heap.size, 0, none⟩ = some (.int .u8 (cc.toNat : Nat))) := by
        exact cell_new wr.drew _ _
      have hOd := hOk.drew.alloc (.cells #[.int .u8 (cc.toNat : Nat)] 5)
      have hbd : Below (b + 1) wr (wr.drew.alloc (.cells #[.int .u8 (cc.toNat : Nat)] 5)) := ((Below.refl _ _).drew).alloc hOk.base _
      have HBd := hide hbd
      clear hbd
      go_wp2
      go_region_law ((refine step_byte rfl (.tmp 45) (.tmp 59) 29 rfl Try.underlying29 b _ o2 (by simp [Act.eval, Act.put]) hOd ⟨wr.heap.size, 0, none⟩ 1 (by simp [Act.eval, Act.put]) cc HCell.out rfl (by omega) ?_; intro v7 w7 hO7 hb7; obtain ⟨ad7, cap7, hv7, hno7⟩ := hO7.form; clear hno7; generalize (o2 ++ [cc]).length = L7 at hv7; rw [hv7] at hO7 ⊢; clear hv7; have k4 := ((HBd.out.trans hb7).cell (p := ⟨b, 4, none⟩) (Nat.lt_succ_self b)).trans c4; have kf := ((HBd.out.trans hb7).frozen (p := ⟨b, 4, none⟩) (Nat.lt_succ_self b)).trans f4))
      all_goals
        go_wp2
        go_roundg (gk - 1)
        case measure => omega
        case rel =>
          refine ⟨k + 1, by omega, by omega, by go_num, ⟨.slice ad7 L7 cap7, ?_⟩, ?_⟩
          · rw [HCS.out]
            exact hUk.grow (HBd.out.trans hb7) hO7
          · exact (hbk.trans ((HBd.out.trans hb7).mono (Nat.le_succ b))).setCell (Nat.le_refl b) _
    · have hke : k = N := by omega
      have hUD := HDone.out hke
      subst hke
      clear HCS hM HDone
      go_wp2
      go_ret
      exact ⟨rfl, ⟨n3, u, hn3, hUD⟩, hbk⟩

set_option maxRecDepth 100000 in
set_option maxHeartbeats 2000000 in
theorem again_no (w : World) (b : Nat) (s : ByteArray) (p n c : Nat) (v : Value) (out : List UInt8) (h : PU w b s p n v out) (hn : n < 8) (hs : s.size ≤ 140737488355328) (ho : out.length ≤ 1048576) (h1 : 257 ≤ c) (h2 : c ≤ 287) (ha : Pm.againM s.data.toList p c out = none) :
    Calls Try.prog 55 #[.pointer (some ⟨b, 0, none⟩), .int .i64 c] w fun e w' => e = .returned (.bool false) ∧ Below b w w' := by
  have hlen : s.data.toList.length = s.size := by simp
  by_cases k1 : c ≤ 285
  · by_cases k2 : p + Pm.lenBits c ≤ 8 * s.size
    · have hlb := Pm.lenBits_le c (by omega) h1
      have hX := Pm.lowV_lt s.data.toList p (Pm.lenBits c)
      have hN3 : Pm.lenStart c + Pm.lowV s.data.toList p (Pm.lenBits c) ≤ 258 := by omega
      clear hX hlb
      by_cases k3 : 258 ≤ Pm.lenStart c + Pm.lowV s.data.toList p (Pm.lenBits c) ∧ c ≠ 285
      · have e1 : decide (¬ (258 ≤ Pm.lenStart c + Pm.lowV s.data.toList p (Pm.lenBits c) ∧ c ≠ 285)) = false := decide_eq_false (by simpa using k3)
        have HLen := plen_ok w b s p n c h.r hn hs h1 k1 k2
        rw [e1] at HLen
        have HLen' := hide HLen
        clear HLen e1 ha k3
        generalize Pm.lenStart c + Pm.lowV s.data.toList p (Pm.lenBits c) = N at *
        go_enter Try.func55, Try.ntmps55
        go_wp2_with fail
        refine HLen'.out.mono ?_
        rintro e w1 ⟨rfl, ⟨n1, hn1, hr1⟩, ho1⟩
        go_wp2
        go_ret
        exact ⟨rfl, ho1.below h.lt⟩
      · have e1 : decide (¬ (258 ≤ Pm.lenStart c + Pm.lowV s.data.toList p (Pm.lenBits c) ∧ c ≠ 285)) = true := decide_eq_true k3
        have HLen := plen_ok w b s p n c h.r hn hs h1 k1 k2
        rw [e1] at HLen
        have HLen' := hide HLen
        clear HLen e1
        by_cases k4 : out.length + (Pm.lenStart c + Pm.lowV s.data.toList p (Pm.lenBits c)) ≤ 1048576
        · by_cases k5 : 8 * s.size < p + Pm.lenBits c + 5 ∨ 29 < Pm.highV s.data.toList (p + Pm.lenBits c) 5 ∨ 8 * s.size < p + Pm.lenBits c + 5 + Pm.distBits (Pm.highV s.data.toList (p + Pm.lenBits c) 5)
          · have HDist := hide (fun (wx : World) (nx : Nat) (hx : PR wx b s (p + Pm.lenBits c) nx) (hnx : nx < 8) => pdist_no wx b s (p + Pm.lenBits c) nx hx hnx hs k5)
            clear ha k3 k5
            generalize Pm.lenStart c + Pm.lowV s.data.toList p (Pm.lenBits c) = N at *
            go_enter Try.func55, Try.ntmps55
            go_wp2_with fail
            refine HLen'.out.mono ?_
            rintro e w1 ⟨rfl, ⟨n1, hn1, hr1⟩, ho1⟩
            have hU1 := h.few ho1 hr1
            have hb1 := ho1.below h.lt
            clear HLen' ho1 hr1
            go_wp2_with fail
            refine (hasRoom_any w1 b s _ _ N v out hU1 (by omega) ho).mono ?_
            rintro e w2 ⟨rfl, z, rfl⟩
            have e2 : decide (out.length + N ≤ 1048576) = true := decide_eq_true k4
            rw [e2]
            clear e2
            go_wp2_with fail
            refine (HDist.out _ n1 (hU1.drewN z).r hn1).mono ?_
            rintro e w3 ⟨⟨zz, rfl⟩, _, ho3⟩
            go_wp2
            go_ret
            exact ⟨rfl, (below_drewN hb1 z).trans (ho3.below (hU1.drewN z).lt)⟩
          · simp only [not_or, Nat.not_lt] at k5
            obtain ⟨k5, k6, k7⟩ := k5
            have k8 : out.length < Pm.distStart (Pm.highV s.data.toList (p + Pm.lenBits c) 5) + Pm.lowV s.data.toList (p + Pm.lenBits c + 5) (Pm.distBits (Pm.highV s.data.toList (p + Pm.lenBits c) 5)) := by
              refine Nat.lt_of_not_le fun hle => ?_
              rw [Pm.againM_eq (l := s.data.toList) k1 (by rw [hlen]; exact k2) k3 k4 (by rw [hlen]; exact k5) k6 (by rw [hlen]; exact k7) hle] at ha
              cases ha
            have hdb := Pm.distBits_le (Pm.highV s.data.toList (p + Pm.lenBits c) 5) (by omega)
            have hY := Pm.lowV_lt s.data.toList (p + Pm.lenBits c + 5) (Pm.distBits (Pm.highV s.data.toList (p + Pm.lenBits c) 5))
            have hD3 : Pm.distStart (Pm.highV s.data.toList (p + Pm.lenBits c) 5) + Pm.lowV s.data.toList (p + Pm.lenBits c + 5) (Pm.distBits (Pm.highV s.data.toList (p + Pm.lenBits c) 5)) ≤ 32768 := by omega
            have HDist := hide (fun (wx : World) (nx : Nat) (hx : PR wx b s (p + Pm.lenBits c) nx) (hnx : nx < 8) => pdist_ok wx b s (p + Pm.lenBits c) nx hx hnx hs k5 k6 k7)
            clear ha k3 k5 k6 k7 hdb hY
            generalize Pm.lenStart c + Pm.lowV s.data.toList p (Pm.lenBits c) = N at *
            generalize Pm.distStart (Pm.highV s.data.toList (p + Pm.lenBits c) 5) + Pm.lowV s.data.toList (p + Pm.lenBits c + 5) (Pm.distBits (Pm.highV s.data.toList (p + Pm.lenBits c) 5)) = D at *
            go_enter Try.func55, Try.ntmps55
            go_wp2_with fail
            refine HLen'.out.mono ?_
            rintro e w1 ⟨rfl, ⟨n1, hn1, hr1⟩, ho1⟩
            have hU1 := h.few ho1 hr1
            have hb1 := ho1.below h.lt
            clear HLen' ho1 hr1
            go_wp2_with fail
            refine (hasRoom_any w1 b s _ _ N v out hU1 (by omega) ho).mono ?_
            rintro e w2 ⟨rfl, z, rfl⟩
            have e2 : decide (out.length + N ≤ 1048576) = true := decide_eq_true k4
            rw [e2]
            clear e2
            have hU2 := hU1.drewN z
            have hb2 := below_drewN hb1 z
            clear hU1 hb1
            go_wp2_with fail
            refine (HDist.out _ n1 hU2.r hn1).mono ?_
            rintro e w3 ⟨rfl, ⟨n3, hn3, hr3⟩, ho3⟩
            have hU3 := hU2.few ho3 hr3
            have hb3 := hb2.trans (ho3.below hU2.lt)
            clear hU2 hb2 ho3 hr3 HDist
            have c4 := hU3.c4
            obtain ⟨ad, cap, hform, _⟩ := hU3.o.form
            rw [hform] at c4
            go_wp2
            go_ret
            exact ⟨rfl, hb3⟩
        · clear ha k3
          generalize Pm.lenStart c + Pm.lowV s.data.toList p (Pm.lenBits c) = N at *
          go_enter Try.func55, Try.ntmps55
          go_wp2_with fail
          refine HLen'.out.mono ?_
          rintro e w1 ⟨rfl, ⟨n1, hn1, hr1⟩, ho1⟩
          have hU1 := h.few ho1 hr1
          go_wp2_with fail
          refine (hasRoom_any w1 b s _ _ N v out hU1 (by omega) ho).mono ?_
          rintro e w2 ⟨rfl, z, rfl⟩
          have e2 : decide (out.length + N ≤ 1048576) = false := decide_eq_false k4
          rw [e2]
          go_wp2
          go_ret
          exact ⟨rfl, below_drewN (ho1.below h.lt) z⟩
    · clear ha
      go_enter Try.func55, Try.ntmps55
      go_wp2_with fail
      refine (plen_no w b s p n c h.r hn hs h1 k1 (by omega)).mono ?_
      rintro e w1 ⟨⟨z, rfl⟩, _, ho1⟩
      go_wp2
      go_ret
      exact ⟨rfl, ho1.below h.lt⟩
  · clear ha
    go_enter Try.func55, Try.ntmps55
    go_wp2_with fail
    refine (plen_big w b c (by omega) h2).mono ?_
    rintro e w1 ⟨rfl, rfl⟩
    go_wp2
    go_ret
    exact ⟨rfl, Below.refl _ _⟩
end Go.Proofs.Ytbklfkpjoinofaa
