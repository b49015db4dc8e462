import Derived.Test.YtbklfkpjoinofaaPr9
set_option linter.unusedVariables false
set_option linter.unusedSimpArgs false
namespace Go.Proofs.Ytbklfkpjoinofaa
open Go.RowKit

theorem block_no (w : World) (b : Nat) (s : ByteArray) (q n : Nat) (v : Value) (out : List UInt8) (h : PU w b s (q + 1) n v out) (hn : n < 8) (hs : s.size ≤ 140737488355328) (hq : 8 * s.size < q + 3) :
    Calls Try.prog 32 #[.pointer (some ⟨b, 0, none⟩)] w fun e w' => e = .returned (.bool false) ∧ Below b w w' := by
  go_enter Try.func32, Try.ntmps32
  go_wp2_with fail
  refine (take_no w b s (q + 1) n 2 h.r (by omega) (by omega) hs (by omega)).mono ?_
  rintro e w1 ⟨rfl, _, ho1⟩
  go_wp2
  go_ret
  exact ⟨rfl, ho1.below h.lt⟩

set_option maxRecDepth 100000 in
set_option maxHeartbeats 1000000 in
theorem block_any (w : World) (b : Nat) (s : ByteArray) (q n : Nat) (v : Value) (out : List UInt8) (h : PU w b s (q + 1) n v out) (hn : n < 8) (hl : out.length ≤ 1048576) (hs : s.size ≤ 140737488355328) (hq : q + 3 ≤ 8 * s.size) :
    Calls Try.prog 32 #[.pointer (some ⟨b, 0, none⟩)] w fun e w' => PEnd w b s (Pm.blockM s.data.toList q out) e w' := by
  have hlen : s.data.toList.length = s.size := by simp
  have hK : Pm.lowV s.data.toList (q + 1) 2 < 4 := Pm.lowV_lt _ _ 2
  have HTake := take_ok w b s (q + 1) n 2 h.r hn (by omega) hs (by omega)
  unfold Pm.blockM
  generalize Pm.lowV s.data.toList (q + 1) 2 = K at *
  have HT := hide HTake
  clear HTake
  rcases (show K = 0 ∨ K = 1 ∨ K = 2 ∨ K = 3 from by omega) with rfl | rfl | rfl | rfl
  · rw [if_pos rfl]
    go_enter Try.func32, Try.ntmps32
    go_wp2_with fail
    refine HT.out.mono ?_
    rintro e w1 ⟨rfl, ⟨n1, hn1, hr1⟩, ho1⟩
    have hU1 := h.few ho1 hr1
    have hb1 := ho1.below h.lt
    go_wp2_with fail
    refine (plain_any w1 b s (q + 3) n1 v out hU1 hn1 hl hs).mono ?_
    rintro e w2 ⟨hb2, he⟩
    rcases he with ⟨rfl, hr⟩ | ⟨q', n', v', o', rfl, hr, hn', ho', hU'⟩
    · go_wp2
      go_ret
      exact ⟨hb1.trans hb2, Or.inl ⟨rfl, hr⟩⟩
    · go_wp2
      go_ret
      exact ⟨hb1.trans hb2, Or.inr ⟨q', n', v', o', rfl, hr, hn', ho', hU'⟩⟩
  · rw [if_neg (by decide), if_pos rfl]
    go_enter Try.func32, Try.ntmps32
    go_wp2_with fail
    refine HT.out.mono ?_
    rintro e w1 ⟨rfl, ⟨n1, hn1, hr1⟩, ho1⟩
    have hU1 := h.few ho1 hr1
    have hb1 := ho1.below h.lt
    go_wp2_with fail
    refine (pcoded_any w1 b s (q + 3) n1 v out hU1 hn1 hl hs (8 * s.data.toList.length + 1) (by rw [hlen]; omega)).mono ?_
    rintro e w2 ⟨hb2, he⟩
    rcases he with ⟨rfl, hr⟩ | ⟨q', n', v', o', rfl, hr, hn', ho', hU'⟩
    · go_wp2
      go_ret
      exact ⟨hb1.trans hb2, Or.inl ⟨rfl, hr⟩⟩
    · go_wp2
      go_ret
      exact ⟨hb1.trans hb2, Or.inr ⟨q', n', v', o', rfl, hr, hn', ho', hU'⟩⟩
  · rw [if_neg (by decide), if_neg (by decide)]
    go_enter Try.func32, Try.ntmps32
    go_wp2_with fail
    refine HT.out.mono ?_
    rintro e w1 ⟨rfl, _, ho1⟩
    go_wp2
    go_ret
    exact ⟨ho1.below h.lt, Or.inl ⟨rfl, rfl⟩⟩
  · rw [if_neg (by decide), if_neg (by decide)]
    go_enter Try.func32, Try.ntmps32
    go_wp2_with fail
    refine HT.out.mono ?_
    rintro e w1 ⟨rfl, _, ho1⟩
    go_wp2
    go_ret
    exact ⟨ho1.below h.lt, Or.inl ⟨rfl, rfl⟩⟩

set_option maxRecDepth 100000 in
set_option maxHeartbeats 2000000 in
theorem blocks_any (w : World) (b : Nat) (s : ByteArray) (p n : Nat) (v : Value) (out : List UInt8) (h : PU w b s p n v out) (hn : n < 8) (hl : out.length ≤ 1048576) (hs : s.size ≤ 140737488355328) (f : Nat) (hf : 8 * s.size < p + f) :
    Calls Try.prog 19 #[.pointer (some ⟨b, 0, none⟩)] w fun e w' => PEnd w b s (Pm.blocksM s.data.toList f p out) e w' := by
  have hlen : s.data.toList.length = s.size := by simp
  have HL : Hid (8 * s.size = 8 * s.data.toList.length) := by show _ = _; rw [hlen]
  clear hlen
  generalize hres : Pm.blocksM s.data.toList f p out = res
  have HR := hide hres
  clear hres
  go_enter Try.func19, Try.ntmps19
  go_wp2
  go_loopg [3, 4] (8 * s.size + 2) (fun g _ _ wr => ∃ q m u o, PU wr b s q m u o ∧ m < 8 ∧ Below b w wr ∧ o.length ≤ 1048576 ∧ 8 * s.size + 1 - q ≤ g ∧ ∃ f', 8 * s.size < q + f' ∧ Pm.blocksM s.data.toList f' q o = res)
  case atStart => exact ⟨p, n, v, out, h, hn, Below.refl _ _, hl, by omega, f, hf, HR.out⟩
  case round =>
    clear hf HR h hn hl
    obtain ⟨q, m, u, o, hU, hm, hb, hlo, hg, hf⟩ := hrel
    have HC := hide hf
    clear hf
    have hq : q ≤ 8 * s.size := by have := hU.r.le; omega
    by_cases hend : 8 * s.size < q + 3
    · have HN := hide (Pm.blocks_bad HL.out hq HC.out hend)
      clear HC
      by_cases h1 : 8 * s.size < q + 1
      · go_wp2_with fail
        refine (take_no wr b s q m 1 hU.r (by omega) (by omega) hs h1).mono ?_
        rintro e w1 ⟨rfl, _, ho1⟩
        go_wp2
        go_ret
        exact ⟨hb.trans (ho1.below hU.lt), Or.inl ⟨rfl, HN.out⟩⟩
      · go_wp2_with fail
        refine (take_ok wr b s q m 1 hU.r hm (by omega) hs (by omega)).mono ?_
        rintro e w1 ⟨rfl, ⟨n1, hn1, hr1⟩, ho1⟩
        have hU1 := hU.few ho1 hr1
        have hb1 := hb.trans (ho1.below hU.lt)
        generalize Pm.lowV s.data.toList q 1 = X at *
        go_wp2_with fail
        refine (block_no w1 b s q n1 u o hU1 hn1 hs hend).mono ?_
        rintro e w2 ⟨rfl, hb2⟩
        go_wp2
        go_ret
        exact ⟨hb1.trans hb2, Or.inl ⟨rfl, HN.out⟩⟩
    · have hend' : q + 3 ≤ 8 * s.size := by omega
      have hX : Pm.lowV s.data.toList q 1 < 2 := Pm.lowV_lt _ _ 1
      go_wp2_with fail
      refine (take_ok wr b s q m 1 hU.r hm (by omega) hs (by omega)).mono ?_
      rintro e w1 ⟨rfl, ⟨n1, hn1, hr1⟩, ho1⟩
      have hU1 := hU.few ho1 hr1
      have hb1 := hb.trans (ho1.below hU.lt)
      clear hU hb ho1 hr1
      go_wp2_with fail
      refine (block_any w1 b s q n1 u o hU1 hn1 hlo hs hend').mono ?_
      rintro e w2 ⟨hb2, he⟩
      rcases he with ⟨rfl, hr⟩ | ⟨q', n', v', o', rfl, hr, hn', ho', hU'⟩
      · have HN := hide (Pm.blocks_none hq HC.out hr)
        clear HC
        generalize Pm.lowV s.data.toList q 1 = X at *
        go_wp2
        go_ret
        exact ⟨hb1.trans hb2, Or.inl ⟨rfl, HN.out⟩⟩
      · have hqq := (Pm.blockM_le hr hlo).1
        by_cases hx1 : Pm.lowV s.data.toList q 1 = 1
        · have HN := hide (Pm.blocks_last HL.out hend' HC.out hr hx1)
          clear HC
          generalize Pm.lowV s.data.toList q 1 = X at *
          subst hx1
          go_wp2
          go_ret
          exact ⟨hb1.trans hb2, Or.inr ⟨q', n', v', o', rfl, HN.out, hn', ho', hU'⟩⟩
        · have HN := hide (Pm.blocks_go HL.out hend' HC.out hr hx1 hlo)
          clear HC
          generalize Pm.lowV s.data.toList q 1 = X at *
          have hx0 : X = 0 := by omega
          subst hx0
          go_wp2
          go_roundg (gk - 1)
          case measure => omega
          case rel => exact ⟨q', n', v', o', hU', hn', hb1.trans hb2, ho', by omega, HN.out⟩
end Go.Proofs.Ytbklfkpjoinofaa
