import Derived.Test.YtbklfkpjoinofaaPr10
import Derived.Test.YtbklfkpjoinofaaSums2
import Derived.Test.YtbklfkpjoinofaaRef8
set_option linter.unusedVariables false
set_option linter.unusedSimpArgs false
namespace Go.Proofs.Ytbklfkpjoinofaa
open Go.RowKit

theorem PU.new (w : World) (s : ByteArray) (h2 : 2 ≤ s.size) : PU (w.alloc (.cells #[.string s, .int .i64 2, .int .u32 0, .int .i64 0, .slice none 0 0, .int .i64 1048576] 46)) w.heap.size s 16 0 (.slice none 0 0) [] :=
  ⟨⟨by omega, by omega, by simp, by simp, by simp [Pm.lowV_zero], by simp, by simp, by simp, by simp⟩, by simp, by simp, by simp, Out.nil _ _ (by simp)⟩

/-- What the inner Unpack answers. -/
def ansP : Option (List UInt8 × Nat) → Value
  | some (o, n) => .tuple #[.string ⟨o.toArray⟩, .int .i64 n, .bool true]
  | none => .tuple #[.string ⟨#[]⟩, .int .i64 0, .bool false]

set_option maxRecDepth 100000 in
set_option maxHeartbeats 1000000 in
theorem pUnpack_any (w : World) (s : ByteArray) (hs : s.size ≤ 140737488355328) :
    Calls Try.prog 10 #[.string s, .int .i64 1048576] w fun e w' => e = .returned (ansP (Pm.unpackM s.data.toList)) ∧ Below w.heap.size w w' := by
  have hlen : s.data.toList.length = s.size := by simp
  cases hhd : Pm.headB s.data.toList with
  | false =>
    rw [Pm.unpack_head hhd]
    have HH := hasHead_any w s hs
    rw [hhd] at HH
    have HH' := hide HH
    clear HH hhd
    go_enter Try.func10, Try.ntmps10
    go_wp2_with fail
    refine HH'.out.mono ?_
    rintro e w1 ⟨rfl, rfl⟩
    go_wp2
    go_ret3
    exact ⟨rfl, Below.refl _ _⟩
  | true =>
    have h2 : 2 ≤ s.size := by
      unfold Pm.headB at hhd
      simp only [decide_eq_true_eq] at hhd
      omega
    have HH := hasHead_any w s hs
    rw [hhd] at HH
    have HH' := hide HH
    clear HH
    have HN := hide (fun hr => Pm.unpack_none (l := s.data.toList) hr)
    have HS := hide (fun q o hr => Pm.unpack_some (l := s.data.toList) (q := q) (o := o) hhd hr)
    have HB := hide (fun wx (hx : PU wx w.heap.size s 16 0 (.slice none 0 0) []) => blocks_any wx w.heap.size s 16 0 _ [] hx (by omega) (by simp) hs (8 * s.data.toList.length + 1) (by rw [hlen]; omega))
    generalize Pm.blocksM s.data.toList (8 * s.data.toList.length + 1) 16 [] = res at *
    generalize Pm.unpackM s.data.toList = ans at *
    clear hhd
    have HU := hide (PU.new w s h2)
    go_enter Try.func10, Try.ntmps10
    go_wp2_with fail
    refine HH'.out.mono ?_
    rintro e w1 ⟨rfl, rfl⟩
    go_wp2_with fail
    refine (HB.out _ HU.out).mono ?_
    rintro e w2 ⟨hb2, he⟩
    have hb2' := ((Below.refl w1.heap.size w1).alloc (Nat.le_refl _) (.cells #[.string s, .int .i64 2, .int .u32 0, .int .i64 0, .slice none 0 0, .int .i64 1048576] 46)).trans hb2
    rcases he with ⟨rfl, hr⟩ | ⟨q, n, v, o, rfl, hr, hn, ho, hU⟩
    · have HA := hide (HN.out hr)
      clear HN HS hr
      go_wp2
      go_ret3
      exact ⟨by rw [HA.out]; rfl, hb2'⟩
    · have HT := hide (HS.out q o hr)
      clear HN HS hr HB HU HH'
      obtain ⟨hP, hn2⟩ := hU.r.up hn
      have HAl := align_any w2 w1.heap.size s q n hU.r
      rw [hP] at HAl
      have HTN := hide (fun h => HT.out.trans (Pm.tail_none (l := s.data.toList) (q := q) (o := o) h))
      have HTS := hide (fun h1 h2 h3 => HT.out.trans (Pm.tail_some (l := s.data.toList) (q := q) (o := o) h1 h2 h3))
      rw [hlen, hn2] at HTN HTS
      clear HT hn2 hP
      have hU8 : Pm.up8 q % 8 = 0 := by unfold Pm.up8; omega
      generalize Pm.up8 q = U at *
      by_cases z0 : Pm.lowV s.data.toList q n = 0
      · have z0' : decide (Pm.lowV s.data.toList q n = 0) = true := decide_eq_true z0
        rw [z0'] at HAl
        have HA := hide HAl
        clear HAl z0'
        go_wp2_with fail
        refine HA.out.mono ?_
        rintro e w3 ⟨rfl, hr3, ho3⟩
        have hU3 := hU.few ho3 hr3
        have hb3 := hb2'.trans (ho3.below hU.lt)
        clear hU ho3 hr3 HA hb2 hb2'
        have hcv := hU3.o.str
        have c4 := hU3.c4
        obtain ⟨ad, cap, hform, _⟩ := hU3.o.form
        rw [hform] at c4 hcv
        have hsz : (⟨o.toArray⟩ : ByteArray).size = o.length := by show o.toArray.size = _; simp
        have hdl : (⟨o.toArray⟩ : ByteArray).data.toList = o := by simp
        by_cases z1 : s.size < U / 8 + 4
        · have HE := hide (HTN.out (Or.inr (Or.inl z1)))
          have HSum := hide (sumIsOf_no w3 w1.heap.size s ⟨o.toArray⟩ U hU3.r hs z1)
          clear HTN HTS z0 hsz hdl
          go_wp2_with fail
          refine HSum.out.mono ?_
          rintro e w4 ⟨rfl, hb4⟩
          go_wp2
          go_ret3
          exact ⟨by rw [HE.out]; rfl, hb3.trans hb4⟩
        · have z2 : U / 8 + 4 ≤ s.size := by omega
          have HSum := sumIsOf_ok w3 w1.heap.size s ⟨o.toArray⟩ U hU3.r hs (by rw [hsz]; omega) z2
          rw [hdl] at HSum
          by_cases z3 : Pm.be4 s.data.toList (U / 8) = 65536 * (Pm.sumV o (1, 0)).2 + (Pm.sumV o (1, 0)).1
          · have HE := hide (HTS.out z0 z2 z3)
            have z3' : decide (Pm.be4 s.data.toList (U / 8) = 65536 * (Pm.sumV o (1, 0)).2 + (Pm.sumV o (1, 0)).1) = true := decide_eq_true z3
            rw [z3'] at HSum
            have HSum' := hide HSum
            clear HSum z3 z3' HTN HTS z0 hsz hdl
            go_wp2_with fail
            refine HSum'.out.mono ?_
            rintro e w4 ⟨rfl, hr4, hb4⟩
            have c1 := hr4.c1
            have e8 : (U + 32 + 0) / 8 = U / 8 + 4 := by omega
            rw [e8] at c1
            clear e8 c4 hcv
            generalize U / 8 + 4 = T at *
            go_wp2
            go_quiet (fail)
            go_wp2
            go_ret3
            exact ⟨by rw [HE.out]; rfl, below_drewN (hb3.trans hb4) _⟩
          · have HE := hide (HTN.out (Or.inr (Or.inr z3)))
            have z3' : decide (Pm.be4 s.data.toList (U / 8) = 65536 * (Pm.sumV o (1, 0)).2 + (Pm.sumV o (1, 0)).1) = false := decide_eq_false z3
            rw [z3'] at HSum
            have HSum' := hide HSum
            clear HSum z3 z3' HTN HTS z0 hsz hdl
            go_wp2_with fail
            refine HSum'.out.mono ?_
            rintro e w4 ⟨rfl, _, hb4⟩
            go_wp2
            go_ret3
            exact ⟨by rw [HE.out]; rfl, hb3.trans hb4⟩
      · have HE := hide (HTN.out (Or.inl z0))
        have z0' : decide (Pm.lowV s.data.toList q n = 0) = false := decide_eq_false z0
        rw [z0'] at HAl
        have HA := hide HAl
        clear HAl z0' HTN HTS z0
        go_wp2_with fail
        refine HA.out.mono ?_
        rintro e w3 ⟨rfl, _, ho3⟩
        go_wp2
        go_ret3
        exact ⟨by rw [HE.out]; rfl, hb2'.trans (ho3.below hU.lt)⟩

set_option maxRecDepth 100000 in
set_option maxHeartbeats 1000000 in
theorem Unpack_any (w : World) (s : ByteArray) (hs : s.size ≤ 140737488355328) :
    Calls Try.prog 6 #[.string s] w fun e w' => e = .returned (ansV (Pm.unpackM s.data.toList)) ∧ Below w.heap.size w w' := by
  have HP := pUnpack_any w s hs
  generalize Pm.unpackM s.data.toList = r at *
  cases r with
  | none =>
    have HP' := hide HP
    clear HP
    go_enter Try.func6, Try.ntmps6
    go_wp2_with fail
    refine HP'.out.mono ?_
    rintro e w1 ⟨rfl, hb⟩
    unfold ansP
    go_wp2
    go_ret3
    exact ⟨rfl, hb⟩
  | some x =>
    obtain ⟨o, n⟩ := x
    have HP' := hide HP
    clear HP
    go_enter Try.func6, Try.ntmps6
    go_wp2_with fail
    refine HP'.out.mono ?_
    rintro e w1 ⟨rfl, hb⟩
    unfold ansP
    go_wp2
    go_ret3
    exact ⟨rfl, hb⟩
end Go.Proofs.Ytbklfkpjoinofaa
