import Derived.Test.YtbklfkpjoinofaaPr7
set_option linter.unusedVariables false
set_option linter.unusedSimpArgs false
namespace Go.Proofs.Ytbklfkpjoinofaa
open Go.RowKit

/-- How a part of the program's unpacker ends: res is what the document says of it. -/
def PEnd (w0 : World) (b : Nat) (s : ByteArray) (res : Option (Nat × List UInt8)) (e : Ending) (w' : World) : Prop :=
  Below b w0 w' ∧ ((e = .returned (.bool false) ∧ res = none) ∨ (∃ q n v o, e = .returned (.bool true) ∧ res = some (q, o) ∧ n < 8 ∧ o.length ≤ 1048576 ∧ PU w' b s q n v o))

set_option maxRecDepth 100000 in
set_option maxHeartbeats 2000000 in
theorem pcoded_any (w : World) (b : Nat) (s : ByteArray) (p n : Nat) (v : Value) (out : List UInt8) (h : PU w b s p n v out) (hn : n < 8) (hl : out.length ≤ 1048576) (hs : s.size ≤ 140737488355328) (f : Nat) (hf : 8 * s.size < p + f) :
    Calls Try.prog 46 #[.pointer (some ⟨b, 0, none⟩)] w fun e w' => PEnd w b s (Pm.codedM s.data.toList f p out) e w' := by
  have hlen : s.data.toList.length = s.size := by simp
  have HL : Hid (8 * s.size = 8 * s.data.toList.length) := by show _ = _; rw [hlen]
  clear hlen
  generalize hres : Pm.codedM s.data.toList f p out = res
  have HR : Hid (Pm.codedM s.data.toList f p out = res) := hres
  clear hres
  go_enter Try.func46, Try.ntmps46
  go_wp2
  go_loopg [3, 4] (8 * s.size + 2) (fun g _ _ wr => ∃ q m u o, PU wr b s q m u o ∧ m < 8 ∧ Below b w wr ∧ o.length ≤ 1048576 ∧ 8 * s.size + 1 - q ≤ g ∧ ∃ f', 8 * s.size < q + f' ∧ Pm.codedM s.data.toList f' q o = res)
  case atStart => exact ⟨p, n, v, out, h, hn, Below.refl _ _, hl, by omega, f, hf, HR.out⟩
  case round =>
    clear hf HR h hn hl
    obtain ⟨q, m, u, o, hU, hm, hb, hlo, hg, hf⟩ := hrel
    have HC := hide hf
    clear hf
    have hq : q ≤ 8 * s.size := by have := hU.r.le; omega
    have hwd := Pm.symV_w s.data.toList q
    have hcc := Pm.symV_c s.data.toList q
    by_cases hend : 8 * s.size < q + (Pm.symV s.data.toList q).2
    · have HN : Hid (res = none) := Pm.coded_none hq HC.out (Pm.stepM_bad (by rw [← HL.out]; exact hend))
      clear HC
      go_wp2_with fail
      refine (psym_no wr b s q m hU.r hm hs hend).mono ?_
      rintro e w1 ⟨⟨z, rfl⟩, _, ho1⟩
      go_wp2
      go_ret
      exact ⟨hb.trans (ho1.below hU.lt), Or.inl ⟨rfl, HN.out⟩⟩
    · have hend' : q + (Pm.symV s.data.toList q).2 ≤ 8 * s.data.toList.length := by rw [← HL.out]; omega
      go_wp2_with fail
      refine (psym_ok wr b s q m hU.r hm hs (by omega)).mono ?_
      rintro e w1 ⟨rfl, ⟨n1, hn1, hr1⟩, ho1⟩
      have hU1 := hU.few ho1 hr1
      have hb1 := hb.trans (ho1.below hU.lt)
      clear hU hb ho1 hr1
      by_cases h256 : (Pm.symV s.data.toList q).1 = 256
      · have HN : Hid (res = some (q + (Pm.symV s.data.toList q).2, o)) := Pm.coded_end hq HC.out (Pm.stepM_end hend' h256)
        clear HC hend'
        generalize (Pm.symV s.data.toList q).1 = c at *
        generalize (Pm.symV s.data.toList q).2 = wd at *
        subst h256
        go_wp2
        go_ret
        exact ⟨hb1, Or.inr ⟨_, n1, u, o, rfl, HN.out, hn1, hlo, hU1⟩⟩
      · by_cases hlt : (Pm.symV s.data.toList q).1 < 256
        · by_cases hroom : o.length + 1 ≤ 1048576
          · have HB := hide (Pm.coded_go hq HC.out (Pm.stepM_byte hend' hlt hroom) (by omega))
            clear HC hend'
            generalize (Pm.symV s.data.toList q).1 = c at *
            generalize (Pm.symV s.data.toList q).2 = wd at *
            go_wp2_with fail
            refine (hasRoom_any w1 b s _ _ 1 u o hU1 (by omega) hlo).mono ?_
            rintro e w2 ⟨rfl, z, rfl⟩
            have e2 : decide (o.length + 1 ≤ 1048576) = true := decide_eq_true hroom
            rw [e2]
            clear e2
            have hU2 := hU1.drewN z
            have hb2 := below_drewN hb1 z
            clear hU1 hb1
            generalize w1.drewN z = w2 at *
            have hub : (UInt8.ofNat c).toNat = c := by simp; omega
            have HCell : Hid ((w2.alloc (.cells #[.int .u8 c] 5)).cell? ⟨w2.heap.size, 0, none⟩ = some (.int .u8 ((UInt8.ofNat c).toNat : Nat))) := by
              show _ = _
              rw [hub]; exact cell_new w2 _ _
            clear hub
            have hO2 := hU2.o
            have c4 := hU2.c4
            have f4 := hU2.f4
            have hbd : Below (b + 1) w2 (w2.alloc (.cells #[.int .u8 c] 5)) := (Below.refl _ _).alloc hO2.base _
            have HBd := hide hbd
            clear hbd
            obtain ⟨ad, cap, hform, _⟩ := hO2.form
            rw [hform] at c4 hO2 hU2
            clear hform
            go_wp2_with (at_builtin; refine wpList_byte rfl (.tmp 14) (.tmp 17) 29 rfl Try.underlying29 b _ o rfl (hO2.alloc _) ⟨w2.heap.size, 0, none⟩ 1 rfl (UInt8.ofNat c) HCell.out rfl (by omega) ?_)
            intro v7 w7 hO7 hb7
            obtain ⟨ad7, cap7, hv7, hno7⟩ := hO7.form
            clear hno7
            generalize (o ++ [UInt8.ofNat c]).length = L7 at hv7
            rw [hv7] at hO7 ⊢
            clear hv7
            have k4 := ((HBd.out.trans hb7).cell (p := ⟨b, 4, none⟩) (Nat.lt_succ_self b)).trans c4
            have kf := ((HBd.out.trans hb7).frozen (p := ⟨b, 4, none⟩) (Nat.lt_succ_self b)).trans f4
            go_wp2
            go_roundg (gk - 1)
            case measure => omega
            case rel =>
              refine ⟨q + wd, n1, _, _, hU2.grow (HBd.out.trans hb7) hO7, hn1, ?_, by simp; omega, by omega, HB.out⟩
              exact (hb2.trans ((HBd.out.trans hb7).mono (Nat.le_succ b))).setCell (Nat.le_refl b) _
          · have HN : Hid (res = none) := Pm.coded_none hq HC.out (Pm.stepM_full hlt (by omega))
            clear HC hend'
            generalize (Pm.symV s.data.toList q).1 = c at *
            generalize (Pm.symV s.data.toList q).2 = wd at *
            go_wp2_with fail
            refine (hasRoom_any w1 b s _ _ 1 u o hU1 (by omega) hlo).mono ?_
            rintro e w2 ⟨rfl, z, rfl⟩
            have e2 : decide (o.length + 1 ≤ 1048576) = false := decide_eq_false hroom
            rw [e2]
            go_wp2
            go_ret
            exact ⟨below_drewN hb1 z, Or.inl ⟨rfl, HN.out⟩⟩
        · have hc1 : 257 ≤ (Pm.symV s.data.toList q).1 := by omega
          cases hag : Pm.againM s.data.toList (q + (Pm.symV s.data.toList q).2) (Pm.symV s.data.toList q).1 o with
          | none =>
            have HN : Hid (res = none) := Pm.coded_none hq HC.out (Pm.stepM_not (by omega) hag)
            have HAg := hide (fun (n2 : Nat) (hn2 : n2 < 8) (hx : PU w1 b s (q + (Pm.symV s.data.toList q).2) n2 u o) => again_no w1 b s _ n2 _ u o hx hn2 hs hlo hc1 hcc hag)
            clear HC hend' hag
            generalize (Pm.symV s.data.toList q).1 = c at *
            generalize (Pm.symV s.data.toList q).2 = wd at *
            go_wp2_with fail
            refine (HAg.out n1 hn1 hU1).mono ?_
            rintro e w2 ⟨rfl, hb2⟩
            go_wp2
            go_ret
            exact ⟨hb1.trans hb2, Or.inl ⟨rfl, HN.out⟩⟩
          | some r =>
            obtain ⟨q', o'⟩ := r
            have hle := Pm.againM_some hag
            have HB := hide (Pm.coded_go hq HC.out (Pm.stepM_again hend' (by omega) hag) (by show q < q'; omega))
            have HAg := hide (fun (n2 : Nat) (hn2 : n2 < 8) (hx : PU w1 b s (q + (Pm.symV s.data.toList q).2) n2 u o) => again_ok w1 b s _ n2 _ u o hx hn2 hs hlo hc1 q' o' hag)
            have hqq : q < q' := by omega
            have hoo := hle.2.2
            clear HC hend' hag hle
            generalize (Pm.symV s.data.toList q).1 = c at *
            generalize (Pm.symV s.data.toList q).2 = wd at *
            go_wp2_with fail
            refine (HAg.out n1 hn1 hU1).mono ?_
            rintro e w2 ⟨rfl, ⟨n2, v2, hn2, hU2⟩, hb2⟩
            go_wp2
            go_roundg (gk - 1)
            case measure => omega
            case rel => exact ⟨q', n2, v2, o', hU2, hn2, hb1.trans hb2, hoo, by omega, HB.out⟩
end Go.Proofs.Ytbklfkpjoinofaa
