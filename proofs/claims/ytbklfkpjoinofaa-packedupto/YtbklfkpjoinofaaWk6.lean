import Derived.Test.YtbklfkpjoinofaaWk5
set_option linter.unusedVariables false
set_option linter.unusedSimpArgs false
namespace Go.Proofs.Ytbklfkpjoinofaa
open Go.RowKit

/-- How far a step goes, and what it keeps in mind. -/
structure Info (W : List UInt8) (at_ gone : Nat) (Sn Sn' : List Int) (k b : Nat) : Prop where
  emit : ∃ v, Pm.Emit W at_ k v b
  full : 4 ≤ min 258 (W.length - at_) → Full W at_ gone (min 258 (W.length - at_)) k (Sn.getD (keyN W at_) 0)
  last : Last (keyN W) W Sn' at_ k gone

/-- How many bytes a step takes, and which bits it puts. -/
def emitV (W : List UInt8) (at_ : Nat) (r : Nat × Nat) : Nat × Nat × Nat :=
  if r.1 = 0 then (1, Pm.sb (W.getD at_ 0).toNat, (Pm.symOut (W.getD at_ 0).toNat).2) else (r.1, Pm.mv r.1 r.2, Pm.mw r.1 r.2)

/-- What a step leaves. -/
def Stepped (w : World) (P base : Nat) (nx vf vw vs : Value) (F : List UInt8) (H n A B : Nat) (W : List UInt8) (Sn : List Int) (at_ gone : Nat) (w' : World) : Prop :=
  ∃ vf' F' H' n' Sn' k v b, Info W at_ gone Sn Sn' k b ∧ ((k, v, b) = emitV W at_ (findV W Sn at_ gone) ∧ Sn' = passV (keyN W) W at_ gone Sn k) ∧ PK w' P base nx vf' vw vs F' H' n' A B W Sn' (at_ + k) gone ∧ Pm.Emit W at_ k v b ∧ strm F' H' = strm F H + v * 2 ^ (8 * F.length + n) ∧ 8 * F'.length + n' = 8 * F.length + n + b ∧ Seen Sn' (gone + (at_ + k)) ∧
    Fr (fun x => x = P ∨ vf.ownBlock = some x ∨ vs.ownBlock = some x) w w' ∧ (vf'.ownBlock = vf.ownBlock ∨ ∃ g, vf'.ownBlock = some g ∧ w.heap.size ≤ g)

theorem strm_two {F0 F1 F2 : List UInt8} {H0 H1 H2 n0 n1 v1 v2 k1 : Nat} (h1 : strm F1 H1 = strm F0 H0 + v1 * 2 ^ (8 * F0.length + n0)) (l1 : 8 * F1.length + n1 = 8 * F0.length + n0 + k1) (h2 : strm F2 H2 = strm F1 H1 + v2 * 2 ^ (8 * F1.length + n1)) :
    strm F2 H2 = strm F0 H0 + (v1 + v2 * 2 ^ k1) * 2 ^ (8 * F0.length + n0) := by
  rw [h2, h1, l1, Nat.pow_add 2 (8 * F0.length + n0) k1, Nat.add_mul, Nat.add_assoc, Nat.mul_assoc v2, Nat.mul_comm (2 ^ k1)]

set_option maxRecDepth 100000 in
set_option maxHeartbeats 2000000 in
theorem step_any0 (w : World) (P base : Nat) (nx vf vw vs : Value) (F : List UInt8) (H n A B : Nat) (W : List UInt8) (Sn : List Int) (at_ gone : Nat) (h : PK w P base nx vf vw vs F H n A B W Sn at_ gone) (ha : at_ < W.length) (hW : W.length ≤ 10000000) (hg : gone ≤ 10000000) (hS : Seen Sn (gone + at_)) (hF : F.length ≤ 40000000)
    (HF : Hid (Calls Try.prog 47 #[.pointer (some ⟨P, 0, none⟩)] w fun e w' => ∃ L D : Nat, e = .returned (.tuple #[.int .i64 L, .int .i64 D]) ∧ Found W at_ L D ∧ (4 ≤ min 258 (W.length - at_) → Full W at_ gone (min 258 (W.length - at_)) L (Sn.getD (keyN W at_) 0)) ∧ (L, D) = findV W Sn at_ gone ∧ ∃ q, w' = w.drewN q)) :
    Calls Try.prog 40 #[.pointer (some ⟨P, 0, none⟩)] w fun e w' => e = .returned (.tuple #[]) ∧ Stepped w P base nx vf vw vs F H n A B W Sn at_ gone w' := by
  obtain ⟨g, cap, hv, hle, hb, hcell⟩ := row_at h.pw.ow (by omega)
  have k0 := hcell at_ ha
  have c6 := h.pw.c6
  rw [hv] at c6
  have c7 := h.pw.c7
  have hx0 := (W.getD at_ 0).toNat_lt
  have HE : Hid (Pm.Emit W at_ 1 (Pm.sb (W.getD at_ 0).toNat) (Pm.symOut (W.getD at_ 0).toNat).2) := Or.inl ⟨rfl, ha, rfl, rfl⟩
  have HEv : Hid ((1, Pm.sb (W.getD at_ 0).toNat, (Pm.symOut (W.getD at_ 0).toNat).2) = emitV W at_ (0, 0)) := rfl
  obtain ⟨x, hx⟩ : ∃ x, x = (W.getD at_ 0).toNat := ⟨_, rfl⟩
  rw [← hx] at k0 hx0 HE HEv
  clear hx hcell
  have hP := h.pw.hP
  have hn8 := h.hn
  have hsx := (Pm.symOut_lt x (by omega)).2.2
  go_enter Try.func40, Try.ntmps40
  go_wp2_with fail
  refine HF.out.mono ?_
  rintro e w1 ⟨L, D, rfl, hf, hfu, hfx, q, rfl⟩
  have HFu := hide hfu
  have HFx := hide hfx
  clear hfu hfx
  rcases hf with ⟨rfl, rfl⟩ | hm
  · go_wp2
    refine wp_quiet_tail 12 (by kernel_rfl) (by kernel_rfl) ?_
    simp only [List.take_succ_cons, List.take_zero, List.drop_succ_cons, List.drop_zero]
    repeat (go_big_quiet_step (fail))
    refine wpQuiet_nil ?_
    intro _ hw'
    obtain ⟨nq2, hw''⟩ := hw'
    subst hw''
    go_wp2_with fail
    refine (putSymbol_any _ P base vf F H n x (h.bw.drewN _) hP h.hn (by omega) (by omega)).mono ?_
    rintro e w2 ⟨rfl, vf', F', H', n', b1, b2, b3, b4, b5⟩
    have hK2 := (h.drewN _).put b1 b2 b5
    go_wp2_with fail
    refine (pass_any w2 P base vw vs W Sn at_ gone 1 hK2.pw hK2.dws (by omega) (by omega) hW hg hS).mono ?_
    rintro e w3 ⟨rfl, Sn', p1, p2, p3, p4, p5⟩
    have hK3 := hK2.pass p1 p3
    have HLa := hide p4
    have HPv := hide p5
    clear p4 p5
    go_wp2
    (try simp only [Exit.inBlock, Exit.then])
    refine bodyPost_ret (results_none rfl _ _ _) rfl ?_
    refine ⟨rfl, vf', F', H', n', Sn', 1, _, _, ⟨⟨_, HE.out⟩, fun h4 d e1 e2 e3 e4 => absurd (HFu.out h4 d e1 e2 e3 e4) (by omega), HLa.out⟩, ⟨by rw [← HFx.out]; exact HEv.out, HPv.out⟩, hK3, HE.out, b3, b4, p2, ?_, b5.blk⟩
    refine (((Fr.refl _ w).drewN _).trans b5.fr (fun y _ hy => ?_)).trans p3.fr (fun y _ hy => ?_)
    · rcases hy with e | e
      · exact .inl e
      · exact .inr (.inl e)
    · rcases hy with e | e
      · exact .inl e
      · exact .inr (.inr e)
  · obtain ⟨h4, h258, haL, hD1, hD2, hD3, hj⟩ := hm
    have HE2 : Hid (Pm.Emit W at_ L (Pm.mv L D) (Pm.mw L D)) := Or.inr ⟨D, h4, h258, haL, hD1, hD2, hD3, hj, rfl, rfl⟩
    have HEw : Hid ((L, Pm.mv L D, Pm.mw L D) = emitV W at_ (L, D)) := by show _ = _; unfold emitV; rw [if_neg (by simp; omega)]
    unfold Pm.mv Pm.mw at HE2
    unfold Pm.mv Pm.mw at HEw
    have HL := hide (lengthCode_any (w.drewN q) L (by omega) h258)
    have HDc := hide (fun wx => distanceCode_any wx D hD1 hD2)
    obtain ⟨l1, l2, l3, l4, _, _⟩ := Pm.lenC_ok L (by omega) (by omega)
    obtain ⟨d1, d2, d3, _⟩ := Pm.distC_ok D (by omega) hD1
    have l5 := (Pm.lenBits_le (Pm.lenC L).1 (by omega) l1).1
    have d5 := (Pm.distBits_le (Pm.distC D).1 (by omega)).1
    rw [← l3] at l5
    rw [← d2] at d5
    clear l3 d2 hj k0 c6 c7 HE HF
    obtain ⟨c, hc⟩ : ∃ c, c = (Pm.lenC L).1 := ⟨_, rfl⟩
    obtain ⟨m, hm⟩ : ∃ m, m = (Pm.lenC L).2.1 := ⟨_, rfl⟩
    obtain ⟨b, hb⟩ : ∃ b, b = (Pm.lenC L).2.2 := ⟨_, rfl⟩
    obtain ⟨dc, hdc⟩ : ∃ c, c = (Pm.distC D).1 := ⟨_, rfl⟩
    obtain ⟨dm, hdm⟩ : ∃ m, m = (Pm.distC D).2.1 := ⟨_, rfl⟩
    obtain ⟨db, hdb⟩ : ∃ b, b = (Pm.distC D).2.2 := ⟨_, rfl⟩
    rw [← hc, ← hm, ← hb, ← hdc, ← hdm, ← hdb] at HE2 HEw
    rw [← hc, ← hm, ← hb] at HL
    simp only [← hdc, ← hdm, ← hdb] at HDc
    rw [← hc] at l1 l2
    rw [← hm, ← hb] at l4
    rw [← hb] at l5
    rw [← hdc] at d1
    rw [← hdm, ← hdb] at d3
    rw [← hdb] at d5
    clear hc hm hb hdc hdm hdb
    have hcx := (Pm.symOut_lt c (by omega)).2.2
    go_wp2_with fail
    refine HL.out.mono ?_
    rintro e w2 ⟨rfl, q2, rfl⟩
    go_wp2_with fail
    refine (putSymbol_any _ P base vf F H n c (h.bw.drewN _) hP h.hn (by omega) (by omega)).mono ?_
    rintro e w3 ⟨rfl, vf3, F3, H3, n3, b31, b32, b33, b34, b35⟩
    have hK3 := (h.drewN _).put b31 b32 b35
    have hP3 := hK3.pw.hP
    go_wp2_with fail
    refine (put_any w3 P base vf3 F3 H3 n3 m b b31 hP3 b32 l4 (by omega) (by omega)).mono ?_
    rintro e w4 ⟨rfl, vf4, F4, H4, n4, b41, b42, b43, b44, b45⟩
    have hK4 := hK3.put b41 b42 b45
    have hP4 := hK4.pw.hP
    go_wp2_with fail
    refine (HDc.out w4).mono ?_
    rintro e w5 ⟨rfl, q5, rfl⟩
    go_wp2_with fail
    refine (putHigh_any _ P base vf4 F4 H4 n4 dc 5 (b41.drewN _) hP4 b42 (by omega) (Nat.lt_of_le_of_lt d1 (by decide)) (by omega)).mono ?_
    rintro e w6 ⟨rfl, vf6, F6, H6, n6, b61, b62, b63, b64, b65⟩
    have hK6 := (hK4.drewN _).put b61 b62 b65
    have hP6 := hK6.pw.hP
    go_wp2_with fail
    refine (put_any w6 P base vf6 F6 H6 n6 dm db b61 hP6 b62 d3 (by omega) (by omega)).mono ?_
    rintro e w7 ⟨rfl, vf7, F7, H7, n7, b71, b72, b73, b74, b75⟩
    have hK7 := hK6.put b71 b72 b75
    go_wp2_with fail
    refine (pass_any w7 P base vw vs W Sn at_ gone L hK7.pw hK7.dws (by omega) haL hW hg hS).mono ?_
    rintro e w8 ⟨rfl, Sn', p1, p2, p3, p4, p5⟩
    have HLa := hide p4
    have HPv := hide p5
    clear p4 p5
    have hK8 := hK7.pass p1 p3
    have hPt := ((PutFr.refl P vf w).drewN (q + q2)).trans (b35.trans (b45.trans (((PutFr.refl P vf4 w4).drewN q5).trans (b65.trans b75))))
    go_wp2
    go_end0
    refine ⟨rfl, vf7, F7, H7, n7, Sn', L, _, _, ⟨⟨_, HE2.out⟩, HFu.out, HLa.out⟩, ⟨by rw [← HFx.out]; exact HEw.out, HPv.out⟩, hK8, HE2.out, ?_, ?_, p2, ?_, hPt.blk⟩
    · have s1 := strm_two b63 b64 b73
      have s2 := strm_two b43 b44 s1
      exact strm_two b33 b34 s2
    · omega
    · refine (hPt.fr.mono (fun y hy => ?_)).trans p3.fr (fun y _ hy => ?_)
      · rcases hy with e | e
        · exact .inl e
        · exact .inr (.inl e)
      · rcases hy with e | e
        · exact .inl e
        · exact .inr (.inr e)

theorem step_any (w : World) (P base : Nat) (nx vf vw vs : Value) (F : List UInt8) (H n A B : Nat) (W : List UInt8) (Sn : List Int) (at_ gone : Nat) (h : PK w P base nx vf vw vs F H n A B W Sn at_ gone) (ha : at_ < W.length) (hW : W.length ≤ 10000000) (hg : gone ≤ 10000000) (hgo : gone = 0 ∨ 32768 ≤ at_) (hS : Seen Sn (gone + at_)) (hF : F.length ≤ 40000000) :
    Calls Try.prog 40 #[.pointer (some ⟨P, 0, none⟩)] w fun e w' => e = .returned (.tuple #[]) ∧ Stepped w P base nx vf vw vs F H n A B W Sn at_ gone w' :=
  step_any0 w P base nx vf vw vs F H n A B W Sn at_ gone h ha hW hg hS hF (find_any w P base vw vs W Sn at_ gone h.pw ha hW hg hgo hS)
end Go.Proofs.Ytbklfkpjoinofaa
