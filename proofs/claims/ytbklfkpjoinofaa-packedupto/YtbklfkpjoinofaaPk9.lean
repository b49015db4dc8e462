import Derived.Test.YtbklfkpjoinofaaPk8
import Derived.Test.YtbklfkpjoinofaaSb
set_option linter.unusedVariables false
set_option linter.unusedSimpArgs false
namespace Go.Proofs.Ytbklfkpjoinofaa
open Go.RowKit

/-- Behind a put, packer and sink. -/
theorem PS.put {w w' : World} {P T base : Nat} {vf vw vs vt vf' : Value} {F F' : List UInt8} {H n H' n' A B : Nat} {W : List UInt8} {Sn : List Int} {at_ gone : Nat} {Tk : List UInt8} (h : PS w P T base vf vw vs vt F H n A B W Sn at_ gone Tk)
    (hB : BW w' P base vf' F' H' n') (hn : n' < 8) (hF : PutFr P vf w vf' w') : PS w' P T base vf' vw vs vt F' H' n' A B W Sn at_ gone Tk ∧ Below base w w' := by
  refine ⟨⟨h.pk.put hB hn hF, h.sk.fr hF.fr ?_ ?_, h.hPT, h.hbP, h.hbT, blk_ne h.sk.hT hF.blk h.fT, h.wT, h.sT, h.tP, (blk_apart h.sk.own hF.blk h.dtf.symm).symm, h.dtw, h.dts⟩, hF.fr.below h.pk.bw.hb ?_⟩
  · rintro (e | e)
    · exact h.hPT e
    · exact h.fT e
  · rintro g hg (e | e)
    · exact h.tP (by rw [hg, e])
    · exact h.dtf g hg e
  · rintro k (e | e)
    · rw [e]; exact h.hbP
    · exact (h.pk.bw.own.lt k e).1

/-- In a world where nothing that was there has turned. -/
theorem PS.below {w w' : World} {P T base : Nat} {vf vw vs vt : Value} {F : List UInt8} {H n A B : Nat} {W : List UInt8} {Sn : List Int} {at_ gone : Nat} {Tk : List UInt8} (h : PS w P T base vf vw vs vt F H n A B W Sn at_ gone Tk)
    (hB : Below w.heap.size w w') : PS w' P T base vf vw vs vt F H n A B W Sn at_ gone Tk := by
  have hF : Fr (fun _ => False) w w' := ⟨hB.os, hB.tape, hB.output, hB.size, fun k hk _ => hB.block k hk⟩
  exact ⟨h.pk.fr hF id (fun _ _ => id) (fun _ _ => id) (fun _ _ => id), h.sk.fr hF id (fun _ _ => id), h.hPT, h.hbP, h.hbT, h.fT, h.wT, h.sT, h.tP, h.dtf, h.dtw, h.dts⟩

/-- What the sink has when all is packed. -/
def Done (Ψ : Tale) (w : World) (T base : Nat) (D : List UInt8) : Prop := ∃ vt l, SK w T base vt l ∧ Pm.unpackM l = some (D, l.length) ∧ 8 * l.length ≤ 80 + 9 * D.length ∧ 6 < l.length ∧ ∃ Sn nb, Ψ D D.length Sn nb ∧ 8 * l.length ≤ nb + 46

theorem done_of {Ψ : Tale} {w : World} {P T base : Nat} {D : List UInt8} {vw vs vt vf' : Value} {F F2 F6 : List UInt8} {H n t A B : Nat} {W : List UInt8} {Sn : List Int} {at_ gone : Nat} {Tk : List UInt8}
    (hE : Pm.Enc (strm (Tk ++ F) H) (8 * (Tk.length + F.length) + n) D) (hHd : Pm.Hd (strm (Tk ++ F) H) (8 * (Tk.length + F.length) + n)) (hsz : 8 * (Tk.length + F.length) + n ≤ 19 + 9 * D.length) (hD : D.length ≤ 1048576)
    (h2 : Pm.num F2 = strm F H) (l2 : 8 * F2.length = Pm.up8 (8 * F.length + n + 7)) (h6 : Pm.num F6 = Pm.num F2 + sbits t 4 * 2 ^ (8 * F2.length)) (l6 : F6.length = F2.length + 4)
    (ht : t = 65536 * (Pm.sumV D (1, 0)).2 + (Pm.sumV D (1, 0)).1) (hS : PS w P T base vf' vw vs vt [] 0 0 A B W Sn at_ gone (Tk ++ F6)) (hΨ : Ψ D D.length Sn (8 * (Tk.length + F.length) + n)) : Done Ψ w T base D := by
  have hsm := Pm.sumV_lt D (1, 0) (by decide)
  have hl : (Tk ++ F6).length = (Tk.length + F2.length) + 4 := by rw [List.length_append, l6]; omega
  have hup : Pm.up8 (8 * (Tk.length + F.length) + n + 7) = 8 * (Tk.length + F2.length) := by
    unfold Pm.up8 at l2 ⊢; omega
  have hup' : 8 * (Tk.length + F.length) + n + 7 ≤ 8 * (Tk.length + F2.length) := by unfold Pm.up8 at hup; omega
  have hup2 : 8 * (Tk.length + F2.length) ≤ 8 * (Tk.length + F.length) + n + 14 := by unfold Pm.up8 at hup; omega
  have hnum : Pm.num (Tk ++ F6) = strm (Tk ++ F) H + sbits t 4 * 2 ^ (8 * (Tk.length + F2.length)) := by
    rw [Pm.num_append, h6, h2, strm_app, Nat.mul_add, Nat.mul_left_comm, ← Nat.pow_add, ← Nat.mul_add, Nat.add_assoc]
  obtain ⟨hp, hb⟩ := be4_of hl (Nat.lt_of_lt_of_le hE.1 (Nat.pow_le_pow_right (by decide) (by omega))) hnum (by omega)
  have hu := hE.unpack hHd hD hup hl hp (hb.trans ht)
  have h19 := hHd.1
  exact ⟨vt, Tk ++ F6, hS.sk, hu, by rw [hl]; omega, by rw [hl]; omega, Sn, _, hΨ, by rw [hl]; omega⟩

set_option maxRecDepth 100000 in
set_option maxHeartbeats 4000000 in
theorem close_any {Φ Ψ : Tale} (hKp : Keeps Φ Ψ) (w : World) (P T base : Nat) (D : List UInt8) (p : Nat) (h : InvP Ψ w P T base D p) (hD : D.length ≤ 1048576) :
    Calls Try.prog 29 #[.pointer (some ⟨P, 0, none⟩)] w fun e w' => e = .returned .nilIface ∧ Done Ψ w' T base D ∧ Below base w w' := by
  go_enter Try.func29, Try.ntmps29
  go_wp2
  go_loopg [5] 1048577 (fun g _ wr => ∃ p2, InvP Ψ wr P T base D p2 ∧ Below base w wr ∧ D.length - p2 < g)
  case atStart => exact ⟨p, h, Below.refl _ _, by omega⟩
  case round =>
    clear h
    obtain ⟨p2, hI2, hB2, hg2⟩ := hrel
    obtain ⟨ad, L, cap, at2, c6, c7, c0, h1, h2, h3, h4, h5⟩ := hI2.read
    by_cases hlt : at2 < L
    · go_wp2
      go_quiet (fail)
      go_wp2_with fail
      refine (step_inv _ P T base D p2 (hI2.drewN _) (by omega) (by omega) (hKp.last D p2 hD (by omega))).mono ?_
      rintro e w3 ⟨rfl, p3, hp3, hI3, hB3⟩
      go_wp2
      go_roundg (gk - 1)
      case measure => omega
      case rel => exact ⟨p3, hI3, hB2.trans (undrew hB3), by omega⟩
    · have hpD : p2 = D.length := by omega
      go_wp2
      go_quiet (fail)
      clear c6 c7 c0 h1 h2 h3 h4 h5 hlt
      obtain ⟨vf, vw, vs, vt, F, H, n, W, Sn, at_, gone, Tk, hS0, hW, hpe, hpl, hE, hHd, hsz, hSn, hgo, hΨ⟩ := hI2.drewN nq
      rw [hpD] at hΨ
      have HΨ := hide hΨ
      clear hΨ
      rw [hpD, List.take_length] at hE
      have HE := hide hE
      have HHd := hide hHd
      rw [hpD] at hsz
      clear hE hHd hW hpe hpl hSn hgo hI2 hpD
      have hsm := Pm.sumV_lt D (1, 0) (by decide)
      obtain ⟨A, hA⟩ : ∃ A, A = (Pm.sumV D (1, 0)).1 := ⟨_, rfl⟩
      obtain ⟨B, hB⟩ : ∃ B, B = (Pm.sumV D (1, 0)).2 := ⟨_, rfl⟩
      rw [← hA, ← hB] at hsm hS0
      have HAB : Hid (65536 * B + A = 65536 * (Pm.sumV D (1, 0)).2 + (Pm.sumV D (1, 0)).1) := by show _ = _; rw [hA, hB]
      clear hA hB
      have hn := hS0.pk.hn
      go_wp2_with fail
      refine (putSymbol_any _ P base vf F H n 256 hS0.pk.bw hS0.pk.pw.hP hn (by omega) (by omega)).mono ?_
      rintro e w1 ⟨rfl, vf1, F1, H1, n1, b11, b12, b13, b14, b15⟩
      rw [Pm.sb_256, Nat.zero_mul, Nat.add_zero] at b13
      rw [Pm.out_256] at b14
      have b14' : 8 * F1.length + n1 = 8 * F.length + n + 7 := b14
      obtain ⟨hS1, hB1⟩ := hS0.put b11 b12 b15
      go_wp2_with fail
      refine (fill_any w1 P base vf1 F1 H1 n1 b11 hS1.pk.pw.hP b12 (by omega)).mono ?_
      rintro e w2 ⟨rfl, vf2, F2, H2, n2, b21, b22, b23, b24, b25⟩
      rw [Nat.zero_mul, Nat.add_zero] at b23
      obtain rfl : n2 = 0 := by omega
      obtain rfl : H2 = 0 := by have := b21.hH; simp at this; exact this
      rw [strm_zero, b13] at b23
      obtain ⟨hS2, hB2'⟩ := hS1.put b21 b22 b25
      have l2 : 8 * F2.length = Pm.up8 (8 * F.length + n + 7) := by unfold Pm.up8; omega
      have c4 := hS2.pk.c4
      have c5 := hS2.pk.c5
      have HB12 := hide ((hB2.trans (undrew hB1)).trans hB2')
      have HN2 := hide b23
      have HL2 := hide l2
      have hF2 : 8 * F2.length ≤ 8 * F.length + n + 14 := by unfold Pm.up8 at l2; omega
      clear b11 b12 b13 b14 b14' b15 b21 b22 b23 b24 b25 l2 hS1 hB1 hB2' hB2 hS0
      go_wp2_with fail
      refine (value_any w2 A B hsm.1 hsm.2).mono ?_
      rintro e w3 ⟨rfl, hB3⟩
      have hS3 := hS2.below hB3
      have HB13 := hide (HB12.out.trans (show Below base w2 w3 from ⟨hB3.os, hB3.tape, hB3.output, hB3.size, fun k hk => hB3.block k (Nat.lt_of_lt_of_le hk hS2.pk.bw.hb)⟩))
      obtain ⟨t, ht⟩ : ∃ t, t = 65536 * B + A := ⟨_, rfl⟩
      rw [← ht]
      have ht32 : t < 4294967296 := by omega
      have HT : Hid (t = 65536 * (Pm.sumV D (1, 0)).2 + (Pm.sumV D (1, 0)).1) := by show _ = _; rw [ht]; exact HAB.out
      clear ht HAB hB3 hS2 HB12 c4 c5
      go_wp2
      go_loopg [4] 5 (fun g sh wr3 => ∃ k vfk Fk, k ≤ 4 ∧ 4 - k < g ∧ sh = .int .i64 (24 - 8 * (k : Int)) ∧ PS wr3 P T base vfk vw vs vt Fk 0 0 A B W Sn at_ gone Tk ∧ Hid (Pm.num Fk = Pm.num F2 + sbits t k * 2 ^ (8 * F2.length)) ∧ Fk.length = F2.length + k ∧ Below base w wr3)
      case atStart => exact ⟨0, vf2, F2, by omega, by omega, by simp, hS3, by show _ = _; simp [sbits], by omega, HB13.out⟩
      case round =>
        clear hS3 HB13
        obtain ⟨k, vfk, Fk, hk4, hkg, rfl, hSk, HNk, hlk, hBk⟩ := hrel
        have hPk := hSk.pk.pw.hP
        by_cases hk : k = 4
        · subst hk
          have c0 := hSk.pk.c0
          unfold nxt at c0
          go_wp2
          refine wp_quiet_tail 7 (by kernel_rfl) (by kernel_rfl) ?_
          simp only [List.take_succ_cons, List.take_zero, List.drop_succ_cons, List.drop_zero]
          repeat (go_big_quiet_step (fail))
          refine wpQuiet_nil ?_
          intro _ hw'
          obtain ⟨nq3, hw''⟩ := hw'
          subst hw''
          go_wp2_with fail
          refine (send_any (wr.drewN nq3) P T base vfk vw vs vt Fk 0 0 A B W Sn at_ gone Tk (hSk.drewN _) (by omega)).mono ?_
          rintro e w4 ⟨rfl, vf', vt', hS4, hB4⟩
          go_wp2
          go_ret
          exact ⟨rfl, done_of HE.out HHd.out hsz hD HN2.out HL2.out HNk.out hlk HT.out hS4 HΨ.out, hBk.trans (undrew hB4)⟩
        · have hk3 : k = 0 ∨ k = 1 ∨ k = 2 ∨ k = 3 := by omega
          rcases hk3 with rfl | rfl | rfl | rfl
          all_goals
            go_wp2
            refine wp_quiet_tail 8 (by kernel_rfl) (by kernel_rfl) ?_
            simp only [List.take_succ_cons, List.take_zero, List.drop_succ_cons, List.drop_zero]
            repeat (go_big_quiet_step (fail))
            refine wpQuiet_nil ?_
            intro _ hw'
            obtain ⟨nq3, hw''⟩ := hw'
            subst hw''
            go_wp2_with fail
            first
              | rw [sbyte_val t 0 ht32 (by omega) _ (by show _ = ((t / 16777216 : Nat) : Int); omega)]
              | rw [sbyte_val t 1 ht32 (by omega) _ (by show _ = ((t / 65536 : Nat) : Int); omega)]
              | rw [sbyte_val t 2 ht32 (by omega) _ (by show _ = ((t / 256 : Nat) : Int); omega)]
              | rw [sbyte_val t 3 ht32 (by omega) _ (by show _ = ((t / 1 : Nat) : Int); omega)]
            refine (put_any (wr.drewN nq3) P base vfk Fk 0 0 _ 8 (hSk.drewN nq3).pk.bw hPk (by omega) (sbyte_lt _ _) (by omega) (by omega)).mono ?_
            rintro e w4 ⟨rfl, vf4, F4, H4, n4, b1, b2, b3, b4, b5⟩
            obtain rfl : n4 = 0 := by omega
            obtain rfl : H4 = 0 := by have := b1.hH; simp at this; exact this
            obtain ⟨hS4, hB4⟩ := (hSk.drewN nq3).put b1 b2 b5
            rw [strm_zero, strm_zero] at b3
            have HN4 := hide (sbits_next HNk.out hlk b3)
            go_wp2
            go_roundg (gk - 1)
            case measure => omega
            case rel => exact ⟨_, vf4, F4, by omega, by omega, by simp, hS4, HN4.out, by omega, hBk.trans (undrew hB4)⟩
end Go.Proofs.Ytbklfkpjoinofaa
