import Derived.Test.YtbklfkpjoinofaaRef6
import Derived.Laws.IdiomStrings
import Derived.Laws.BytesArg
set_option linter.unusedVariables false
set_option linter.unusedSimpArgs false
namespace Go.Proofs.Ytbklfkpjoinofaa
open Go.RowKit

theorem Out.str {w : World} {b : Nat} {v : Value} {out : List UInt8} (h : Out w b v out) : (convert 29 9 v).run Try.prog w = .ok (.string ⟨out.toArray⟩) w := by
  rcases h.own.2 with ⟨rfl, hn⟩ | ⟨g, cap, cur, rfl, hb, _⟩
  · rw [run_convert_bytes_nil (w := w) 29 5 Try.underlying29 Try.underlying5 0 0 9 Try.underlying9]
    have : out = [] := List.eq_nil_of_length_eq_zero hn
    subst this; rfl
  · refine run_convert_bytes_back w 29 9 5 ⟨g, 0, none⟩ cap out Try.underlying29 Try.underlying5 Try.underlying9 ?_
    intro j hj
    have hx : (cells out)[j]? = some (.int .u8 ((out[j].toNat : Nat) : Int)) := by simp [cells, List.getElem?_eq_getElem hj]
    exact h.own.cells (g := g) rfl j _ hx

/-- What Unpack answers. -/
def ansV : Option (List UInt8 × Nat) → Value
  | some (o, n) => .tuple #[.string ⟨o.toArray⟩, .int .i64 n, .int .i64 0]
  | none => .tuple #[.string ⟨#[]⟩, .int .i64 0, .int .i64 5]

theorem refcoded_bad (w : World) (b : Nat) (s : ByteArray) (p : Nat) (v : Value) (out : List UInt8) (h : RB w b s p true) (hO : Out w b v out) :
    Calls Try.prog 14 #[.pointer (some ⟨b, 0, none⟩), v] w fun e w' => e = .returned v ∧ w' = w := by
  have c2 := h.c2
  obtain ⟨ad, cap, hform, _⟩ := hO.form
  subst hform
  go_enter Try.func14, Try.ntmps14
  go_wp2
  refine wp_loop_rounds 1 ?_
  rw [rounds_succ]
  go_wp2
  go_ret
  exact ⟨rfl, rfl⟩

theorem getD_at (s : ByteArray) (i : Nat) (h : i < s.size) : s.data.toList.getD i 0 = s[i] := by
  rw [List.getD_eq_getElem?_getD, List.getElem?_eq_getElem (by simpa using h)]; rfl

set_option maxRecDepth 100000 in
set_option maxHeartbeats 1000000 in
theorem refUnpack_head (w : World) (s : ByteArray) (hs : s.size ≤ 140737488355328) (hh : Pm.headB s.data.toList = false) :
    Calls Try.prog 7 #[.string s] w fun e w' => e = .returned (ansV (Pm.unpackM s.data.toList)) ∧ Below w.heap.size w w' := by
  rw [Pm.unpack_head hh]
  unfold Pm.headB at hh
  have hlen : s.data.toList.length = s.size := by simp
  rw [hlen] at hh
  by_cases h2 : s.size < 2
  · clear hh hlen
    go_enter Try.func7, Try.ntmps7
    go_wp2
    go_ret3
    exact ⟨rfl, Below.refl _ _⟩
  · have h0 : 0 < s.size := by omega
    have h1 : 1 < s.size := by omega
    rw [getD_at s 0 h0, getD_at s 1 h1] at hh
    have b0 : s[0].toNat < 256 := s[0].toNat_lt
    have b1 : s[1].toNat < 256 := s[1].toNat_lt
    by_cases k0 : s[0].toNat = 120
    · by_cases k1 : (30720 + s[1].toNat) % 31 = 0
      · have k2 : ¬ s[1].toNat / 32 % 2 = 0 := by
          intro k2
          simp only [decide_eq_false_iff_not] at hh
          exact hh ⟨by omega, k0, k1, k2⟩
        have q0 : (((s[0].toNat : Nat) : Int) != 120) = false := by rw [bne_eq_false_iff_eq]; omega
        have q1 : (((30720 : Int) + ((s[1].toNat : Nat) : Int)) % 31 != 0) = false := by rw [bne_eq_false_iff_eq]; omega
        have q2 : (((s[1].toNat : Nat) : Int) / 32 % 2 != 0) = true := by rw [bne_iff_ne]; omega
        clear hh hlen k0 k1 k2
        have w1 := wrap64_byteI s[1]
        go_enter Try.func7, Try.ntmps7
        go_wp2
        go_ret3
        exact ⟨rfl, Below.refl _ _⟩
      · have q0 : (((s[0].toNat : Nat) : Int) != 120) = false := by rw [bne_eq_false_iff_eq]; omega
        have q1 : (((30720 : Int) + ((s[1].toNat : Nat) : Int)) % 31 != 0) = true := by rw [bne_iff_ne]; omega
        clear hh hlen k0 k1
        have w1 := wrap64_byteI s[1]
        go_enter Try.func7, Try.ntmps7
        go_wp2
        go_ret3
        exact ⟨rfl, Below.refl _ _⟩
    · have q0 : (((s[0].toNat : Nat) : Int) != 120) = true := by rw [bne_iff_ne]; omega
      clear hh hlen k0
      go_enter Try.func7, Try.ntmps7
      go_wp2
      go_ret3
      exact ⟨rfl, Below.refl _ _⟩
end Go.Proofs.Ytbklfkpjoinofaa
