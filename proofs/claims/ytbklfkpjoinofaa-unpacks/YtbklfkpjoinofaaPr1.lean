import Derived.Test.YtbklfkpjoinofaaOwn
import Derived.BigRegion
set_option linter.unusedVariables false
set_option linter.unusedSimpArgs false
namespace Go.Proofs.Ytbklfkpjoinofaa
open Go.RowKit

/-- Only the cells 0 to 3 of block b may have turned. -/
structure Few (b : Nat) (w w' : World) : Prop where
  only : Only b w w'
  cell : ∀ o, 4 ≤ o → w'.cell? ⟨b, o, none⟩ = w.cell? ⟨b, o, none⟩
  frz : ∀ o, w'.frozen? ⟨b, o, none⟩ = w.frozen? ⟨b, o, none⟩

theorem Few.refl (b : Nat) (w : World) : Few b w w := ⟨Only.refl b w, fun _ _ => rfl, fun _ => rfl⟩
theorem Few.trans {b : Nat} {u v w : World} (h : Few b u v) (k : Few b v w) : Few b u w :=
  ⟨h.only.trans k.only, fun o ho => (k.cell o ho).trans (h.cell o ho), fun o => (k.frz o).trans (h.frz o)⟩
theorem Few.drewN {b : Nat} {u w : World} (h : Few b u w) (n : Nat) : Few b u (w.drewN n) := ⟨h.only.drewN n, h.cell, h.frz⟩
theorem Few.setCell {b : Nat} {u w : World} (h : Few b u w) (o : Nat) (v : Value) (ho : o < 4 := by decide) : Few b u (w.setCell ⟨b, o, none⟩ v) :=
  ⟨h.only.setCell o v, fun k hk => (World.cell?_setCell_other _ _ _ _ (by intro e; cases e; omega)).trans (h.cell k hk), fun k => (World.frozen?_setCell ..).trans (h.frz k)⟩
theorem Few.below {b : Nat} {w w' : World} (h : Few b w w') (hb : b < w.heap.size) : Below b w w' := h.only.below hb

/-- The program's reader, at block b: n bits are held, of which the first is the bit p. -/
structure PR (w : World) (b : Nat) (s : ByteArray) (p n : Nat) : Prop where
  at8 : (p + n) % 8 = 0
  le : p + n ≤ 8 * s.size
  c0 : w.cell? ⟨b, 0, none⟩ = some (.string s)
  c1 : w.cell? ⟨b, 1, none⟩ = some (.int .i64 ((p + n) / 8 : Nat))
  c2 : w.cell? ⟨b, 2, none⟩ = some (.int .u32 (Pm.lowV s.data.toList p n : Nat))
  c3 : w.cell? ⟨b, 3, none⟩ = some (.int .i64 n)
  f1 : w.frozen? ⟨b, 1, none⟩ = false
  f2 : w.frozen? ⟨b, 2, none⟩ = false
  f3 : w.frozen? ⟨b, 3, none⟩ = false

theorem PR.lt {w : World} {b : Nat} {s : ByteArray} {p n : Nat} (h : PR w b s p n) : b < w.heap.size := World.block_lt_of_cell? w _ h.c0

/-- The reader's three cells, stored anew. -/
theorem PR.put {w : World} {b : Nat} {s : ByteArray} {p n : Nat} (h : PR w b s p n) {w' : World} {p' n' : Nat} (h8 : (p' + n') % 8 = 0) (hle : p' + n' ≤ 8 * s.size)
    (k0 : w'.cell? ⟨b, 0, none⟩ = w.cell? ⟨b, 0, none⟩) (k1 : w'.cell? ⟨b, 1, none⟩ = some (.int .i64 ((p' + n') / 8 : Nat))) (k2 : w'.cell? ⟨b, 2, none⟩ = some (.int .u32 (Pm.lowV s.data.toList p' n' : Nat))) (k3 : w'.cell? ⟨b, 3, none⟩ = some (.int .i64 n'))
    (kf : ∀ a, w'.frozen? a = w.frozen? a) : PR w' b s p' n' :=
  ⟨h8, hle, k0.trans h.c0, k1, k2, k3, (kf _).trans h.f1, (kf _).trans h.f2, (kf _).trans h.f3⟩

theorem PR.drewN {w : World} {b : Nat} {s : ByteArray} {p n : Nat} (h : PR w b s p n) (q : Nat) : PR (w.drewN q) b s p n := ⟨h.at8, h.le, h.c0, h.c1, h.c2, h.c3, h.f1, h.f2, h.f3⟩

theorem PR.filled {w : World} {b : Nat} {s : ByteArray} {p n : Nat} (h : PR w b s p n) {z x y : Value} (hlt : p + n < 8 * s.size) (hz : z = .int .u32 (Pm.lowV s.data.toList p (n + 8) : Nat)) (hx : x = .int .i64 ((p + n) / 8 + 1 : Nat)) (hy : y = .int .i64 (n + 8 : Nat)) :
    PR (((w.setCell ⟨b, 2, none⟩ z).setCell ⟨b, 1, none⟩ x).setCell ⟨b, 3, none⟩ y) b s p (n + 8) := by
  subst hz hx hy
  have h8 := h.at8
  refine h.put (by omega) (by omega) ?_ ?_ ?_ ?_ ?_
  · rw [World.cell?_setCell_other _ _ _ _ (by simp), World.cell?_setCell_other _ _ _ _ (by simp), World.cell?_setCell_other _ _ _ _ (by simp)]
  · rw [World.cell?_setCell_other _ _ _ _ (by simp)]
    rw [World.cell?_setCell_same (u := .int .i64 ((p + n) / 8 : Nat)) _ _ _ (by rw [World.cell?_setCell_other _ _ _ _ (by simp)]; exact h.c1)]
    congr 3; omega
  · rw [World.cell?_setCell_other _ _ _ _ (by simp), World.cell?_setCell_other _ _ _ _ (by simp)]
    exact World.cell?_setCell_same _ _ _ h.c2
  · exact World.cell?_setCell_same (u := .int .i64 n) _ _ _ (by rw [World.cell?_setCell_other _ _ _ _ (by simp), World.cell?_setCell_other _ _ _ _ (by simp)]; exact h.c3)
  · intro a; rw [World.frozen?_setCell, World.frozen?_setCell, World.frozen?_setCell]

theorem PR.taken {w : World} {b : Nat} {s : ByteArray} {p n k : Nat} (h : PR w b s p n) {z y : Value} (hk : k ≤ n) (hz : z = .int .u32 (Pm.lowV s.data.toList (p + k) (n - k) : Nat)) (hy : y = .int .i64 (n - k : Nat)) :
    PR ((w.setCell ⟨b, 2, none⟩ z).setCell ⟨b, 3, none⟩ y) b s (p + k) (n - k) := by
  subst hz hy
  have h8 := h.at8
  have hl := h.le
  have e1 : p + k + (n - k) = p + n := by omega
  refine h.put (by omega) (by omega) ?_ ?_ ?_ ?_ ?_
  · rw [World.cell?_setCell_other _ _ _ _ (by simp), World.cell?_setCell_other _ _ _ _ (by simp)]
  · rw [World.cell?_setCell_other _ _ _ _ (by simp), World.cell?_setCell_other _ _ _ _ (by simp), e1]; exact h.c1
  · rw [World.cell?_setCell_other _ _ _ _ (by simp)]
    exact World.cell?_setCell_same _ _ _ h.c2
  · exact World.cell?_setCell_same (u := .int .i64 n) _ _ _ (by rw [World.cell?_setCell_other _ _ _ _ (by simp)]; exact h.c3)
  · intro a; rw [World.frozen?_setCell, World.frozen?_setCell]

theorem byte_at (s : ByteArray) (i : Nat) (hi : i < s.size) : Pm.lowV s.data.toList (8 * i) 8 = s[i].toNat := by
  rw [Pm.num_byte, List.getD_eq_getElem?_getD, List.getElem?_eq_getElem (by simpa using hi)]; rfl

theorem or_val (s : ByteArray) (p m i : Nat) (hi : i < s.size) (he : p + m = 8 * i) (hm : m ≤ 15) :
    bits BinOp.or IntKind.u32 (Pm.lowV s.data.toList p m : Nat) ((s[i].toNat : Int) % 4294967296 * 2 ^ m % 4294967296) = ((Pm.lowV s.data.toList p (m + 8) : Nat) : Int) := by
  have hb : s[i].toNat < 256 := s[i].toNat_lt
  have hF : 2 ^ m ≤ 32768 := Nat.le_trans (Nat.pow_le_pow_right (by decide) hm) (by decide)
  have hP : s[i].toNat * 2 ^ m < 16777216 := by
    have : s[i].toNat * 2 ^ m ≤ 255 * 32768 := Nat.mul_le_mul (by omega) hF
    omega
  have e1 : (s[i].toNat : Int) % 4294967296 * 2 ^ m % 4294967296 = ((s[i].toNat * 2 ^ m : Nat) : Int) := by
    have e0 : (s[i].toNat : Int) % 4294967296 = (s[i].toNat : Int) := Int.emod_eq_of_lt (by omega) (by omega)
    rw [e0]
    have e2 : (s[i].toNat : Int) * 2 ^ m = ((s[i].toNat * 2 ^ m : Nat) : Int) := by push_cast; rfl
    rw [e2]; omega
  have hl := Pm.lowV_lt s.data.toList p m
  rw [e1, u32_or_nat _ _ (by omega) (by omega), Nat.or_comm, nat_join m _ _ (Nat.mul_mod_left _ _) hl, Pm.lowV_add, he, byte_at s i hi]
  congr 1
  rw [Nat.mul_comm]; omega

theorem ret_ib {a b : Int} {c : Bool} (h : a = b) : Ending.returned (.tuple #[.int .i64 a, .bool c]) = .returned (.tuple #[.int .i64 b, .bool c]) := by rw [h]

theorem and_val (hv k : Nat) (hk : k ≤ 16) (hh : hv ≤ 16777216) : wrap64 (bits BinOp.and IntKind.u32 (hv : Int) ((2 ^ k - 1) % 4294967296)) = ((hv % 2 ^ k : Nat) : Int) := by
  have hF : 2 ^ k ≤ 65536 := Nat.le_trans (Nat.pow_le_pow_right (by decide) hk) (by decide)
  have h0 := Nat.two_pow_pos k
  have e1 : ((2 : Int) ^ k - 1) % 4294967296 = ((2 ^ k - 1 : Nat) : Int) := by
    have e2 : (2 : Int) ^ k = ((2 ^ k : Nat) : Int) := by push_cast; rfl
    rw [e2]; omega
  rw [e1, u32_and_nat _ _ (by omega) (by omega), Nat.and_two_pow_sub_one_eq_mod]
  have := Nat.mod_lt hv h0
  exact IntWalk.wrap64_in _ (by omega)

theorem low_mod (l : List UInt8) (p m k : Nat) (h : k ≤ m) : Pm.lowV l p m % 2 ^ k = Pm.lowV l p k ∧ Pm.lowV l p m / 2 ^ k = Pm.lowV l (p + k) (m - k) := by
  obtain ⟨r, rfl⟩ : ∃ r, m = k + r := ⟨m - k, by omega⟩
  have hl := Pm.lowV_lt l p k
  rw [Pm.lowV_add, Nat.add_mul_mod_self_left, Nat.mod_eq_of_lt hl, Nat.add_mul_div_left _ _ (Nat.two_pow_pos k), Nat.div_eq_of_lt hl]
  refine ⟨rfl, ?_⟩
  rw [Nat.zero_add]; congr 1; omega

set_option maxRecDepth 100000 in
set_option maxHeartbeats 1000000 in
theorem take_ok (w : World) (b : Nat) (s : ByteArray) (p n k : Nat) (h : PR w b s p n) (hn : n < 8) (hk : k ≤ 16) (hs : s.size ≤ 140737488355328) (hp : p + k ≤ 8 * s.size) :
    Calls Try.prog 31 #[.pointer (some ⟨b, 0, none⟩), .int .i64 k] w fun e w' => e = .returned (.tuple #[.int .i64 (Pm.lowV s.data.toList p k : Nat), .bool true]) ∧ (∃ n', n' < 8 ∧ PR w' b s (p + k) n') ∧ Few b w w' := by
  go_enter Try.func31, Try.ntmps31
  go_wp2
  go_loopg [4] 30 (fun g _ wr => ∃ m, PR wr b s p m ∧ m < k + 8 ∧ Few b w wr ∧ 24 - m ≤ g)
  case atStart => exact ⟨n, h, by omega, Few.refl b w, by omega⟩
  case round =>
    clear h hn
    obtain ⟨m, hr, hm, ho, hg⟩ := hrel
    have a8 := hr.at8
    have al := hr.le
    have c0 := hr.c0
    have c1 := hr.c1
    have c2 := hr.c2
    have c3 := hr.c3
    have f1 := hr.f1
    have f2 := hr.f2
    have f3 := hr.f3
    by_cases hlt : m < k
    · have hat : (p + m) / 8 < s.size := by omega
      have HV := hide (or_val s p m ((p + m) / 8) hat (by omega) (by omega))
      have HR := hide (fun (z x y : Value) (q : Nat) hz hx hy => (hr.drewN q).filled (z := z) (x := x) (y := y) (by omega) hz hx hy)
      generalize hat' : (p + m) / 8 = at_ at *
      generalize hhv : Pm.lowV s.data.toList p m = hv at *
      clear hat' hhv
      go_wp2
      go_quiet (fail)
      go_wp2
      go_region
      go_wp2
      go_roundg (gk - 1)
      case measure => omega
      case rel =>
        refine ⟨m + 8, HR.out _ _ _ _ (by rw [HV.out]) (by go_num) (by go_num), by omega, ?_, by omega⟩
        exact (((ho.drewN _).setCell _ _).setCell _ _).setCell _ _
    · have HL := hide (low_mod s.data.toList p m k (by omega))
      have HR := hide (fun (z y : Value) (q : Nat) hz hy => (hr.drewN q).taken (z := z) (y := y) (k := k) (by omega) hz hy)
      have hlt2 := Pm.lowV_lt s.data.toList p m
      have hlt3 : (2 : Nat) ^ m ≤ 16777216 := Nat.le_trans (Nat.pow_le_pow_right (by decide) (show m ≤ 24 by omega)) (by decide)
      have hlt4 : Pm.lowV s.data.toList p m ≤ 16777216 := by omega
      clear hlt2 hlt3
      generalize (p + m) / 8 = at_ at *
      generalize hhv : Pm.lowV s.data.toList p m = hv at *
      clear hhv
      go_wp2
      go_quiet (fail)
      go_wp2
      go_ret2
      refine ⟨ret_ib ?_, ⟨m - k, by omega, HR.out _ _ _ ?_ ?_⟩, ((ho.drewN _).setCell _ _).setCell _ _⟩
      · rw [and_val hv k hk hlt4, HL.out.1]
      · rw [← HL.out.2]; first | rfl | (push_cast; rfl)
      · go_num

set_option maxRecDepth 100000 in
set_option maxHeartbeats 1000000 in
/-- Too few bits: nothing is taken. -/
theorem take_no (w : World) (b : Nat) (s : ByteArray) (p n k : Nat) (h : PR w b s p n) (hn : n < 16) (hk : k ≤ 16) (hs : s.size ≤ 140737488355328) (hp : 8 * s.size < p + k) :
    Calls Try.prog 31 #[.pointer (some ⟨b, 0, none⟩), .int .i64 k] w fun e w' => e = .returned (.tuple #[.int .i64 0, .bool false]) ∧ (∃ n', n' < 16 ∧ PR w' b s p n') ∧ Few b w w' := by
  go_enter Try.func31, Try.ntmps31
  go_wp2
  go_loopg [4] 30 (fun g _ wr => ∃ m, PR wr b s p m ∧ m < 16 ∧ Few b w wr ∧ 24 - m ≤ g)
  case atStart => exact ⟨n, h, by omega, Few.refl b w, by omega⟩
  case round =>
    clear h hn
    obtain ⟨m, hr, hm, ho, hg⟩ := hrel
    have a8 := hr.at8
    have al := hr.le
    have c0 := hr.c0
    have c1 := hr.c1
    have c2 := hr.c2
    have c3 := hr.c3
    have f1 := hr.f1
    have f2 := hr.f2
    have f3 := hr.f3
    have hlt : m < k := by omega
    by_cases hat : (p + m) / 8 < s.size
    · have HV := hide (or_val s p m ((p + m) / 8) hat (by omega) (by omega))
      have HR := hide (fun (z x y : Value) (q : Nat) hz hx hy => (hr.drewN q).filled (z := z) (x := x) (y := y) (by omega) hz hx hy)
      have hm8 : m + 8 < 16 := by omega
      generalize hat' : (p + m) / 8 = at_ at *
      generalize hhv : Pm.lowV s.data.toList p m = hv at *
      clear hat' hhv
      go_wp2
      go_quiet (fail)
      go_wp2
      go_region
      go_wp2
      go_roundg (gk - 1)
      case measure => omega
      case rel =>
        refine ⟨m + 8, HR.out _ _ _ _ (by rw [HV.out]) (by go_num) (by go_num), by omega, ?_, by omega⟩
        exact (((ho.drewN _).setCell _ _).setCell _ _).setCell _ _
    · generalize (p + m) / 8 = at_ at *
      go_wp2
      go_quiet (fail)
      go_wp2
      go_ret2
      exact ⟨rfl, ⟨m, hm, hr.drewN _⟩, ho.drewN _⟩
end Go.Proofs.Ytbklfkpjoinofaa
