import Derived.Test.YtbklfkpjoinofaaSame
import Derived.Test.YtbklfkpjoinofaaStab
import Derived.Test.YtbklfkpjoinofaaPr11
import Derived.Test.YtbklfkpjoinofaaArg
import Derived.OpenShut
import Derived.JoinedCond
set_option linter.unusedVariables false
set_option linter.unusedSimpArgs false
namespace Go.Proofs.Ytbklfkpjoinofaa
open Go.RowKit

set_option maxRecDepth 100000 in
theorem pick_any (w : World) (z : Int) (N : Nat) (h0 : -9223372036854775808 ≤ z) (h1 : z ≤ 9223372036854775807) (hN : 0 < N) (hN2 : N ≤ 100000000) :
    Calls Try.prog 9 #[.int .i64 z, .int .i64 N] w fun e w' => ∃ j : Nat, j < N ∧ e = .returned (.int .i64 j) ∧ w' = w := by
  by_cases hz : z < 0
  · have h2 : (-(z + 1)) % (N : Int) < N := Int.emod_lt_of_pos _ (by omega)
    have h3 : 0 ≤ (-(z + 1)) % (N : Int) := Int.emod_nonneg _ (by omega)
    have h4 : 0 ≤ -(z + 1) := by omega
    have h5 : -(z + 1) ≤ 9223372036854775807 := by omega
    have h6 : -((z + 1).tmod (N : Int)) = (-(z + 1)) % (N : Int) := by rw [← Int.neg_tmod, Int.tmod_eq_emod_of_nonneg h4]
    have H6 := hide h6
    have H2 := hide h2
    have H3 := hide h3
    clear h6 h2 h3
    go_enter Try.func9, Try.ntmps9
    go_wp2
    go_ret
    have h2 := H2.out
    have h3 := H3.out
    refine ⟨((-(z + 1)) % (N : Int)).toNat, by omega, ret_int ?_, rfl⟩
    rw [Int.toNat_of_nonneg h3]; exact H6.out
  · have h2 : z % (N : Int) < N := Int.emod_lt_of_pos _ (by omega)
    have h3 : 0 ≤ z % (N : Int) := Int.emod_nonneg _ (by omega)
    go_enter Try.func9, Try.ntmps9
    go_wp2
    go_ret
    refine ⟨(z % (N : Int)).toNat, by omega, ret_int ?_, rfl⟩
    exact (Int.toNat_of_nonneg h3).symm

theorem make_bytes (M : Nat) (hM : M ≤ 21000) (w : World) : (Instr.makeSlice 29 (.int .i64 M) (.int .i64 M)).run Try.prog w = .ok (.slice (some ⟨w.heap.size, 0, none⟩) M M) (w.alloc (.cells (cells (List.replicate M 0)).toArray 5)) := by
  obtain ⟨i0, hi, hz0, hz1, hz2⟩ := info_parts Try.info5
  have h := run_make (P := Try.prog) w 29 5 i0 (.int .u8 0) Try.underlying29 hi hz0 .i64 .i64 M M (by omega) (by omega) (by rw [hz2]; omega) (by omega)
  rw [h, hz1]
  have e : madeCells (Value.int IntKind.u8 0).cells ((M : Int).toNat * 1) = (cells (List.replicate M 0)).toArray := by
    apply Array.ext'
    have := toList_madeCells_one (.int .u8 0) M
    rw [Int.toNat_natCast, Nat.mul_one]
    refine this.trans ?_
    simp [cells]
  rw [e, Int.toNat_natCast]

/-- The row that is being filled: k bytes c, and noughts. -/
def Filled (w : World) (base g M : Nat) (c : UInt8) (k : Nat) : Prop := w.ownsRow base 5 1 (.slice (some ⟨g, 0, none⟩) M M) M (cells (List.replicate k c ++ List.replicate (M - k) 0))

theorem made_bytes (w : World) (M : Nat) (hM : M ≤ 21000) (base : Nat) (hb : base ≤ w.heap.size) (c : UInt8) : Filled (w.alloc (.cells (cells (List.replicate M 0)).toArray 5)) base w.heap.size M c 0 := by
  refine ⟨by simp [cells], .inr ⟨w.heap.size, M, (cells (List.replicate M 0)).toArray, rfl, hb, heap_alloc_new w _, Nat.le_refl _, by unfold maxLen; omega, by simp [cells], ?_⟩⟩
  simp [cells]

theorem Filled.at {w : World} {base g M k : Nat} {c : UInt8} (h : Filled w base g M c k) (hk : k < M) : w.cell? ⟨g, k, none⟩ = some (.int .u8 0) := by
  rw [World.ownsRow.cellAt h k (by omega)]
  unfold cells
  rw [List.getElem?_map, List.getElem?_append_right (by simp)]
  simp [List.getElem?_replicate]
  omega

theorem Filled.next {w : World} {base g M k : Nat} {c : UInt8} (h : Filled w base g M c k) (hk : k < M) {x : Value} (hx : x = .int .u8 (c.toNat : Nat)) : Filled (w.setCell ⟨g, k, none⟩ x) base g M c (k + 1) := by
  subst hx
  have hs := (h.stored k (.int .u8 (c.toNat : Nat))).1
  unfold Filled
  have e : cells (List.replicate (k + 1) c ++ List.replicate (M - (k + 1)) 0) = (cells (List.replicate k c ++ List.replicate (M - k) 0)).set k (.int .u8 (c.toNat : Nat)) := by
    obtain ⟨r, hr⟩ : ∃ r, M - k = r + 1 := ⟨M - k - 1, by omega⟩
    rw [show M - (k + 1) = r by omega, hr]
    unfold cells
    rw [← List.map_set]
    congr 1
    rw [List.replicate_succ', List.set_append, List.append_assoc]
    simp [List.replicate_succ]
  rw [e]; exact hs

theorem Filled.cell {w : World} {base g M : Nat} {c : UInt8} (h : Filled w base g M c M) (j : Nat) (hj : j < M) : w.cell? ⟨g, j, none⟩ = some (.int .u8 (c.toNat : Nat)) := by
  rw [World.ownsRow.cellAt h j (by omega)]
  unfold cells
  rw [List.getElem?_map, List.getElem?_append_left (by simp; exact hj)]
  simp [List.getElem?_replicate, hj]

theorem Filled.str {w : World} {base g M : Nat} {c : UInt8} (h : Filled w base g M c M) (o n cap : Nat) (hn : o + n ≤ M) : (convert 29 9 (.slice (some ⟨g, o, none⟩) n cap)).run Try.prog w = .ok (.string (bytesOf (List.replicate n c))) w := by
  have hl : (List.replicate n c).length = n := by simp
  have hr := run_convert_bytes_back (P := Try.prog) w 29 9 5 ⟨g, o, none⟩ cap (List.replicate n c) Try.underlying29 Try.underlying5 Try.underlying9 (by
    intro j hj
    rw [hl] at hj
    have hadd : (⟨g, o, none⟩ : Addr).add j = ⟨g, o + j, none⟩ := by unfold Addr.add; split <;> simp_all
    rw [hadd, h.cell (o + j) (by omega)]
    simp)
  rw [hl] at hr
  exact hr

theorem Filled.drewN {w : World} {base g M k : Nat} {c : UInt8} (h : Filled w base g M c k) (q : Nat) : Filled (w.drewN q) base g M c k := h
theorem Filled.below {w w' : World} {base g M k B : Nat} {c : UInt8} (h : Filled w base g M c k) (hB : Below B w w') (hg : g < B) : Filled w' base g M c k :=
  own_same h (fun x hx => by
    have e : x = g := by simpa [Value.ownBlock] using hx.symm
    exact hB.block x (by omega))

theorem two_cat (T R : Nat) (c : UInt8) : catB [bytesOf (List.replicate T c), bytesOf (List.replicate R c)] = List.replicate (T + R) c := by
  simp only [catB, bytesOf, List.append_nil]
  exact List.replicate_append_replicate

theorem two_cells (w : World) (X1 X2 : ByteArray) (t : TypeId) : ∀ (j : Nat) X, [X1, X2][j]? = some X → (w.alloc (.cells #[.string X1, .string X2] t)).cell? ⟨w.heap.size, 0 + j, none⟩ = some (.string X) := by
  intro j X h
  match j, h with
  | 0, h => simp at h; subst h; simp
  | 1, h => simp at h; subst h; simp
  | (j + 2), h => simp at h

theorem byte_of (z : Int) : ∃ c : UInt8, (c.toNat : Int) = z % 256 := by
  refine ⟨UInt8.ofNat (z % 256).toNat, ?_⟩
  have h1 : 0 ≤ z % 256 := by omega
  have h2 : z % 256 < 256 := by omega
  have h3 : (z % 256).toNat < 256 := by omega
  simp
  omega

theorem ans_some (l D : List UInt8) (r : ByteArray) (h : Pm.unpackM l = some (D, l.length)) : ansV (Pm.unpackM (bytesOf l ++ r).data.toList) = .tuple #[.string (bytesOf D), .int .i64 l.length, .int .i64 0] := by
  have e : (bytesOf l ++ r).data.toList = l ++ r.data.toList := by rw [bytes_add]; simp [bytesOf]
  rw [e, (Pm.unpack_app l r.data.toList h).1]
  rfl

theorem ans_two (D : List UInt8) (n : Nat) : ansV (some (D, n)) = .tuple #[.string (bytesOf D), .int .i64 n, .int .i64 0] := rfl

theorem ans_cut (l D : List UInt8) (j : Nat) (h : Pm.unpackM l = some (D, l.length)) (hj : j < l.length) : ansV (Pm.unpackM ((bytesOf l).extract 0 j).data.toList) = .tuple #[.string ⟨#[]⟩, .int .i64 0, .int .i64 5] := by
  have e : ((bytesOf l).extract 0 j).data.toList = l.take j := by rw [ext_take]; simp [bytesOf]
  rw [e, Pm.unpack_cut l D h j hj]
  rfl

set_option maxRecDepth 100000 in
set_option maxHeartbeats 8000000 in
theorem packed_walk (w : World) (a0 : Option Addr) (len cap b off : Nat) (Xs : List ByteArray) (tl : ByteArray) (zn zc zm : Int) (hl : Xs.length = len) (hm : len ≤ maxLen) (ha : 0 < len → a0 = some ⟨b, off, none⟩ ∧ b < w.heap.size) (hc : ∀ (j : Nat) X, Xs[j]? = some X → w.cell? ⟨b, off + j, none⟩ = some (.string X)) (hX : (catB Xs).length ≤ 1048576) (ht : tl.size ≤ 1048576)
    (hn0 : -9223372036854775808 ≤ zn) (hn1 : zn ≤ 9223372036854775807) (hc0 : -9223372036854775808 ≤ zc) (hc1 : zc ≤ 9223372036854775807) (hm0 : -9223372036854775808 ≤ zm) (hm1 : zm ≤ 9223372036854775807) :
    Calls Try.prog 5 #[.slice a0 len cap, .string tl, .int .i64 zn, .int .i64 zc, .int .i64 zm] w fun e w' => e = .returned (.bool true) ∧ Below w.heap.size w w' := by
  have HP := hide (pressPack_any mute_keeps w a0 len cap b off Xs hl hm ha hc hX (fun _ _ _ _ _ => trivial))
  unfold maxLen at hm
  go_enter Try.func5, Try.ntmps5
  go_wp2
  go_loopg [11, 12] (len + 1) (fun g x i wr => ∃ k : Nat, k ≤ len ∧ len - k < g ∧ i = .int .i64 k ∧ x = .string (bytesOf (catB (Xs.take k))) ∧ wr = w)
  case atStart => exact ⟨0, by omega, by omega, rfl, by simp [catB, bytesOf], rfl⟩
  case round =>
    obtain ⟨k, hk, hg, rfl, rfl, rfl⟩ := hrel
    have hle := catB_le Xs k
    by_cases hlt : k < len
    · obtain ⟨rfl, hbl⟩ := ha (by omega)
      have hkX : k < Xs.length := by omega
      have hXk : Xs[k]? = some Xs[k] := List.getElem?_eq_getElem hkX
      have hcell := hc k _ hXk
      have hsn := catB_take Xs k hkX
      have HAdd := hide (bytes_add (catB (Xs.take k)) Xs[k])
      have hle2 := catB_le Xs (k + 1)
      have hls : (catB (Xs.take k)).length + Xs[k].size ≤ 1048576 := by
        rw [hsn, List.length_append] at hle2
        have : Xs[k].data.toList.length = Xs[k].size := by simp
        omega
      have hbs := bytes_size (catB (Xs.take k))
      rw [← hsn] at HAdd
      clear hXk hc ha hsn hle2
      generalize Xs[k] = s at *
      go_wp2
      go_roundg (gk - 1)
      case measure => omega
      case rel => exact ⟨k + 1, by omega, by omega, by go_num, by rw [HAdd.out], rfl⟩
    · have hkl : Xs.take k = Xs := List.take_of_length_le (by omega)
      rw [hkl]
      clear hc ha hkl hle
      generalize catB Xs = D at *
      have hbs := bytes_size D
      obtain ⟨A, hA⟩ : ∃ A, A = bytesOf D := ⟨_, rfl⟩
      rw [← hA] at hbs ⊢
      have HA := hide hA
      clear hA
      go_wp2_with fail
      refine HP.out.mono ?_
      rintro e w1 ⟨l, rfl, ⟨hU, hsz, h6, _⟩, hB1⟩
      have HU := hide hU
      have HS1 := hide (ans_some l D tl hU)
      have HS2 := hide (fun j => ans_cut l D j hU)
      have hls := bytes_size l
      clear hU HP
      rw [show (⟨l.toArray⟩ : ByteArray) = bytesOf l from rfl]
      generalize bytesOf l = S at *
      have HUn := hide (Unpack_any w1 (S ++ tl) (by simp; omega))
      rw [HS1.out, ← HA.out] at HUn
      go_wp2_with fail
      refine HUn.out.mono ?_
      rintro e w2 ⟨rfl, hB2⟩
      have HB2 := hide (hB1.trans (hB2.mono hB1.size))
      clear hB1 hB2 HUn HS1
      have hcmp : ¬ ((A.size : Int) + (A.size : Int) / 5 + 30 < (S.size : Int)) := by omega
      go_wp2_with fail
      refine (pick_any w2 zn l.length hn0 hn1 (by omega) (by omega)).mono ?_
      rintro e w3 ⟨j, hj, rfl, rfl⟩
      have hjs : j ≤ S.size := by omega
      have HUn2 := hide (Unpack_any w3 (S.extract 0 j) (by simp; omega))
      rw [HS2.out j hj] at HUn2
      clear HS2
      go_wp2_with fail
      refine HUn2.out.mono ?_
      rintro e w4 ⟨rfl, hB4⟩
      have HB4 := hide (HB2.out.trans (hB4.mono HB2.out.size))
      clear hB4 HUn2 HB2
      go_wp2_with fail
      refine (pick_any w4 zm 20000 hm0 hm1 (by omega) (by omega)).mono ?_
      rintro e w5 ⟨j2, hj2, rfl, rfl⟩
      obtain ⟨M, hM⟩ : ∃ M, M = 1000 + j2 := ⟨_, rfl⟩
      have eM : (1000 : Int) + (j2 : Int) = (M : Int) := by omega
      have hM1 : 1000 ≤ M := by omega
      have hM2 : M ≤ 21000 := by omega
      clear hM
      have hmk := make_bytes M hM2
      obtain ⟨cc, hcc⟩ := byte_of zc
      obtain ⟨base, hbase⟩ : ∃ base, base = w5.heap.size := ⟨_, rfl⟩
      have HM := hide (made_bytes w5 M hM2 base (by omega))
      go_wp2
      rw [← hbase]
      have HB5 : Hid (Below base w5 (w5.alloc (.cells (cells (List.replicate M 0)).toArray 5))) := by rw [hbase]; exact (Below.refl _ w5).alloc (Nat.le_refl _) _
      rw [← hbase] at HM
      have HBs := hide hbase
      have hbz : base ≤ w5.heap.size := by omega
      clear hmk hbase
      generalize w5.alloc (.cells (cells (List.replicate M 0)).toArray 5) = w6 at *
      go_loopg [20] (M + 1) (fun g x wr2 => ∃ k : Nat, k ≤ M ∧ M - k < g ∧ x = .int .i64 k ∧ Filled wr2 base base M cc k ∧ Below base w5 wr2)
      case atStart => exact ⟨0, by omega, by omega, rfl, HM.out cc, HB5.out⟩
      case round =>
        clear HM HB5
        obtain ⟨i, hi, hig, rfl, hFi, hBi⟩ := hrel
        by_cases hiM : i < M
        · have kf := World.ownsRow.frozenAt hFi i
          have kx := hFi.at hiM
          have hii : (i : Int) < (M : Int) := by omega
          go_wp2
          go_roundg (gk - 1)
          case measure => omega
          case rel =>
            refine ⟨i + 1, by omega, by omega, by go_num, hFi.next hiM (by rw [hcc]), ?_⟩
            exact hBi.trans ((fr_set _ base i _).below (by have := hBi.size; omega) (fun k e => by omega))
        · obtain rfl : i = M := by omega
          clear hc0 hc1 hn0 hn1 hm0 hm1 hcc hcmp hig hiM hi
          obtain ⟨T3, hT⟩ : ∃ T3, T3 = i / 3 := ⟨_, rfl⟩
          have eT : (i : Int) / 3 = (T3 : Int) := by omega
          have hT1 : (T3 : Int) < (i : Int) := by omega
          have hT2 : 0 < T3 := by omega
          have hTR : T3 + (i - T3) = i := by omega
          have HTR := hide hTR
          clear hT hTR
          have hcv1 : ∀ q, (convert 29 9 (.slice (some ⟨base, 0, none⟩) T3 i)).run Try.prog (wr.drewN q) = .ok (.string (bytesOf (List.replicate T3 cc))) (wr.drewN q) := fun q => (hFi.drewN q).str 0 T3 i (by omega)
          have hcv2 : ∀ q, (convert 29 9 (.slice (some ⟨base, T3, none⟩) (i - T3) (i - T3))).run Try.prog (wr.drewN q) = .ok (.string (bytesOf (List.replicate (i - T3) cc))) (wr.drewN q) := fun q => (hFi.drewN q).str T3 (i - T3) (i - T3) (by omega)
          have HCat := hide (two_cat T3 (i - T3) cc)
          obtain ⟨X1, hX1⟩ : ∃ X1, X1 = bytesOf (List.replicate T3 cc) := ⟨_, rfl⟩
          obtain ⟨X2, hX2⟩ : ∃ X2, X2 = bytesOf (List.replicate (i - T3) cc) := ⟨_, rfl⟩
          rw [← hX1] at hcv1 HCat
          rw [← hX2] at hcv2 HCat
          rw [HTR.out] at HCat
          clear hX1 hX2
          go_wp2
          refine wp_quiet_tail 10 (by kernel_rfl) (by kernel_rfl) ?_
          simp only [List.take_succ_cons, List.take_zero, List.drop_succ_cons, List.drop_zero]
          repeat (go_big_quiet_step (fail))
          refine wpQuiet_nil ?_
          intro _ hw'
          obtain ⟨nq2, hw''⟩ := hw'
          subst hw''
          clear hcv1 hcv2
          have hall : ∀ x ∈ List.replicate i cc, x = cc := fun x hx => List.eq_of_mem_replicate hx
          have hDl : (List.replicate i cc).length = i := by simp
          have HPk := pressPack_any (same_keeps cc) ((wr.drewN nq2).alloc (.cells #[.string X1, .string X2] 9)) (some ⟨wr.heap.size, 0, none⟩) 2 2 wr.heap.size 0 [X1, X2] rfl (by decide) (fun _ => ⟨rfl, by simp⟩) (two_cells (wr.drewN nq2) X1 X2 9) (by rw [HCat.out, hDl]; omega) (same_turn cc (by rw [HCat.out, hDl]; exact hM1))
          rw [HCat.out] at HPk
          have HF7 : Hid (Filled ((wr.drewN nq2).alloc (.cells #[.string X1, .string X2] 9)) base base i cc i) := (hFi.drewN nq2).alloc _
          have hbl := (hFi.lt base rfl).2
          have HB7 : Hid (Below base w5 ((wr.drewN nq2).alloc (.cells #[.string X1, .string X2] 9))) := (show Below base w5 (wr.drewN nq2) from ⟨hBi.os, hBi.tape, hBi.output, hBi.size, hBi.block⟩).alloc (by show base ≤ wr.heap.size; omega) _
          have hW7 : base < ((wr.drewN nq2).alloc (.cells #[.string X1, .string X2] 9)).heap.size := by simp; omega
          have HPk2 := hide HPk
          clear HPk HCat
          go_wp2_with fail
          generalize (wr.drewN nq2).alloc (.cells #[.string X1, .string X2] 9) = w7 at *
          refine HPk2.out.mono ?_
          rintro e w8 ⟨l2, rfl, ⟨hU2, hsz2, h62, hEnd⟩, hB8⟩
          have hshort := same_short hall (by rw [hDl]; exact hM1) hEnd
          rw [hDl] at hshort hsz2
          have hF8 := HF7.out.below hB8 hW7
          have HB8 := hide (HB7.out.trans (hB8.mono (by omega)))
          have hW8 : base < w8.heap.size := Nat.lt_of_lt_of_le hW7 hB8.size
          have HUn3 := Unpack_any w8 (bytesOf l2) (by rw [bytes_size]; omega)
          have e2 : (bytesOf l2).data.toList = l2 := by simp [bytesOf]
          rw [e2, hU2] at HUn3
          rw [ans_two] at HUn3
          have HU3 := hide HUn3
          have hps := bytes_size l2
          rw [show (⟨l2.toArray⟩ : ByteArray) = bytesOf l2 from rfl]
          clear HUn3 e2 hB8 HPk2 hEnd hU2 HF7 HB7
          generalize bytesOf l2 = Pp at *
          go_wp2_with fail
          refine HU3.out.mono ?_
          rintro e w9 ⟨rfl, hB9⟩
          have hF9 := hF8.below hB9 hW8
          have HB9 := hide (HB8.out.trans (hB9.mono (by omega)))
          have hcv3 := hF9.str 0 i i (by omega)
          have hend : (Pp.size : Int) ≤ (i : Int) / 10 + 30 := by omega
          clear hF8 hF9 hB9 HU3 HB8 eT hT1 hFi
          generalize bytesOf (List.replicate i cc) = Bb at *
          go_wp2
          go_ret
          have hB := HB4.out
          refine ⟨?_, hB.trans (HB9.out.mono (by rw [HBs.out]; exact hB.size))⟩
          rw [decide_eq_true (show (l2.length : Int) ≤ (i : Int) / 10 + 30 by omega)]
          rfl
end Go.Proofs.Ytbklfkpjoinofaa

namespace Go.Proofs.Ytbklfkpjoinofaa
open Go.ChangeShapes Go.WideShapes Go.ChangeAt Go.RowKit
open Go.ChangeMaps (open_string shut_string)

theorem bulk_strs' {H : Type} (Xs : List ByteArray) : (catB Xs).length ≤ Rows.uptoBulkAll (strs (H := H) Xs) := by
  induction Xs with
  | nil => simp [catB, strs, Rows.uptoBulkAll]
  | cons X r ih =>
    simp only [strs, List.map_cons, Rows.uptoBulkAll, Rows.uptoBulk, catB, List.length_append]
    simp only [strs] at ih
    omega

theorem packed_contract (H : Type) (enc : TypeId × Value → H) (W : World) (base : Nat) (args : Array Value) (ds gs : List (DataW H)) (before : List MemPlace)
    (hval : ∀ (j : Nat) t v, Try.f5.params[j]? = some t → args[j]? = some v → Value.okWide Try.prog W .any base t v)
    (hW : DataW.Whole enc Try.prog Try.f5.params.toList Rows.packedSpec.vars false W args.toList ds gs before) (hk : Rows.uptoSmall H (ds ++ gs) = true) :
    Calls Try.prog 5 args W fun e W' => ∃ v, e = .returned v ∧ Rows.packedSpec.post enc Try.prog Try.f5 false true false false W args v W' := by
  have hW' := hW
  obtain ⟨p, q, hA0, hV, rfl, _, _⟩ := hW
  have hA : DataW.TrodAll enc Try.prog W 0 (fun _ => true) true Try.f5.params.toList args.toList ds p := hA0
  rw [Try.params5] at hA hval
  obtain ⟨v0, vs0, d0, ds0, p0, q0, hv0, rfl, rfl, h0, r0⟩ := trodAll_cons hA
  obtain ⟨v1, vs1, d1, ds1, p1, q1, rfl, rfl, rfl, h1, r1⟩ := trodAll_cons r0
  obtain ⟨v2, vs2, d2, ds2, p2, q2, rfl, rfl, rfl, h2, r2⟩ := trodAll_cons r1
  obtain ⟨v3, vs3, d3, ds3, p3, q3, rfl, rfl, rfl, h3, r3⟩ := trodAll_cons r2
  obtain ⟨v4, vs4, d4, ds4, p4, q4, rfl, rfl, rfl, h4, r4⟩ := trodAll_cons r3
  obtain ⟨rfl, rfl, rfl⟩ := trodAll_nil r4
  obtain rfl : args = #[v0, v1, v2, v3, v4] := by cases args; simp_all
  obtain ⟨rfl, rfl⟩ := trodVars_none hV
  obtain ⟨a0, len, cap, rfl⟩ := okWide_slice Try.underlying22 (hval 0 22 v0 rfl rfl)
  obtain ⟨tl, rfl, rfl, rfl, hmax⟩ := open_string Try.underlying9 (hval 1 9 v1 rfl rfl) h1
  obtain ⟨zn, rfl, rfl, rfl, hn⟩ := open_int Try.underlying3 (hval 2 3 v2 rfl rfl) h2
  obtain ⟨zc, rfl, rfl, rfl, hc⟩ := open_int Try.underlying3 (hval 3 3 v3 rfl rfl) h3
  obtain ⟨zm, rfl, rfl, rfl, hm⟩ := open_int Try.underlying3 (hval 4 3 v4 rfl rfl) h4
  have h0k := h0
  obtain ⟨fuel, hf⟩ := h0
  clear hA0
  simp only [List.append_nil] at hW' hk
  have hlt : ∀ x ∈ p0, x.block < W.heap.size := fun x hx => by simpa using hW'.lt x hx
  obtain ⟨b, off, Xs, hl, ha, hcx, hmm, hd⟩ := open_arg hf
  have hb := of_decide_eq_true hk
  have hX : (catB Xs).length ≤ 1048576 := by
    rcases hd with rfl | ⟨spare, hd⟩
    · simp [catB]
    · simp only [] at hd
      have := bulk_strs' (H := H) Xs
      rw [hd] at hb
      simp only [Rows.uptoBulkAll, Rows.uptoBulk] at hb
      omega
  have ht : tl.size ≤ 1048576 := by
    simp only [Rows.uptoBulkAll, Rows.uptoBulk] at hb
    have e : tl.data.toList.length = tl.size := by simp
    omega
  obtain ⟨n0, n1⟩ := bounds_i64 hn
  obtain ⟨c0, c1⟩ := bounds_i64 hc
  obtain ⟨m0, m1⟩ := bounds_i64 hm
  refine (packed_walk W a0 len cap b off Xs tl zn zc zm hl hmm ha hcx hX ht n0 n1 c0 c1 m0 m1).mono fun e W' ⟨he, hnn⟩ => ?_
  subst he
  refine ⟨_, rfl, _, _, _, [], p0, [], hW', ?_, ?_, rfl, hnn.frame _, fun h => by cases h⟩
  · exact trodAll_mk1 (shut_bool Try.underlying4 true)
  · have h5 := trodAll_cons_mk (Below.trod Try.laidOut (by kernel_rfl) (of_decide_eq_true (by kernel_rfl)) h0k hnn hlt) (trodAll_cons_mk (shut_string Try.underlying9 hmax) (trodAll_cons_mk (shut_int Try.underlying3 hn) (trodAll_cons_mk (shut_int Try.underlying3 hc) (trodAll_cons_mk (shut_int Try.underlying3 hm) trodAll_mk0))))
    simp only [List.append_nil] at h5
    exact h5

set_option maxRecDepth 100000 in
theorem packed_lifted (os : Os) (started : os.Started) (H : Type) (enc : TypeId × Value → H) (F : Stop.Interp) :
    ReturnsInHanded {} Try.checked os 5 .any ((Rows.OpenSpec.upto Rows.packedSpec).pre6 enc Try.prog Try.f5 Rows.packedUptoRow.domain false) (((Rows.OpenSpec.upto Rows.packedSpec).at F).post enc Try.prog Try.f5 false true false false) := by
  refine returnsInHanded_of_cond (C := Try.checked) (s := Rows.OpenSpec.upto Rows.packedSpec) (k := Rows.uptoSmall) rfl Try.own started (by kernel_rfl) Try.func5
    (OpenSpec.witness (enc := enc) (C := Try.checked) (s := Rows.OpenSpec.upto Rows.packedSpec) (k := Rows.uptoSmall) rfl false ⟨#[], #[.slice none 0 0, .string .empty, .int .i64 0, .int .i64 0, .int .i64 0], []⟩ 8 (by kernel_rfl) (by kernel_rfl) (by kernel_rfl)
      (x := ([.nil, .lit (.string []), .lit (.int .i64 0), .lit (.int .i64 0), .lit (.int .i64 0)], [], [])) (by kernel_rfl) rfl (by kernel_rfl)) ?_
  intro W base args ds gs before hval hW _ hk _
  exact packed_contract H enc W base args ds gs before hval hW hk

theorem packed_holds : Rows.PackedUptoSaid :=
  OpenClaim.holds_of_cond 5 Try.f5 rfl rfl rfl rfl rfl rfl rfl ⟨rfl, rfl, rfl, rfl, rfl⟩ rfl rfl rfl rfl rfl (by kernel_rfl) Try.func5 (by kernel_rfl)
    (of_decide_eq_true (by kernel_rfl)) (by unfold Func.isWrapper; first | (rw [if_pos (by decide +kernel)]; kernel_rfl) | (rw [if_neg (by decide +kernel)]; exact ⟨rfl, rfl⟩))
    (fun os started H enc _ F => packed_lifted os started H enc F)
end Go.Proofs.Ytbklfkpjoinofaa
