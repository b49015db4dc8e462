import Derived.Test.YtbklfkpjoinofaaSums
set_option linter.unusedVariables false
set_option linter.unusedSimpArgs false
namespace Go.Proofs.Ytbklfkpjoinofaa
open Go.RowKit

set_option maxRecDepth 100000 in
set_option maxHeartbeats 1000000 in
theorem sumIsOf_no (w : World) (b : Nat) (s t : ByteArray) (p : Nat) (h : PR w b s p 0) (hs : s.size ≤ 140737488355328) (hp : s.size < p / 8 + 4) :
    Calls Try.prog 21 #[.pointer (some ⟨b, 0, none⟩), .string t] w fun e w' => e = .returned (.bool false) ∧ Below b w w' := by
  go_enter Try.func21, Try.ntmps21
  go_wp2_with fail
  refine (takeBytes_no w b s p 4 h hs (by omega) hp).mono ?_
  rintro e w1 ⟨rfl, _, ho1⟩
  go_wp2
  go_ret
  exact ⟨rfl, ho1.below h.lt⟩

theorem four_str (V : Nat) (hV : V < 4294967296) (w : World) :
    (convert 29 9 (.slice (some ⟨w.heap.size, 0, none⟩) 4 4)).run Try.prog (w.alloc (.cells #[.int .u8 ((V : Int) / 16777216), .int .u8 ((V : Int) / 65536 % 256), .int .u8 ((V : Int) / 256 % 256), .int .u8 ((V : Int) % 256)] 5)) =
      .ok (.string ⟨#[UInt8.ofNat (V / 16777216), UInt8.ofNat (V / 65536), UInt8.ofNat (V / 256), UInt8.ofNat V]⟩) (w.alloc (.cells #[.int .u8 ((V : Int) / 16777216), .int .u8 ((V : Int) / 65536 % 256), .int .u8 ((V : Int) / 256 % 256), .int .u8 ((V : Int) % 256)] 5)) := by
  refine run_convert_bytes_back _ 29 9 5 ⟨w.heap.size, 0, none⟩ 4 [UInt8.ofNat (V / 16777216), UInt8.ofNat (V / 65536), UInt8.ofNat (V / 256), UInt8.ofNat V] Try.underlying29 Try.underlying5 Try.underlying9 ?_
  intro j hj
  have hadd : (⟨w.heap.size, 0, none⟩ : Addr).add j = ⟨w.heap.size, j, none⟩ := by unfold Addr.add; split <;> simp_all
  rw [hadd]
  match j, hj with
  | 0, _ => simp; omega
  | 1, _ => simp
  | 2, _ => simp
  | 3, _ => simp
  | (j + 4), hj => simp at hj; omega

theorem list4 (l : List UInt8) (a : Nat) (h : a + 4 ≤ l.length) : (l.drop a).take 4 = [l.getD a 0, l.getD (a + 1) 0, l.getD (a + 2) 0, l.getD (a + 3) 0] := by
  rw [List.drop_eq_getElem_cons (by omega), List.drop_eq_getElem_cons (by omega), List.drop_eq_getElem_cons (by omega), List.drop_eq_getElem_cons (by omega)]
  rw [List.take_succ_cons, List.take_succ_cons, List.take_succ_cons, List.take_succ_cons, List.take_zero]
  rw [List.getD_eq_getElem?_getD, List.getElem?_eq_getElem (show a < l.length by omega), List.getD_eq_getElem?_getD, List.getElem?_eq_getElem (show a + 1 < l.length by omega),
    List.getD_eq_getElem?_getD, List.getElem?_eq_getElem (show a + 2 < l.length by omega), List.getD_eq_getElem?_getD, List.getElem?_eq_getElem (show a + 3 < l.length by omega)]
  rfl

theorem four_eq (l : List UInt8) (a V : Nat) (h : a + 4 ≤ l.length) (hV : V < 4294967296) :
    ((l.drop a).take 4 == [UInt8.ofNat (V / 16777216), UInt8.ofNat (V / 65536), UInt8.ofNat (V / 256), UInt8.ofNat V]) = decide (Pm.be4 l a = V) := by
  rw [list4 l a h]
  unfold Pm.be4
  generalize l.getD a 0 = x0
  generalize l.getD (a + 1) 0 = x1
  generalize l.getD (a + 2) 0 = x2
  generalize l.getD (a + 3) 0 = x3
  have h0 := x0.toNat_lt
  have h1 := x1.toNat_lt
  have h2 := x2.toNat_lt
  have h3 := x3.toNat_lt
  rw [Bool.eq_iff_iff]
  simp only [beq_iff_eq, List.cons.injEq, and_true, decide_eq_true_eq, ← UInt8.toNat_inj, UInt8.toNat_ofNat']
  omega

set_option maxRecDepth 100000 in
set_option maxHeartbeats 1000000 in
theorem sumIsOf_ok (w : World) (b : Nat) (s t : ByteArray) (p : Nat) (h : PR w b s p 0) (hs : s.size ≤ 140737488355328) (ht : t.size ≤ 140737488355328) (hp : p / 8 + 4 ≤ s.size) :
    Calls Try.prog 21 #[.pointer (some ⟨b, 0, none⟩), .string t] w fun e w' => e = .returned (.bool (decide (Pm.be4 s.data.toList (p / 8) = 65536 * (Pm.sumV t.data.toList (1, 0)).2 + (Pm.sumV t.data.toList (1, 0)).1))) ∧ PR w' b s (p + 32) 0 ∧ Below b w w' := by
  have hsb := Pm.sumV_lt t.data.toList (1, 0) (by decide)
  generalize hX : s.extract (p / 8) (p / 8 + 4) = X
  have HX := hide hX
  have HT := takeBytes_ok w b s p 4 h hs hp
  rw [hX] at HT
  have HT' := hide HT
  clear hX HT
  go_enter Try.func21, Try.ntmps21
  go_wp2_with fail
  refine HT'.out.mono ?_
  rintro e w1 ⟨rfl, hr1, ho1⟩
  have hb1 := ho1.below h.lt
  go_wp2_with fail
  refine (newSum_any w1).mono ?_
  rintro e w2 ⟨rfl, hb2⟩
  go_wp2_with fail
  refine (add_any (w2.alloc (.cells #[.int .u32 1, .int .u32 0] 65)) w2.heap.size 1 0 t ht (by decide) (by decide) (by simp) (by simp) (by simp) (by simp)).mono ?_
  rintro e w3 ⟨rfl, d0, d1, _, _, ho3⟩
  generalize hA : (Pm.sumV t.data.toList (1, 0)).1 = A at *
  generalize hB : (Pm.sumV t.data.toList (1, 0)).2 = B at *
  have HA := hide hA
  have HB := hide hB
  clear hA hB
  go_wp2_with fail
  refine (value_any w3 A B hsb.1 hsb.2).mono ?_
  rintro e w4 ⟨rfl, hb4⟩
  have hV : 65536 * B + A < 4294967296 := by omega
  generalize hV2 : 65536 * B + A = V at *
  have HV := hide hV2
  clear hV2
  have hcv := four_str V hV w4
  go_wp2
  go_ret
  have hlen : s.data.toList.length = s.size := by simp
  have z1 : b + 1 ≤ w1.heap.size := hr1.lt
  have z2 : w1.heap.size ≤ w2.heap.size := hb2.size
  have z3 : w2.heap.size + 1 ≤ w3.heap.size := by have := ho3.size; simpa using this
  have z4 : w3.heap.size ≤ w4.heap.size := hb4.size
  have k1 : Below (b + 1) w1 (w2.alloc (.cells #[.int .u32 1, .int .u32 0] 65)) := (hb2.mono z1).alloc (by omega) _
  have k2 : Below (b + 1) w1 w3 := k1.trans ((Only.below ho3 (by simp)).mono (by omega))
  have k3 : Below (b + 1) w1 w4 := k2.trans (hb4.mono (by omega))
  have k4 := k3.alloc (by omega) (.cells #[.int .u8 ((V : Int) / 16777216), .int .u8 ((V : Int) / 65536 % 256), .int .u8 ((V : Int) / 256 % 256), .int .u8 ((V : Int) % 256)] 5)
  refine ⟨congrArg (fun z => Ending.returned (.bool z)) ?_, ?_, ?_⟩
  · rw [HA.out, HB.out, HV.out, ByteArray.toList_eq, ← HX.out, Pm.extract_list]
    exact four_eq s.data.toList (p / 8) V (by omega) hV
  · exact hr1.kept k4
  · exact hb1.trans (k4.mono (Nat.le_succ b))
end Go.Proofs.Ytbklfkpjoinofaa
