import Derived.Test.YtbklfkpjoinofaaPk9
import Derived.Deep.RegionWith
set_option linter.unusedVariables false
set_option linter.unusedSimpArgs false
namespace Go.Proofs.Ytbklfkpjoinofaa
open Go.RowKit

theorem Try.infoInt : (Try.prog.info? 3).map (fun i => (i.zero, i.size, i.bytes)) = some (some (.int .i64 0), 1, 8) := by kernel_rfl

/-- The row of what was seen, at first. -/
def zerosN (n : Nat) : Array Value := (List.replicate n (Value.int .i64 0)).toArray
def zeros : Array Value := zerosN 4096
theorem zerosN_size (n : Nat) : (zerosN n).size = n := by simp [zerosN]
theorem zerosN_take (n : Nat) : (zerosN n).toList.take n = (List.replicate n (0 : Int)).map (Value.int .i64) := by simp [zerosN]
theorem seenN (n : Nat) : ∀ j, j < n → 0 ≤ (List.replicate n (0 : Int)).getD j 0 ∧ (List.replicate n (0 : Int)).getD j 0 ≤ ((0 : Nat) : Int) := by
  intro j hj
  simp [List.getD_eq_getElem?_getD, List.getElem?_replicate, hj]
theorem len_map (n : Nat) : ((List.replicate n (0 : Int)).map (Value.int .i64)).length = n := by simp

theorem make_seen (w : World) : (Instr.makeSlice 74 (.int .i64 4096) (.int .i64 4096)).run Try.prog w = .ok (.slice (some ⟨w.heap.size, 0, none⟩) 4096 4096) (w.alloc (.cells zeros 3)) := by
  obtain ⟨i0, hi, hz0, hz1, hz2⟩ := info_parts Try.infoInt
  have h := run_make (P := Try.prog) w 74 3 i0 (.int .i64 0) Try.underlying74 hi hz0 .i64 .i64 4096 4096 (by omega) (by omega) (by rw [hz2]; decide) (by omega)
  rw [h, hz1]
  have e : madeCells (Value.int IntKind.i64 0).cells ((4096 : Int).toNat * 1) = zeros := by
    apply Array.ext'
    have := toList_madeCells_one (.int .i64 0) 4096
    exact this.trans rfl
  rw [e]
  rfl

/-- A new packer's block. -/
def fresh (T gs : Nat) : Obj := .cells #[nxt T, .slice none 0 0, .int .u32 0, .int .i64 0, .int .u32 1, .int .u32 0, .slice none 0 0, .int .i64 0, .int .i64 0, .slice (some ⟨gs, 0, none⟩) 4096 4096] 78

theorem fresh_PS (w : World) (T base gs : Nat) (vt : Value) (h : SK w T base vt []) (hvt : vt = .slice none 0 0) (hbT : base ≤ T) (hgs : w.heap[gs]? = some (.cells zeros 3 (0, 0))) (hb : base ≤ gs) (hT : gs ≠ T) :
    PS (w.alloc (fresh T gs)) w.heap.size T base (.slice none 0 0) (.slice none 0 0) (.slice (some ⟨gs, 0, none⟩) 4096 4096) vt [] 0 0 1 0 [] (List.replicate 4096 0) 0 0 [] := by
  have hgl : gs < w.heap.size := (Array.getElem?_eq_some_iff.1 hgs).1
  have hnew : ∀ k, k < w.heap.size → (w.alloc (fresh T gs)).heap[k]? = w.heap[k]? := fun k hk => heap_alloc_old w _ hk
  have hF : Fr (fun _ => False) w (w.alloc (fresh T gs)) := ⟨rfl, rfl, rfl, by simp, fun k hk _ => hnew k hk⟩
  have hsz : (w.alloc (fresh T gs)).heap.size = w.heap.size + 1 := by simp
  have hown : (w.alloc (fresh T gs)).ownsRow base 3 1 (.slice (some ⟨gs, 0, none⟩) 4096 4096) 4096 ((List.replicate 4096 (0 : Int)).map (Value.int .i64)) := by
    refine ⟨len_map 4096, .inr ⟨gs, 4096, zeros, rfl, hb, (hnew gs hgl).trans hgs, Nat.le_refl _, by unfold maxLen; omega, zerosN_size 4096, zerosN_take 4096⟩⟩
  refine ⟨⟨⟨?_, ?_, ?_, ?_, ?_, ?_, World.ownsRow_nil _ _ _ _, by simp [Value.ownBlock], by rw [hsz]; have := h.hb; omega, by decide⟩, ⟨?_, ?_, ?_, ?_, ?_, World.ownsRow_nil _ _ _ _, hown, by simp [Value.ownBlock], ?_, by rw [hsz]; omega⟩, ?_, ?_, ?_, ?_, by omega, ?_, ?_, ?_⟩,
    h.fr hF id (fun _ _ => id), ?_, h.hb, hbT, by simp [Value.ownBlock], by simp [Value.ownBlock], ?_, ?_, ?_, ?_, ?_⟩
  · simp [fresh]
  · simp [fresh]
  · simp [fresh]
  · simp [fresh]
  · simp [fresh]
  · simp [fresh]
  · simp [fresh]
  · simp [fresh]
  · simp [fresh]
  · simp [fresh]
  · simp [fresh]
  · simp only [Value.ownBlock]; intro e; cases e; omega
  · simp [fresh]
  · simp [fresh]
  · simp [fresh]
  · intro o; simp [fresh]
  · intro g hg; simp [Value.ownBlock] at hg
  · intro g hg; simp [Value.ownBlock] at hg
  · intro g hg; simp [Value.ownBlock] at hg
  · have := h.hT; omega
  · simp only [Value.ownBlock]; intro e; cases e; exact hT rfl
  · rw [hvt]; simp [Value.ownBlock]
  · rw [hvt]; intro g hg; simp [Value.ownBlock] at hg
  · rw [hvt]; intro g hg; simp [Value.ownBlock] at hg
  · rw [hvt]; intro g hg; simp [Value.ownBlock] at hg

theorem seen_zero : Seen (List.replicate 4096 0) 0 := seenN 4096

theorem start_inv {Φ Ψ : Tale} (hKp : Keeps Φ Ψ) {w : World} {P T base : Nat} {vf vw vs vt : Value} {F : List UInt8} {H n : Nat} (h : PS w P T base vf vw vs vt F H n 1 0 [] (List.replicate 4096 0) 0 0 []) (hs : strm F H = 120 + 1 * 2 ^ 8 + 1 * 2 ^ 16 + 1 * 2 ^ 17) (hl : 8 * F.length + n = 19) : InvP Φ w P T base [] 0 := by
  have e : 8 * (([] : List UInt8).length + F.length) + n = 19 := by simp only [List.length_nil, Nat.zero_add]; exact hl
  refine ⟨vf, vw, vs, vt, F, H, n, [], List.replicate 4096 0, 0, 0, [], h, rfl, rfl, Nat.le_refl _, ?_, ?_, ?_, seen_zero, .inl rfl, ?_⟩
  · rw [e, List.nil_append, hs]; exact Pm.Enc.start
  · rw [e, List.nil_append, hs]; exact Pm.Hd.start
  · rw [e]; exact Nat.le_refl _
  · rw [e]; exact hKp.start

set_option maxRecDepth 100000 in
set_option maxHeartbeats 4000000 in
theorem newPacker_any {Φ Ψ : Tale} (hKp : Keeps Φ Ψ) (w : World) (T base : Nat) (h : SK w T base (.slice none 0 0) []) (hbT : base ≤ T) :
    Calls Try.prog 27 #[nxt T] w fun e w' => ∃ P, e = .returned (.pointer (some ⟨P, 0, none⟩)) ∧ InvP Φ w' P T base [] 0 ∧ Below base w w' := by
  have hmk := make_seen
  unfold nxt
  go_enter Try.func27, Try.ntmps27
  go_wp2
  go_region_with (go_at_call 34; refine (newSum_any _).mono ?_; rintro e w1 ⟨rfl, hB1⟩)
  have h1 : SK w1 T base (.slice none 0 0) [] := h.fr (B := fun _ => False) ⟨hB1.os, hB1.tape, hB1.output, hB1.size, fun k hk _ => hB1.block k hk⟩ id (fun _ _ => id)
  have h2 : SK (w1.alloc (.cells zeros 3)) T base (.slice none 0 0) [] := h1.fr (B := fun _ => False) ⟨rfl, rfl, rfl, by simp, fun k hk _ => heap_alloc_old w1 _ hk⟩ id (fun _ _ => id)
  have hPS := fresh_PS (w1.alloc (.cells zeros 3)) T base w1.heap.size _ h2 rfl hbT (heap_alloc_new w1 _) h1.hb (by have := h1.hT; omega)
  have HB : Hid (Below base w ((w1.alloc (.cells zeros 3)).alloc (fresh T w1.heap.size))) := by
    have a1 : Below base w w1 := ⟨hB1.os, hB1.tape, hB1.output, hB1.size, fun k hk => hB1.block k (Nat.lt_of_lt_of_le hk h.hb)⟩
    exact (a1.alloc h1.hb _).alloc h2.hb _
  rw [show (w1.alloc (.cells zeros 3)).heap.size = w1.heap.size + 1 by simp] at hPS
  unfold fresh nxt at hPS HB
  clear h1 h2 hB1
  generalize World.alloc (World.alloc w1 _) _ = w2 at hPS HB ⊢
  generalize w1.heap.size = gs at hPS ⊢
  generalize gs + 1 = P at hPS ⊢
  rotate_left
  have h0 : SK (w.drew.alloc (.cells zeros 3)) T base (.slice none 0 0) [] := h.fr (B := fun _ => False) ⟨rfl, rfl, rfl, by simp, fun k hk _ => heap_alloc_old w.drew _ hk⟩ id (fun _ _ => id)
  have h1 : SK w1 T base (.slice none 0 0) [] := h0.fr (B := fun _ => False) ⟨hB1.os, hB1.tape, hB1.output, hB1.size, fun k hk _ => hB1.block k hk⟩ id (fun _ _ => id)
  have hgs : w1.heap[w.heap.size]? = some (.cells zeros 3 (0, 0)) := (hB1.block w.heap.size (by simp)).trans (heap_alloc_new w.drew _)
  have hPS := fresh_PS w1 T base w.heap.size _ h1 rfl hbT hgs h.hb (by have := h.hT; omega)
  have HB : Hid (Below base w (w1.alloc (fresh T w.heap.size))) := by
    have a0 : Below base w (w.drew.alloc (.cells zeros 3)) := (Below.refl base w).drew.alloc h.hb _
    have a1 : Below base w w1 := a0.trans ⟨hB1.os, hB1.tape, hB1.output, hB1.size, fun k hk => hB1.block k (Nat.lt_of_lt_of_le hk h0.hb)⟩
    exact a1.alloc h1.hb _
  unfold fresh nxt at hPS HB
  clear h1 h0 hgs hB1
  generalize World.alloc w1 _ = w2 at hPS HB ⊢
  generalize w.heap.size = gs at hPS ⊢
  generalize w1.heap.size = P at hPS ⊢
  rotate_left
  all_goals
    go_wp2_with fail
    refine (put_any w2 P base _ [] 0 0 120 8 hPS.pk.bw hPS.pk.pw.hP (by omega) (by decide) (by omega) (by simp)).mono ?_
    rintro e w3 ⟨rfl, vf3, F3, H3, n3, b31, b32, b33, b34, b35⟩
    obtain ⟨hS3, hB3⟩ := hPS.put b31 b32 b35
    go_wp2_with fail
    refine (put_any w3 P base vf3 F3 H3 n3 1 8 b31 hS3.pk.pw.hP b32 (by decide) (by omega) (by simp at b34; omega)).mono ?_
    rintro e w4 ⟨rfl, vf4, F4, H4, n4, b41, b42, b43, b44, b45⟩
    obtain ⟨hS4, hB4⟩ := hS3.put b41 b42 b45
    go_wp2_with fail
    refine (put_any w4 P base vf4 F4 H4 n4 1 1 b41 hS4.pk.pw.hP b42 (by decide) (by omega) (by simp at b34; omega)).mono ?_
    rintro e w5 ⟨rfl, vf5, F5, H5, n5, b51, b52, b53, b54, b55⟩
    obtain ⟨hS5, hB5⟩ := hS4.put b51 b52 b55
    go_wp2_with fail
    refine (put_any w5 P base vf5 F5 H5 n5 1 2 b51 hS5.pk.pw.hP b52 (by decide) (by omega) (by simp at b34; omega)).mono ?_
    rintro e w6 ⟨rfl, vf6, F6, H6, n6, b61, b62, b63, b64, b65⟩
    obtain ⟨hS6, hB6⟩ := hS5.put b61 b62 b65
    have l3 : 8 * F3.length + n3 = 8 := by simpa using b34
    have l4 : 8 * F4.length + n4 = 16 := by omega
    have l5 : 8 * F5.length + n5 = 17 := by omega
    have hst : strm F6 H6 = 120 + 1 * 2 ^ 8 + 1 * 2 ^ 16 + 1 * 2 ^ 17 := by
      rw [b63, b53, b43, b33, l3, l4, l5]
      decide
    have HI := hide (start_inv hKp hS6 hst (by omega))
    have HBB := hide ((((HB.out.trans hB3).trans hB4).trans hB5).trans hB6)
    clear hS3 hS4 hS5 hS6 hPS b31 b32 b33 b34 b35 b41 b42 b43 b44 b45 b51 b52 b53 b54 b55 b61 b62 b63 b64 b65 hst
    go_wp2
    go_ret
    exact ⟨P, rfl, HI.out, HBB.out⟩
end Go.Proofs.Ytbklfkpjoinofaa
