import Derived.Test.YtbklfkpjoinofaaPk1
set_option linter.unusedVariables false
set_option linter.unusedSimpArgs false
namespace Go.Proofs.Ytbklfkpjoinofaa
open Go.RowKit

theorem extract_all (s : ByteArray) : s.extract 0 s.size = s := by
  apply ByteArray.ext
  simp [ByteArray.data_extract]

theorem SK.wrote {w w' : World} {T base : Nat} {vt v' : Value} {Tk Tk' : List UInt8} (h : SK w T base vt Tk) (hg : w.grownBy w' vt.ownBlock) (ho : w'.ownsRow base 5 1 v' Tk'.length (cells Tk')) (hat : v'.ownBlock = vt.ownBlock ∨ ∃ g, v'.ownBlock = some g ∧ w.heap.size ≤ g) :
    SK ((w'.setCell ⟨T, 1, none⟩ v').setCell ⟨T, 2, none⟩ (.bool false)) T base v' Tk' ∧ Fr (fun k => k = T ∨ vt.ownBlock = some k) w ((w'.setCell ⟨T, 1, none⟩ v').setCell ⟨T, 2, none⟩ (.bool false)) := by
  have hblk : w'.heap[T]? = w.heap[T]? := hg.block T h.hT (fun e => h.ne e.symm)
  have hcell : ∀ o, w'.cell? ⟨T, o, none⟩ = w.cell? ⟨T, o, none⟩ := fun o => World.cell?_of_block (a := ⟨T, o, none⟩) hblk
  have hfrz : ∀ o, w'.frozen? ⟨T, o, none⟩ = w.frozen? ⟨T, o, none⟩ := fun o => World.frozen?_of_block (a := ⟨T, o, none⟩) hblk
  have hne : v'.ownBlock ≠ some T := by
    rcases hat with e | ⟨g, e, hg⟩
    · rw [e]; exact h.ne
    · rw [e]; intro hh; cases hh; have := h.hT; omega
  refine ⟨⟨?_, ?_, ?_, ?_, own_set (own_set ho hne _ _) hne _ _, hne, ?_, ?_⟩, ⟨hg.os, hg.tape, hg.output, ?_, ?_⟩⟩
  · rw [World.cell?_setCell_other _ _ _ _ (by simp), World.cell?_setCell_other _ _ _ _ (by simp), hcell]; exact h.c0
  · rw [World.cell?_setCell_other _ _ _ _ (by simp)]; exact World.cell?_setCell_same (u := vt) _ _ _ (by rw [hcell]; exact h.c1)
  · exact World.cell?_setCell_same (u := .bool false) _ _ _ (by rw [World.cell?_setCell_other _ _ _ _ (by simp), hcell]; exact h.c2)
  · intro o; rw [World.frozen?_setCell, World.frozen?_setCell, hfrz]; exact h.fz o
  · have := h.hT; have := hg.size; simp [World.setCell]; omega
  · have := h.hb; have := hg.size; simp [World.setCell]; omega
  · have := hg.size; simpa [World.setCell] using this
  · intro k hk hb
    have h1 : k ≠ T := fun e => hb (.inl e)
    rw [Below.heap_setCell _ _ _ _ h1, Below.heap_setCell _ _ _ _ h1]
    exact hg.block k hk (fun e => hb (.inr e.symm))

set_option maxRecDepth 100000 in
set_option maxHeartbeats 2000000 in
theorem sinkWrite_any (w : World) (T base : Nat) (vt : Value) (Tk : List UInt8) (s : ByteArray) (h : SK w T base vt Tk) (hl : Tk.length + s.size ≤ 90000000) :
    Calls Try.prog 83 #[.pointer (some ⟨T, 0, none⟩), .string s] w fun e w' => e = .returned .nilIface ∧ ∃ vt', SK w' T base vt' (Tk ++ s.data.toList) ∧ Fr (fun k => k = T ∨ vt.ownBlock = some k) w w' ∧ (vt'.ownBlock = vt.ownBlock ∨ ∃ g, vt'.ownBlock = some g ∧ w.heap.size ≤ g) := by
  have c0 := h.c0
  have c1 := h.c1
  have c2 := h.c2
  have f1 := h.fz 1
  have f2 := h.fz 2
  have HX := hide (extract_all s)
  have HO := hide h.own.drew
  have HG := hide (grown_drew w vt.ownBlock)
  have hbd : base ≤ w.drew.heap.size := h.hb
  have hss : s.size ≤ 90000000 := by omega
  obtain ⟨adu, capu, hform⟩ : ∃ ad cap, vt = .slice ad Tk.length cap := by
    rcases h.own.2 with ⟨hu, hz⟩ | ⟨gg, cap, cur, hu, _⟩
    · exact ⟨none, 0, by rw [hu, hz]⟩
    · exact ⟨_, _, hu⟩
  subst hform
  go_enter Try.func83, Try.ntmps83
  go_wp2_with fail
  refine (room_any w T base _ Tk h s.size (by omega)).mono ?_
  rintro e w1 ⟨rfl, rfl⟩
  go_wp2
  go_region_law ((refine step_text_at rfl (.tmp 14) (.tmp 17) 29 9 rfl Try.underlying29 Try.underlying9 base _ Tk (by simp [Act.eval, Act.put]) HO.out hbd s (by simp [Act.eval, Act.put, HX.out]) (by omega) ?_; intro v7 w7 hO7 hg7 hat7; have hform7 : ∃ ad L cap, v7 = .slice ad L cap := (by rcases hO7.2 with ⟨hu, _⟩ | ⟨gg, cap, cur, hu, _⟩; exact ⟨_, _, _, hu⟩; exact ⟨_, _, _, hu⟩); obtain ⟨ad7, L7, cap7, hv7⟩ := hform7; rw [hv7] at hO7 hat7 ⊢; clear hv7; have kb := (grown_trans HG.out hg7).block T h.hT (fun e => h.ne e.symm); have k1 := (World.cell?_of_block (a := ⟨T, 1, none⟩) kb).trans c1; have k2 := (World.cell?_of_block (a := ⟨T, 2, none⟩) kb).trans c2; have kf1 := (World.frozen?_of_block (a := ⟨T, 1, none⟩) kb).trans f1; have kf2 := (World.frozen?_of_block (a := ⟨T, 2, none⟩) kb).trans f2))
  all_goals
    have hw := hide (h.wrote (grown_trans HG.out hg7) hO7 (by
      rcases hat7 with e | e
      · exact Or.inl e
      · exact Or.inr ⟨_, e, by simp⟩))
    have Hat := hide hat7
    clear hO7 hg7 hat7
    go_wp2
    go_ret
    refine ⟨rfl, _, hw.out.1, hw.out.2, ?_⟩
    rcases Hat.out with e | e
    · exact Or.inl e
    · exact Or.inr ⟨_, e, by simp⟩
end Go.Proofs.Ytbklfkpjoinofaa
