import Derived.Test.YtbklfkpjoinofaaPk12
set_option linter.unusedVariables false
set_option linter.unusedSimpArgs false
namespace Go.Proofs.Ytbklfkpjoinofaa

theorem Pm.Emit.cost {W : List UInt8} {i k v b : Nat} (h : Pm.Emit W i k v b) : b ≤ 32 ∧ b ≤ 9 * k ∧ 1 ≤ k ∧ i + k ≤ W.length := by
  rcases h with ⟨rfl, hi, rfl, rfl⟩ | ⟨d, h1, h2, h3, h4, h5, h6, h7, rfl, rfl⟩
  · have hc : (W.getD i 0).toNat < 256 := (W.getD i 0).toNat_lt
    have := Pm.symOut_lt (W.getD i 0).toNat (by omega)
    omega
  · have := Pm.mw_le k d ⟨by omega, h2⟩ ⟨h4, h5⟩
    omega

/-- The key of four bytes that are the same. -/
def kc (c : UInt8) : Nat := (keyI c c c c).toNat

theorem keyN_same {W : List UInt8} {c : UInt8} (h : ∀ j, j < W.length → W.getD j 0 = c) (i : Nat) (hi : i + 4 ≤ W.length) : keyN W i = kc c := by
  unfold keyN kc
  rw [h i (by omega), h (i + 1) (by omega), h (i + 2) (by omega), h (i + 3) (by omega)]

theorem same_drop {D : List UInt8} {c : UInt8} (h : ∀ x ∈ D, x = c) (g j : Nat) (hj : j < (D.drop g).length) : (D.drop g).getD j 0 = c := by
  rw [List.getD_eq_getElem?_getD, List.getElem?_eq_getElem hj]
  exact h _ (List.mem_of_mem_drop (List.getElem_mem hj))

/-- Of bytes that are all c: while they come in. -/
def TaleS (c : UInt8) : Tale := fun D p Sn nb => (∀ x ∈ D, x = c) → (p = 0 ∧ nb = 19) ∨ ∃ j, p = 1 + 258 * j ∧ nb ≤ 28 + 32 * j ∧ Sn.getD (kc c) 0 = ((p : Nat) : Int)
/-- .. at the end. -/
def TaleE (c : UInt8) : Tale := fun D p Sn nb => (∀ x ∈ D, x = c) → (∃ j, p = 1 + 258 * j ∧ nb ≤ 28 + 32 * j ∧ Sn.getD (kc c) 0 = ((p : Nat) : Int) ∧ D.length - p < 261) ∨ ∃ j, 258 * j ≤ p ∧ nb + 9 * (D.length - p) ≤ 78 + 32 * j

theorem same_full {D W : List UInt8} {c : UInt8} {Sn Sn' : List Int} {p at_ gone k b : Nat} (hall : ∀ x ∈ D, x = c) (hW : W = D.drop gone) (hpe : gone + at_ = p) (h4 : p + 4 ≤ D.length) (hp : 1 ≤ p) (hSn : Sn.getD (kc c) 0 = ((p : Nat) : Int)) (hI : Info W at_ gone Sn Sn' k b) : k = min 258 (D.length - p) := by
  have hWl : W.length = D.length - gone := by rw [hW, List.length_drop]
  have hWc : ∀ j, j < W.length → W.getD j 0 = c := fun j hj => by rw [hW]; exact same_drop hall gone j (by rw [← hW]; exact hj)
  have hM : min 258 (W.length - at_) = min 258 (D.length - p) := by omega
  have hf := hI.full (by omega)
  rw [keyN_same hWc at_ (by omega), hSn, hM] at hf
  refine hf 1 (by omega) (by omega) (by omega) ?_
  intro j hj
  rw [hWc (at_ + j) (by omega), hWc (at_ + j - 1) (by omega)]

theorem same_last {D W : List UInt8} {c : UInt8} {Sn Sn' : List Int} {p at_ gone k b : Nat} (hall : ∀ x ∈ D, x = c) (hW : W = D.drop gone) (hpe : gone + at_ = p) (hk : 1 ≤ k) (h4 : p + k + 3 ≤ D.length) (hI : Info W at_ gone Sn Sn' k b) : Sn'.getD (kc c) 0 = ((p + k : Nat) : Int) := by
  have hWl : W.length = D.length - gone := by rw [hW, List.length_drop]
  have hWc : ∀ j, j < W.length → W.getD j 0 = c := fun j hj => by rw [hW]; exact same_drop hall gone j (by rw [← hW]; exact hj)
  have hl := hI.last hk (by omega)
  rw [keyN_same hWc (at_ + k - 1) (by omega)] at hl
  rw [hl, ← hpe, Nat.add_assoc]

theorem same_keeps (c : UInt8) : Keeps (TaleS c) (TaleE c) := by
  refine ⟨fun _ => .inl ⟨rfl, rfl⟩, ?_, ?_, ?_⟩
  · intro D e p Sn nb _ h hall
    exact h (fun x hx => hall x (List.mem_append_left _ hx))
  · intro D p hD h261 W Sn Sn' at_ gone k b nb hW hpe hT hI hall
    obtain ⟨v, hE⟩ := hI.emit
    obtain ⟨c1, c2, c3, c4⟩ := hE.cost
    have hWl : W.length = D.length - gone := by rw [hW, List.length_drop]
    rcases hT hall with ⟨rfl, rfl⟩ | ⟨j, hj, hnb, hSn⟩
    · obtain rfl : k = 1 := by
        rcases hE with ⟨h, _⟩ | ⟨d, _, _, _, h4, _, h6, _⟩
        · exact h
        · omega
      have hl := same_last hall hW hpe (by omega) (by omega) hI
      refine Or.inr ⟨0, ?_, ?_, hl⟩
      · clear hl hE hI hT; omega
      · clear hl hE hI hT; omega
    · have hk := same_full hall hW hpe (by omega) (by omega) hSn hI
      have hl := same_last hall hW hpe (by omega) (by omega) hI
      refine Or.inr ⟨j + 1, ?_, ?_, hl⟩
      · clear hl hE hI hT hSn; omega
      · clear hl hE hI hT hSn; omega
  · intro D p hD hp W Sn Sn' at_ gone k b nb hW hpe hT hI hall
    obtain ⟨v, hE⟩ := hI.emit
    obtain ⟨c1, c2, c3, c4⟩ := hE.cost
    have hWl : W.length = D.length - gone := by rw [hW, List.length_drop]
    rcases hT hall with ⟨j, hj, hnb, hSn, hR⟩ | ⟨j, hj, hnb⟩
    · by_cases h4 : p + 4 ≤ D.length
      · have hk := same_full hall hW hpe h4 (by omega) hSn hI
        clear hE hI hT hSn
        exact Or.inr ⟨j, by omega, by omega⟩
      · clear hE hI hT hSn
        exact Or.inr ⟨j, by omega, by omega⟩
    · clear hE hI hT
      exact Or.inr ⟨j, by omega, by omega⟩

theorem same_turn {D : List UInt8} (c : UInt8) (hD : 1000 ≤ D.length) : ∀ p Sn nb, D.length - p < 261 → TaleS c D p Sn nb → TaleE c D p Sn nb := by
  intro p Sn nb hR hT hall
  rcases hT hall with ⟨rfl, _⟩ | ⟨j, hj, hnb, hSn⟩
  · omega
  · exact .inl ⟨j, hj, hnb, hSn, hR⟩

/-- Bytes that are the same are packed short. -/
theorem same_short {D l : List UInt8} {c : UInt8} (hall : ∀ x ∈ D, x = c) (hD : 1000 ≤ D.length) (h : ∃ Sn nb, TaleE c D D.length Sn nb ∧ 8 * l.length ≤ nb + 46) : l.length ≤ D.length / 10 + 30 := by
  obtain ⟨Sn, nb, hT, hl⟩ := h
  rcases hT hall with ⟨j, hj, hnb, _, _⟩ | ⟨j, hj, hnb⟩
  · omega
  · omega
end Go.Proofs.Ytbklfkpjoinofaa
