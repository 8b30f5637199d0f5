/- What takes come to, as mathematics (layer 9). No dump is read here. -/
import Derived.Test.YtlnealbnkplfmaaLayM
namespace Go.Proofs.Ytlnealbnkplfmaa
open Go.RowKit
theorem usedL_rng {L : List Int} (h : Us L) {a b : Int} (hu : usedL L = (a, b)) : 0 ≤ a ∧ a ≤ 96 ∧ 0 ≤ b ∧ b ≤ 32 := by
  unfold usedL at hu
  have h1 := (h.atL 736).1
  have h2 := (h.atL 737).1
  injection hu with e1 e2
  omega
theorem usedL_set {L : List Int} (hl : L.length = 738) (x y : Int) : usedL (setL (setL L 736 x) 737 y) = (min x 96, min y 32) := by
  have b1 : hasB L.length 736 = true := hasB_yes.2 ⟨by omega, by omega⟩
  have b2 : hasB (setL L 736 x).length 737 = true := hasB_yes.2 ⟨by omega, by rw [setL_length]; omega⟩
  unfold usedL
  rw [atL_setL, atL_setL, if_neg (by rintro ⟨-, h⟩; omega), atL_setL, if_pos ⟨b1, rfl⟩, if_pos ⟨b2, rfl⟩]
/-- the ways of a Take -/
theorem takes_ways {L : List Int} (hl : L.length = 738) (h : Us L) {a b : Int} (hu : usedL L = (a, b)) (s o : Int) : ∃ x y n L1, (takeP s o).run machP L = ((x, y, n), L1) ∧ (0 ≤ n ∧ n ≤ 14) ∧
    ((s < 0 ∧ x = 0 ∧ y = 0 ∧ n = 1 ∧ L1 = L) ∨ (0 ≤ s ∧ o < 0 ∧ x = 0 ∧ y = 0 ∧ n = 1 ∧ L1 = L) ∨ (0 ≤ s ∧ 0 ≤ o ∧ 96 - a < s ∧ x = 0 ∧ y = 0 ∧ n = 7 ∧ L1 = L) ∨ (0 ≤ s ∧ 0 ≤ o ∧ s ≤ 96 - a ∧ 32 - b < o ∧ x = 0 ∧ y = 0 ∧ n = 7 ∧ L1 = L) ∨
      (0 ≤ s ∧ 0 ≤ o ∧ s ≤ 96 - a ∧ o ≤ 32 - b ∧ x = a ∧ y = b ∧ n = 0 ∧ usedL L1 = (a + s, b + o))) := by
  obtain ⟨a0, a1, b0, b1⟩ := usedL_rng h hu
  by_cases h1 : s < 0 ∨ o < 0
  · refine ⟨0, 0, 1, L, by rw [takeP_plain]; simp [takeA, takeL, h1], by omega, ?_⟩
    rcases (by omega : s < 0 ∨ (0 ≤ s ∧ o < 0)) with h3 | ⟨h3, h4⟩
    · exact .inl ⟨h3, rfl, rfl, rfl, rfl⟩
    · exact .inr (.inl ⟨h3, h4, rfl, rfl, rfl, rfl⟩)
  · by_cases h2 : 96 - a < s ∨ 32 - b < o
    · refine ⟨0, 0, 7, L, by rw [takeP_plain]; simp [takeA, takeL, h1, hu, h2], by omega, ?_⟩
      rcases (by omega : 96 - a < s ∨ (s ≤ 96 - a ∧ 32 - b < o)) with h3 | ⟨h3, h4⟩
      · exact .inr (.inr (.inl ⟨by omega, by omega, h3, rfl, rfl, rfl, rfl⟩))
      · exact .inr (.inr (.inr (.inl ⟨by omega, by omega, h3, h4, rfl, rfl, rfl, rfl⟩)))
    · refine ⟨a, b, 0, setL (setL L 736 (a + s)) 737 (b + o), by rw [takeP_plain]; simp [takeA, takeL, h1, hu, h2], by omega, ?_⟩
      have e : usedL (setL (setL L 736 (a + s)) 737 (b + o)) = (a + s, b + o) := by
        rw [usedL_set hl]
        congr 1 <;> omega
      exact .inr (.inr (.inr (.inr ⟨by omega, by omega, by omega, by omega, rfl, rfl, rfl, e⟩)))
end Go.Proofs.Ytlnealbnkplfmaa
