/- What LayApart says, as mathematics: words of unlike slots, objects, fields are unlike. No dump is read here. -/
import Derived.Test.YtlnealbnkplfmaaLayM
namespace Go.Proofs.Ytlnealbnkplfmaa
open Go.RowKit
section
variable {i f k o : Int}
theorem apart_so (h : slotB i f = true) (h' : objB k o = true) : (slotI i f == objI k o) = false := by
  rw [slotI_yes h, objI_yes h']
  have := slotB_yes.1 h
  have := objB_yes.1 h'
  simp
  omega
theorem apart_ss (h : slotB i f = true) (h' : slotB k o = true) (hne : i ≠ k ∨ f ≠ o) : (slotI i f == slotI k o) = false := by
  rw [slotI_yes h, slotI_yes h']
  have := slotB_yes.1 h
  have := slotB_yes.1 h'
  simp
  omega
theorem apart_oo (h : objB i f = true) (h' : objB k o = true) (hne : i ≠ k ∨ f ≠ o) : (objI i f == objI k o) = false := by
  rw [objI_yes h, objI_yes h']
  have := objB_yes.1 h
  have := objB_yes.1 h'
  simp
  omega
/-- two fields put, both are read -/
theorem apart_fields {L : List Int} (hl : L.length = 738) (h : objB i f = true) (h' : objB k o = true) (hne : i ≠ k ∨ f ≠ o) {n : Int} (h0 : 0 ≤ n) (h1 : n ≤ 1099511627776) :
    fieldL (putL (putL L k o 7) i f n) k o = 7 ∧ fieldL (putL (putL L k o 7) i f n) i f = n := by
  have hc := objB_yes.1 h
  have hd := objB_yes.1 h'
  have hb : ∀ (L : List Int) (x : Int), L.length = 738 → 0 ≤ x → x < 738 → hasB L.length x = true := fun L x hL hx hx' => hasB_yes.2 ⟨hx, by rw [hL]; omega⟩
  have e1 : putL L k o 7 = setL L (480 + 8 * k + o) 7 := by simp [putL, h']
  have e2 : putL (putL L k o 7) i f n = setL (setL L (480 + 8 * k + o) 7) (480 + 8 * i + f) n := by rw [e1]; simp [putL, h, h0]
  rw [e2]
  have l1 : (setL L (480 + 8 * k + o) 7).length = 738 := by rw [setL_length, hl]
  constructor
  · unfold fieldL
    rw [if_pos h', atL_setL, if_neg (by rintro ⟨-, h9⟩; omega), atL_setL, if_pos ⟨hb _ _ hl (by omega) (by omega), rfl⟩]
    simp [numI]
  · unfold fieldL
    rw [if_pos h, atL_setL, if_pos ⟨hb _ _ l1 (by omega) (by omega), rfl⟩]
    unfold numI
    rw [if_neg (by omega)]
end
end Go.Proofs.Ytlnealbnkplfmaa
