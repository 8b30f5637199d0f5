/- LayTells' walk: for all numbers. -/
import Derived.Test.YtlnealbnkplfmaaLayUp
namespace Go.Proofs.Ytlnealbnkplfmaa
open Go.RowKit
theorem tells_ways (i : Int) (a b : Int) (hab : a ≤ b) : i < 0 ∨ (0 ≤ i ∧ i < a ∧ i < b) ∨ (0 ≤ i ∧ a ≤ i ∧ i < b) ∨ (0 ≤ i ∧ a ≤ i ∧ b ≤ i) := by omega
set_option maxHeartbeats 1000000 in
theorem tells_any (i f : Int) (w : World) : Calls Try.prog 3 #[.int .i64 i, .int .i64 f] w fun e w' => e = .returned (.bool true) ∧ Only [] w w' := by
  obtain ⟨x, hx⟩ : ∃ x, slotI i f = x := ⟨_, rfl⟩
  obtain ⟨y, hy⟩ : ∃ y, objI i f = y := ⟨_, rfl⟩
  rcases tells_ways i 32 96 (by decide) with h | ⟨h, h1, h2⟩ | ⟨h, h1, h2⟩ | ⟨h, h1, h2⟩ <;> rcases tells_ways f 5 8 (by decide) with k | ⟨k, k1, k2⟩ | ⟨k, k1, k2⟩ | ⟨k, k1, k2⟩
  all_goals
    first
      | (have s1 : slotB i f = true := slotB_yes.2 (by omega); obtain rfl := (slotI_yes s1).symm.trans hx)
      | (have s1 : slotB i f = false := slotB_no.2 (by omega); obtain rfl := (slotI_no s1).symm.trans hx)
    first
      | (have s2 : objB i f = true := objB_yes.2 (by omega); obtain rfl := (objI_yes s2).symm.trans hy)
      | (have s2 : objB i f = false := objB_no.2 (by omega); obtain rfl := (objI_no s2).symm.trans hy)
    have c1 := Lib.hid (slot_is hx s1)
    have c2 := Lib.hid (obj_is hy s2)
    clear s1 s2 hx hy
    go_enter Try.func3, Try.ntmps3
    go_wp2_with (first | (go_at_call 7; (with_reducible refine (up_any _).mono ?_); rintro e w' ⟨rfl, rfl⟩) | (go_at_call 8; (with_reducible refine (c1.out _).mono ?_); rintro e w' ⟨rfl, rfl⟩) | (go_at_call 9; (with_reducible refine (c2.out _).mono ?_); rintro e w' ⟨rfl, rfl⟩))
    go_ret
    exact ⟨rfl, Only.refl _ _⟩
end Go.Proofs.Ytlnealbnkplfmaa
