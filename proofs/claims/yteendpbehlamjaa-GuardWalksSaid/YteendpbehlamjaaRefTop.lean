/- What the document's own answer for layer 4 answers: Top. -/
import Derived.Test.YteendpbehlamjaaRefTwo
import Derived.Test.YteendpbehlamjaaGuardM
namespace Go.Proofs.Yteendpbehlamjaa
open Go.RowKit
theorem rtop_no (a l b : Int) (w : World) (h : addrB a l = false ∨ b < 0) : Calls Try.prog 11 #[.int .i64 a, .int .i64 l, .int .i64 b] w fun e w' => e = .returned (.tuple #[.int .i64 0, .int .i64 1]) ∧ w' = w := by
  have H := Lib.hid (show a < 0 ∨ 65535 < a ∨ l < 0 ∨ 16 < l ∨ b < 0 by rw [Bool.eq_false_iff, Ne, addrB_iff] at h; omega)
  clear h
  go_enter Try.func11, Try.ntmps11
  go_wp2_with (exfalso; have h := H.out; omega)
  all_goals go_ret2
  all_goals exact ⟨rfl, rfl⟩
theorem rtop_yes (a l b : Int) (w : World) (a0 : 0 ≤ a) (a1 : a ≤ 65535) (l0 : 0 ≤ l) (l1 : l ≤ 16) (b0 : 0 ≤ b) (b1 : b ≤ l) : Calls Try.prog 11 #[.int .i64 a, .int .i64 l, .int .i64 b] w fun e w' => e = .returned (.tuple #[.int .i64 (topI a l b), .int .i64 0]) ∧ Only [] w w' := by
  have hp0 := pw_pos l.toNat
  have hp1 := (pw16 l1).2
  have hq0 := pw_pos (l - b).toNat
  have hq1 := (pw16 (b := l - b) (by omega)).2
  have hz0 : ((2 : Int) ^ l.toNat == 0) = false := by simp; omega
  have hz1 : ((2 : Int) ^ (l - b).toNat == 0) = false := by simp; omega
  have T := Lib.hid (topI_mod (l := l) b0 b1 a0)
  have hm0 : 0 ≤ a % 2 ^ l.toNat := Int.emod_nonneg _ (by omega)
  have hm1 := Int.emod_lt_of_pos a hp0
  have hd := Int.ediv_le_self (2 ^ (l - b).toNat) hm0
  have hd0 := Int.ediv_nonneg hm0 (Int.le_of_lt hq0)
  go_enter Try.func11, Try.ntmps11
  go_wp2
  go_quiet ((go_at_call 17; exact Calls.quiet_of_same (two_any _ _ (by omega))))
  go_wp2
  go_ret2
  exact ⟨by rw [← T.out]; rfl, (Only.refl _ _).drewN _⟩
theorem rtop_deep (a l b : Int) (w : World) (a0 : 0 ≤ a) (a1 : a ≤ 65535) (l0 : 0 ≤ l) (l1 : l ≤ 16) (b0 : 0 ≤ b) (b1 : l < b) : Calls Try.prog 11 #[.int .i64 a, .int .i64 l, .int .i64 b] w fun e w' => e = .returned (.tuple #[.int .i64 0, .int .i64 4]) ∧ w' = w := by
  go_enter Try.func11, Try.ntmps11
  go_wp2
  go_ret2
  exact ⟨rfl, rfl⟩
theorem rtop_any (a l b : Int) (w : World) : Calls Try.prog 11 #[.int .i64 a, .int .i64 l, .int .i64 b] w fun e w' => e = .returned (.tuple #[.int .i64 (topP a l b).1, .int .i64 (topP a l b).2]) ∧ Only [] w w' := by
  by_cases h : addrB a l = false ∨ b < 0
  · rw [topP_arg h]
    exact (rtop_no a l b w h).mono fun _ _ ⟨he, hw⟩ => ⟨he, hw ▸ Only.refl _ _⟩
  · have h' := h
    simp only [not_or, Bool.not_eq_false] at h'
    obtain ⟨⟨a0, a1⟩, l0, l1⟩ := (addrB_iff _ _).1 h'.1
    by_cases hd : l < b
    · rw [topP_deep h'.1 (by omega) hd]
      exact (rtop_deep a l b w a0 a1 l0 l1 (by omega) hd).mono fun _ _ ⟨he, hw⟩ => ⟨he, hw ▸ Only.refl _ _⟩
    · rw [topP_ok h'.1 (by omega) (by omega)]
      exact rtop_yes a l b w a0 a1 l0 l1 (by omega) (by omega)
theorem rtop_is {a l b x n : Int} (h : topP a l b = (x, n)) (w : World) : Calls Try.prog 11 #[.int .i64 a, .int .i64 l, .int .i64 b] w fun e w' => e = .returned (.tuple #[.int .i64 x, .int .i64 n]) ∧ Only [] w w' := by
  have q := rtop_any a l b w
  rwa [h] at q
end Go.Proofs.Yteendpbehlamjaa
