/- What Top of package guard answers (layer 4): for all numbers. -/
import Derived.Test.YteendpbehlamjaaGuardA
import Derived.Test.YteendpbehlamjaaErr
namespace Go.Proofs.Yteendpbehlamjaa
open Go.RowKit
theorem top_any (a l b : Int) (w : World) : Calls Try.prog 10 #[.int .i64 a, .int .i64 l, .int .i64 b] w fun e w' => e = .returned (.tuple #[.int .i64 (topP a l b).1, errV (topP a l b).2]) ∧ Only [] w w' := by
  go_enter Try.func10, Try.ntmps10
  go_wp2_with (first | (go_at_call 14; (refine (addr_any _ _ _).mono ?_); rintro e w' ⟨rfl, rfl⟩) | (go_at_call 16; have hA := (addrB_iff _ _).1 ‹addrB a l = true›; (refine (highest_any _ _ _ _ (by omega) (by omega) (by omega) (by omega) (by omega)).mono ?_); rintro e w' ⟨rfl, ho⟩))
  all_goals go_ret2
  all_goals first
    | (rw [topP_arg]; (focus (exact ⟨rfl, Only.refl _ _⟩)); (first | (left; simp [*]; done) | (right; assumption)))
    | (rw [topP_deep]; (focus (exact ⟨rfl, Only.refl _ _⟩)); all_goals assumption)
    | (rw [topP_ok]; (focus (exact ⟨rfl, ho⟩)); all_goals assumption)
theorem top_is {a l b x n : Int} (h : topP a l b = (x, n)) (w : World) : Calls Try.prog 10 #[.int .i64 a, .int .i64 l, .int .i64 b] w fun e w' => e = .returned (.tuple #[.int .i64 x, errV n]) ∧ Only [] w w' := by
  have q := top_any a l b w
  rwa [h] at q
end Go.Proofs.Yteendpbehlamjaa
