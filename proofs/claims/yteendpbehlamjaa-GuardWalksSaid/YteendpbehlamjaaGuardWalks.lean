/- GuardWalks' walk: for all numbers. -/
import Derived.Test.YteendpbehlamjaaGuardUp
import Derived.Test.YteendpbehlamjaaGuardTop
import Derived.Test.YteendpbehlamjaaRefWalk
namespace Go.Proofs.Yteendpbehlamjaa
open Go.RowKit
set_option maxHeartbeats 1000000 in
theorem walks_any (a l g b r : Int) (w : World) : Calls Try.prog 3 #[.int .i64 a, .int .i64 l, .int .i64 g, .int .i64 b, .int .i64 r] w fun e w' => e = .returned (.bool true) ∧ Only [] w w' := by
  have q1 := walkP_code a l g b r
  have q2 := topP_code a l b
  obtain ⟨x, y, n, E1⟩ : ∃ x y n, Hid (walkP a l g b r = (x, y, n)) := ⟨_, _, _, Lib.hid rfl⟩
  obtain ⟨z, m, E2⟩ : ∃ x n, Hid (topP a l b = (x, n)) := ⟨_, _, Lib.hid rfl⟩
  rw [E1.out] at q1
  rw [E2.out] at q2
  have C1 := Lib.hid q1
  have C2 := Lib.hid q2
  clear q1 q2
  go_enter Try.func3, Try.ntmps3
  go_wp2_with fail
  (with_reducible refine (up_any _).mono ?_); rintro e w1 ⟨rfl, ho1⟩
  go_wp2_with fail
  (with_reducible refine (walk_is E1.out _).mono ?_); rintro e w2 ⟨rfl, ho2⟩
  go_wp2_with fail
  (with_reducible refine (rwalk_is E1.out _).mono ?_); rintro e w3 ⟨rfl, ho3⟩
  go_wp2_with fail
  (with_reducible refine (code_any C1.out _).mono ?_); rintro e w' ⟨rfl, rfl⟩
  go_wp2_with fail
  (with_reducible refine (top_is E2.out _).mono ?_); rintro e w4 ⟨rfl, ho4⟩
  go_wp2_with fail
  (with_reducible refine (rtop_is E2.out _).mono ?_); rintro e w5 ⟨rfl, ho5⟩
  go_wp2_with fail
  (with_reducible refine (code_any C2.out _).mono ?_); rintro e w' ⟨rfl, rfl⟩
  go_wp2_with fail
  go_ret
  exact ⟨rfl, (((ho1.trans ho2).trans ho3).trans ho4).trans ho5⟩
end Go.Proofs.Yteendpbehlamjaa
