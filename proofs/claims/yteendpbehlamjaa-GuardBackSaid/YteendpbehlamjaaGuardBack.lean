/- GuardBack's walk: for all numbers. -/
import Derived.Test.YteendpbehlamjaaGuardUp
import Derived.Test.YteendpbehlamjaaGuardTop
namespace Go.Proofs.Yteendpbehlamjaa
open Go.RowKit
theorem top_nil {a l b x : Int} (h : topP a l b = (x, 0)) (w : World) : Calls Try.prog 10 #[.int .i64 a, .int .i64 l, .int .i64 b] w fun e w' => e = .returned (.tuple #[.int .i64 x, .nilIface]) ∧ Only [] w w' := top_is h w
set_option maxHeartbeats 1000000 in
theorem back_any (own b index r rest : Int) (w0 : (Lit.int .i64 own).wf = true) (w1 : (Lit.int .i64 b).wf = true) (w2 : (Lit.int .i64 index).wf = true) (w3 : (Lit.int .i64 r).wf = true) (w4 : (Lit.int .i64 rest).wf = true) (w : World) :
    Calls Try.prog 5 #[.int .i64 own, .int .i64 b, .int .i64 index, .int .i64 r, .int .i64 rest] w fun e w' => e = .returned (.bool true) ∧ Only [] w w' := by
  have C0 := Lib.hid w0
  have C1 := Lib.hid w1
  have C2 := Lib.hid w2
  have C3 := Lib.hid w3
  have C4 := Lib.hid w4
  clear w0 w1 w2 w3 w4
  by_cases bad : b < 0 ∨ 8 < b ∨ r < 0 ∨ 5 < r
  · have K := Lib.hid bad
    clear bad
    go_enter Try.func5, Try.ntmps5
    go_wp2_with fail
    (with_reducible refine (up_any _).mono ?_); rintro e w1 ⟨rfl, ho1⟩
    go_wp2_with (exfalso; have h := K.out; omega)
    all_goals go_ret
    all_goals exact ⟨rfl, ho1⟩
  have b0 : 0 ≤ b := by omega
  have b1 : b ≤ 8 := by omega
  have r0 : 0 ≤ r := by omega
  have r1 : r ≤ 5 := by omega
  clear bad
  obtain ⟨x, n, E⟩ : ∃ x n, Hid (joinI [own, index, rest] [b, r, 16 - b - r] = (x, n)) := ⟨_, _, Lib.hid rfl⟩
  go_enter Try.func5, Try.ntmps5
  go_wp2_with fail
  (with_reducible refine (up_any _).mono ?_); rintro e w1 ⟨rfl, ho1⟩
  go_wp2_with fail
  obtain ⟨h1, h2⟩ := two_rows (P := [own, index, rest]) (Q := [b, r, 16 - b - r]) w1 3 (by simp [C0.out, C2.out, C4.out]) (by
    intro x hx
    simp only [List.mem_cons, List.not_mem_nil, or_false] at hx
    rcases hx with rfl | rfl | rfl
    · exact C1.out
    · exact C3.out
    · exact WalkArith.wf_i64 (by omega))
  by_cases hn : n = 0
  · subst hn
    obtain ⟨F1, F2⟩ := joined b0 b1 r0 r1 E.out
    have G1 := Lib.hid F1
    have G2 := Lib.hid F2
    clear F1 F2
    refine (join_nil (P := [own, index, rest]) (Q := [b, r, 16 - b - r]) 3 3 _ h1 h2 (by simp) (by simp) E.out).mono ?_; rintro e w2 ⟨rfl, rfl⟩
    clear h1 h2
    go_wp2_with fail
    (with_reducible refine (walk_nil G1.out _).mono ?_); rintro e w3 ⟨rfl, ho3⟩
    go_wp2_with fail
    (with_reducible refine (top_nil G2.out _).mono ?_); rintro e w4 ⟨rfl, ho4⟩
    go_wp2_with fail
    (with_reducible refine (walk_nil G1.out _).mono ?_); rintro e w5 ⟨rfl, ho5⟩
    go_wp2_with fail
    go_ret
    exact ⟨rfl, ((((ho1.alloc _).alloc _).trans ho3).trans ho4).trans ho5⟩
  · refine (join_err (P := [own, index, rest]) (Q := [b, r, 16 - b - r]) 3 3 _ h1 h2 (by simp) (by simp) E.out hn).mono ?_; rintro e w2 ⟨rfl, rfl⟩
    clear h1 h2
    go_wp2_with fail
    go_ret
    exact ⟨rfl, (ho1.alloc _).alloc _⟩
end Go.Proofs.Yteendpbehlamjaa
