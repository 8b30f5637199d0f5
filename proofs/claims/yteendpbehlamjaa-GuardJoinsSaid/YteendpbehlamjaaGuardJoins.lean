/- GuardJoins' walk: for all lists. -/
import Derived.Test.YteendpbehlamjaaGuardUp
import Derived.Test.YteendpbehlamjaaRefJoin
namespace Go.Proofs.Yteendpbehlamjaa
open Go.RowKit
section
variable {A B : Option Addr} {P Q : List Int} (cp cq : Nat) (w : World)
set_option maxHeartbeats 1000000 in
theorem joins_any (hP : Ints w A P) (hQ : Ints w B Q) (hp : P.length ≤ 9223372036854775807) (hq : Q.length ≤ 9223372036854775807) :
    Calls Try.prog 4 #[.slice A P.length cp, .slice B Q.length cq] w fun e w' => e = .returned (.bool true) ∧ Only [] w w' := by
  have q1 := joinI_code P Q
  obtain ⟨x, n, E1⟩ : ∃ x n, Hid (joinI P Q = (x, n)) := ⟨_, _, Lib.hid rfl⟩
  rw [E1.out] at q1
  have C1 := Lib.hid q1
  clear q1
  by_cases h1 : 50 < P.length
  · go_enter Try.func4, Try.ntmps4
    go_wp2_with fail
    (with_reducible refine (up_any _).mono ?_); rintro e w1 ⟨rfl, ho1⟩
    go_wp2_with fail
    go_ret
    exact ⟨rfl, ho1⟩
  have h1' : P.length ≤ 50 := by omega
  clear h1
  by_cases h2 : 50 < Q.length
  · go_enter Try.func4, Try.ntmps4
    go_wp2_with fail
    (with_reducible refine (up_any _).mono ?_); rintro e w1 ⟨rfl, ho1⟩
    go_wp2_with fail
    go_ret
    exact ⟨rfl, ho1⟩
  have h2' : Q.length ≤ 50 := by omega
  clear h2
  go_enter Try.func4, Try.ntmps4
  go_wp2_with fail
  (with_reducible refine (up_any _).mono ?_); rintro e w1 ⟨rfl, ho1⟩
  go_wp2_with fail
  (with_reducible refine (join_is cp cq _ (hP.only ho1) (hQ.only ho1) h1' h2' E1.out).mono ?_); rintro e w2 ⟨rfl, rfl⟩
  go_wp2_with fail
  (with_reducible refine (rjoin_is cp cq _ (hP.only ho1) (hQ.only ho1) h1' h2' E1.out).mono ?_); rintro e w3 ⟨rfl, ho3⟩
  go_wp2_with fail
  (with_reducible refine (code_any C1.out _).mono ?_); rintro e w' ⟨rfl, rfl⟩
  go_wp2_with fail
  go_ret
  exact ⟨rfl, ho1.trans ho3⟩
end
end Go.Proofs.Yteendpbehlamjaa
