/- DescSteps, where what it is handed is let go (layer 7). -/
import Derived.Test.YtgkjkmdenmighaaDescUp
import Derived.Test.YtgkjkmdenmighaaIntsA
namespace Go.Proofs.Ytgkjkmdenmighaa
open Go.RowKit
section
variable {B J : Option Addr}
set_option maxRecDepth 100000 in
set_option maxHeartbeats 8000000 in
theorem steps_out (cp cq n m : Nat) (cells limit : Int) (w : World) (G : cells < 1 ∨ (1 ≤ cells ∧ 30 < cells) ∨ (1 ≤ cells ∧ cells ≤ 30 ∧ limit < 1) ∨ (1 ≤ cells ∧ cells ≤ 30 ∧ 1 ≤ limit ∧ n < 1) ∨ (1 ≤ cells ∧ cells ≤ 30 ∧ 1 ≤ limit ∧ 1 ≤ n ∧ 5 < n) ∨ (1 ≤ cells ∧ cells ≤ 30 ∧ 1 ≤ limit ∧ 1 ≤ n ∧ n ≤ 5 ∧ 200 < m)) :
    Calls Try.prog 3 #[.int .i64 cells, .int .u32 limit, .slice B n cp, .slice J m cq] w fun e w' => e = .returned (.bool true) ∧ Only [] w w' := by
  rcases G with h1 | ⟨h1, h2⟩ | ⟨h1, h2, h3⟩ | ⟨h1, h2, h3, h4⟩ | ⟨h1, h2, h3, h4, h5⟩ | ⟨h1, h2, h3, h4, h5, h6⟩
  all_goals
    go_enter Try.func3, Try.ntmps3
    go_wp2_with fail
    (with_reducible refine (up_any _).mono ?_)
    rintro e w1 ⟨rfl, ho1⟩
    go_wp2_with fail
    go_ret
    exact ⟨rfl, ho1⟩
end
end Go.Proofs.Ytgkjkmdenmighaa
