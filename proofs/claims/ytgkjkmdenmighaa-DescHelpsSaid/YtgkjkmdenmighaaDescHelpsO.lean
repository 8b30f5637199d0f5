/- DescHelps, where what it is handed is let go (layer 7). -/
import Derived.Test.YtgkjkmdenmighaaDescUp
namespace Go.Proofs.Ytgkjkmdenmighaa
open Go.RowKit
section
variable {B J : Option Addr}
set_option maxRecDepth 100000 in
set_option maxHeartbeats 8000000 in
theorem helps_out (cp cq n m : Nat) (cells : Int) (w : World) (G : cells < 1 ∨ (1 ≤ cells ∧ 30 < cells) ∨ (1 ≤ cells ∧ cells ≤ 30 ∧ n < 1) ∨ (1 ≤ cells ∧ cells ≤ 30 ∧ 1 ≤ n ∧ 6 < n) ∨ (1 ≤ cells ∧ cells ≤ 30 ∧ 1 ≤ n ∧ n ≤ 6 ∧ 300 < m)) :
    Calls Try.prog 4 #[.int .i64 cells, .slice B n cp, .slice J m cq] w fun e w' => e = .returned (.bool true) ∧ Only [] w w' := by
  rcases G with h1 | ⟨h1, h2⟩ | ⟨h1, h2, h3⟩ | ⟨h1, h2, h3, h4⟩ | ⟨h1, h2, h3, h4, h5⟩
  all_goals
    go_enter Try.func4, Try.ntmps4
    go_wp2_with fail
    (with_reducible refine (up_any _).mono ?_)
    rintro e w1 ⟨rfl, ho1⟩
    go_wp2_with fail
    go_ret
    exact ⟨rfl, ho1⟩
end
end Go.Proofs.Ytgkjkmdenmighaa
