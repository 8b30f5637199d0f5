/- What below of package lay answers (layer 9): whether a number is 0 to one less than another one. -/
import Derived.Test.YtlcefgfcihgocaaVok
import Derived.Test.YtlcefgfcihgocaaLayM
namespace Go.Proofs.Ytlcefgfcihgocaa
open Go.RowKit
theorem below_any (n m : Int) (w : World) : Calls Try.prog 21 #[.int .i64 n, .int .i64 m] w fun e w' => e = .returned (.bool (belowB n m)) ∧ w' = w := by
  go_enter Try.func21, Try.ntmps21
  go_wp2
  all_goals go_ret
  all_goals exact ⟨by simp [belowB, *] <;> omega, rfl⟩
theorem below_is {n m : Int} {q : Bool} (h : belowB n m = q) (w : World) : Calls Try.prog 21 #[.int .i64 n, .int .i64 m] w fun e w' => e = .returned (.bool q) ∧ w' = w := h ▸ below_any n m w
end Go.Proofs.Ytlcefgfcihgocaa
