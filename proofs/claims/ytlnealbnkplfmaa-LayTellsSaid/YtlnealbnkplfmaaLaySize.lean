/- What Size of package lay answers (layer 9). -/
import Derived.Test.YtlnealbnkplfmaaLayA
namespace Go.Proofs.Ytlnealbnkplfmaa
open Go.RowKit
theorem size_any (w : World) : Calls Try.prog 19 #[] w fun e w' => e = .returned (.int .i64 738) ∧ w' = w := by
  go_enter Try.func19, Try.ntmps19
  go_wp2
  go_ret
  exact ⟨rfl, rfl⟩
end Go.Proofs.Ytlnealbnkplfmaa
