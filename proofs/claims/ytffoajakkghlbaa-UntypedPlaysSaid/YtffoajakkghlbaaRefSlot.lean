/- The document's state of layers 9 to 21: whether there is a slot. -/
import Derived.Test.YtffoajakkghlbaaRefNew
namespace Go.Proofs.Ytffoajakkghlbaa
open Go.RowKit
theorem rslot_any (i : Int) (w : World) : Calls Try.prog 22 #[.int .i64 i] w fun e w' => e = .returned (.bool (slotOk i)) ∧ w' = w := by
  go_enter Try.func22, Try.ntmps22
  go_wp2
  all_goals go_ret
  all_goals exact ⟨by simp [slotOk, *] <;> omega, rfl⟩
theorem rslot_is {i : Int} {q : Bool} (h : slotOk i = q) (w : World) : Calls Try.prog 22 #[.int .i64 i] w fun e w' => e = .returned (.bool q) ∧ w' = w := h ▸ rslot_any i w
end Go.Proofs.Ytffoajakkghlbaa
