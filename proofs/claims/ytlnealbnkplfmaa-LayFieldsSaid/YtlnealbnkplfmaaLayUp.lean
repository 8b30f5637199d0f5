/- The document's example of layer 9: it answers true. -/
import Derived.Test.YtlnealbnkplfmaaLaySlot
import Derived.Test.YtlnealbnkplfmaaLayObj
import Derived.Test.YtlnealbnkplfmaaLaySize
namespace Go.Proofs.Ytlnealbnkplfmaa
open Go.RowKit
theorem up_any (w : World) : Calls Try.prog 7 #[] w fun e w' => e = .returned (.bool true) ∧ w' = w := by
  have c1 := Lib.hid (slot_is (i := 1) (f := 1) (x := 6) (q := true) rfl rfl)
  have c2 := Lib.hid (obj_is (i := 32) (f := 0) (x := 0) (q := false) rfl rfl)
  go_enter Try.func7, Try.ntmps7
  go_wp2_with (first | (go_at_call 8; (with_reducible refine (c1.out _).mono ?_); rintro e w' ⟨rfl, rfl⟩) | (go_at_call 9; (with_reducible refine (c2.out _).mono ?_); rintro e w' ⟨rfl, rfl⟩) | (go_at_call 19; (with_reducible refine (size_any _).mono ?_); rintro e w' ⟨rfl, rfl⟩))
  go_ret
  exact ⟨rfl, rfl⟩
end Go.Proofs.Ytlnealbnkplfmaa
