/- UntypedCosts' walk: for all kinds, all bits. -/
import Derived.Test.YtffoajakkghlbaaUntUp
import Derived.Test.YtffoajakkghlbaaRefRetA
namespace Go.Proofs.Ytffoajakkghlbaa
open Go.RowKit
set_option maxRecDepth 100000 in
set_option maxHeartbeats 1000000 in
theorem costs_any (k b : Int) (w : World) : Calls Try.prog 3 #[.int .i64 k, .int .i64 b] w fun e w' => e = .returned (.bool true) ∧ Only [] w w' := by
  obtain ⟨c, hc⟩ : ∃ c, costZ k b = c := ⟨_, rfl⟩
  have cR := Lib.hid (rcost_is hc)
  by_cases h0 : c < 0
  · have cC := Lib.hid fun W => ucost_is (q := false) hc (if_pos h0) (by simp [h0]) W
    clear hc
    go_enter Try.func3, Try.ntmps3
    go_wp2_with fail
    (with_reducible refine (up_any _).mono ?_)
    rintro e w1 ⟨rfl, ho1⟩
    go_wp2_with fail
    (with_reducible refine (cC.out _).mono ?_)
    rintro e w2 ⟨rfl, ho2⟩
    replace ho2 := ho1.trans ho2
    clear ho1
    go_wp2_with ((with_reducible refine (cR.out _).mono ?_); rintro e w' ⟨rfl, rfl⟩)
    go_ret
    exact ⟨rfl, ho2⟩
  · have cC := Lib.hid fun W => ucost_is (q := true) hc (if_neg h0) (by simp [h0]) W
    clear hc
    go_enter Try.func3, Try.ntmps3
    go_wp2_with fail
    (with_reducible refine (up_any _).mono ?_)
    rintro e w1 ⟨rfl, ho1⟩
    go_wp2_with fail
    (with_reducible refine (cC.out _).mono ?_)
    rintro e w2 ⟨rfl, ho2⟩
    replace ho2 := ho1.trans ho2
    clear ho1
    go_wp2_with ((with_reducible refine (cR.out _).mono ?_); rintro e w' ⟨rfl, rfl⟩)
    go_ret
    exact ⟨by simp, ho2⟩
end Go.Proofs.Ytffoajakkghlbaa
