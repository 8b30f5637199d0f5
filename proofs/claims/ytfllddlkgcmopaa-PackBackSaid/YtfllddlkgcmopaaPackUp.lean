/- The examples at the statements' head come out true (layer 2). -/
import Derived.Test.YtfllddlkgcmopaaRef3
namespace Go.Proofs.Ytfllddlkgcmopaa
open Go.RowKit
set_option maxHeartbeats 1000000 in
theorem up_any (w : World) : Calls Try.prog 5 #[] w fun e w' => e = .returned (.bool true) ∧ Only [] w w' := by
  have hq := fun (c a : Int) (W : World) => Lib.run_eql_iface_int (P := Try.prog) W (t := 28) (tx := 31) (k := .i64) c a Try.underlying28 (by kernel_rfl) Try.underlying31
  go_enter Try.func5, Try.ntmps5
  go_wp2_with fail
  refine (put_yes ⟨3, 7, 1, 0, 0, 0⟩ _ (by decide)).mono ?_; rintro e w1 ⟨rfl, ho1⟩
  rw [show (Cp.mk 3 7 1 0 0 0).word = 243 from rfl]
  go_wp2_with fail
  refine (get_no _ 9223372036854775808 (by decide) (by decide) (by decide)).mono ?_; rintro e w2 ⟨rfl, ho2⟩
  go_wp2_with fail
  refine (may_yes ⟨0, 0, 0, 0, 0, 0⟩ _ (by decide)).mono ?_; rintro e w3 ⟨rfl, ho3⟩
  go_wp2_with fail
  refine (may_no ⟨9, 0, 0, 0, 0, 0⟩ _ (by decide)).mono ?_; rintro e w4 ⟨rfl, ho4⟩
  go_wp2_with fail
  go_ret
  exact ⟨rfl, ((ho1.trans ho2).alloc _).trans (ho3.trans ho4)⟩
end Go.Proofs.Ytfllddlkgcmopaa
