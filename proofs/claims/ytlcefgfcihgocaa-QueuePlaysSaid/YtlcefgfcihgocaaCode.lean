/- The number of an error, as the statements read it. -/
import Derived.Test.YtlcefgfcihgocaaRows
import Derived.WalkKit
import Derived.WalkSpells
import Derived.WalkLawsBesides
import Derived.Handy
import Derived.BigQuiet
import Derived.Deep.QuietTactic
import Derived.RegionTactic
import Derived.Lib.IfaceEq
import Derived.Lib.IfaceNeq
import Derived.Lib.Hide
import Derived.Deep.Light
namespace Go.Proofs.Ytlcefgfcihgocaa
open Go.RowKit
/-- the number of an error, as the statements read it -/
theorem code_nil (w : World) : Calls Try.prog 8 #[.nilIface] w fun e w' => e = .returned (.int .i64 0) ∧ w = w' := by
  go_enter Try.func8, Try.ntmps8
  go_wp2
  go_ret
  exact ⟨rfl, rfl⟩
theorem code_some (c : Int) (w : World) (h1 : 1 ≤ c) (h2 : c ≤ 14) : Calls Try.prog 8 #[.iface 43 (.int .i64 c)] w fun e w' => e = .returned (.int .i64 c) ∧ w = w' := by
  have hq := fun (a : Int) (W : World) => Lib.run_eql_iface_int (P := Try.prog) W (t := 33) (tx := 43) (k := .i64) c a Try.underlying33 (by kernel_rfl) Try.underlying43
  go_enter Try.func8, Try.ntmps8
  go_wp2
  go_loop [3] (fun i => ∃ k : Nat, 1 ≤ k ∧ (k : Int) ≤ c ∧ i = .int .i64 k) (fun i => (15 - intOf i).toNat)
  case atStart => exact ⟨1, by omega, by omega, rfl⟩
  case round =>
    obtain ⟨k, hk1, hk2, rfl⟩ := hrel
    by_cases hlt : (k : Int) = c
    · have hd : (c == (k : Int)) = true := by simp [hlt]
      have H := Lib.hid hlt
      clear hlt
      go_wp2
      go_ret
      exact ⟨by rw [← H.out]; rfl, rfl⟩
    · have hd : (c == (k : Int)) = false := by simp; omega
      have hlt' : (k : Int) < c := by omega
      clear hlt
      go_wp2
      go_round
      case rel => exact ⟨k + 1, by omega, by omega, by go_num⟩
      case measure => simp [intOf]; omega
end Go.Proofs.Ytlcefgfcihgocaa
