/- Pick of layers 10 to 19's statements: a number modulo another one. -/
import Derived.Test.YtlcefgfcihgocaaRows
import Derived.WalkKit
import Derived.WalkSpells
import Derived.WalkLawsBesides
import Derived.Handy
import Derived.BigQuiet
import Derived.Deep.QuietTactic
import Derived.RegionTactic
import Derived.Lib.Hide
namespace Go.Proofs.Ytlcefgfcihgocaa
open Go.RowKit
def pickN (c n : Int) : Int := if c < 0 then (-(c + 1)) % n else c % n
theorem pickN_rng (c : Int) {n : Int} (h : 1 ≤ n) : 0 ≤ pickN c n ∧ pickN c n < n := by
  unfold pickN
  split
  · exact ⟨Int.emod_nonneg _ (by omega), Int.emod_lt_of_pos _ (by omega)⟩
  · exact ⟨Int.emod_nonneg _ (by omega), Int.emod_lt_of_pos _ (by omega)⟩
theorem pickN_any (c n : Int) (hc : -9223372036854775808 ≤ c ∧ c ≤ 9223372036854775807) (hn : 1 ≤ n) (hn2 : n ≤ 1000000) (w : World) : Calls Try.prog 6 #[.int .i64 c, .int .i64 n] w fun e w' => e = .returned (.int .i64 (pickN c n)) ∧ w = w' := by
  obtain ⟨h0, h1⟩ := hc
  have hz : ¬ n = 0 := by omega
  by_cases h : c < 0
  · have e1 : pickN c n = -((c + 1).tmod n) := by unfold pickN; rw [if_pos h, ← Int.neg_tmod, Int.tmod_eq_emod_of_nonneg (by omega)]
    have q := (pickN_rng c hn)
    rw [e1] at q ⊢
    have hw1 : IntKind.i64.wrap (c + 1) = c + 1 := IntWalk.i64_in _ (by omega)
    have hw2 : IntKind.i64.wrap ((c + 1).tmod n) = (c + 1).tmod n := IntWalk.i64_in _ (by omega)
    have hw3 : IntKind.i64.wrap (-((c + 1).tmod n)) = -((c + 1).tmod n) := IntWalk.i64_in _ (by omega)
    clear e1
    go_enter Try.func6, Try.ntmps6
    go_wp2
    go_ret
    exact ⟨rfl, rfl⟩
  · have e1 : pickN c n = c % n := by unfold pickN; rw [if_neg h]
    have q := (pickN_rng c hn)
    rw [e1] at q ⊢
    have hw2 : IntKind.i64.wrap (c % n) = c % n := IntWalk.i64_in _ (by omega)
    clear e1
    go_enter Try.func6, Try.ntmps6
    go_wp2
    go_ret
    exact ⟨rfl, rfl⟩
end Go.Proofs.Ytlcefgfcihgocaa
