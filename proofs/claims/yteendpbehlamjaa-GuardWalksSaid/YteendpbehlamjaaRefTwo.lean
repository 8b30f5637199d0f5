/- What the document's own answer answers: powers of two. -/
import Derived.Test.YteendpbehlamjaaRows
import Derived.WalkKit
import Derived.WalkSpells
import Derived.WalkLawsBesides
import Derived.Handy
import Derived.BigQuiet
import Derived.Deep.QuietTactic
import Derived.RegionTactic
import Derived.Lib.Hide
import Derived.Deep.Light
namespace Go.Proofs.Yteendpbehlamjaa
open Go.RowKit
theorem two_any (n : Int) (w : World) (hn : n ≤ 62) : Calls Try.prog 17 #[.int .i64 n] w fun e w' => e = .returned (.int .i64 (2 ^ n.toNat)) ∧ w' = w := by
  go_enter Try.func17, Try.ntmps17
  go_wp2
  go_loop [3, 4] (fun p i => ∃ k : Nat, k ≤ n.toNat ∧ i = .int .i64 k ∧ p = .int .i64 (2 ^ k)) (fun _ i => n.toNat - (intOf i).toNat)
  case atStart => exact ⟨0, by omega, rfl, rfl⟩
  case round =>
    obtain ⟨k, hk, rfl, rfl⟩ := hrel
    by_cases hlt : k < n.toNat
    · have hlt' : (k : Int) < n := by omega
      have hp : (2 : Int) ^ k ≤ 2 ^ 61 := by
        have q : (2 : Nat) ^ k ≤ 2 ^ 61 := Nat.pow_le_pow_right (by omega) (by omega)
        exact_mod_cast q
      have hp0 : 0 < (2 : Int) ^ k := Int.pow_pos (by omega)
      have h61 : (2 : Int) ^ 61 = 2305843009213693952 := by decide
      rw [h61] at hp
      clear h61
      go_wp2
      go_round
      case rel => exact ⟨k + 1, by omega, by go_num, by rw [Int.pow_succ, Int.mul_comm]⟩
      case measure => simp [intOf]; omega
    · have hlt' : n ≤ (k : Int) := by omega
      obtain rfl : k = n.toNat := by omega
      go_wp2
      go_ret
      exact ⟨rfl, rfl⟩
end Go.Proofs.Yteendpbehlamjaa
