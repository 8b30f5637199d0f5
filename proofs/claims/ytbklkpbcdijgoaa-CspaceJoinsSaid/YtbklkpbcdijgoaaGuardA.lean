/- What the parts of package guard answer (layer 4): whether a number has so many bits, whether an address may be, its highest bits. -/
import Derived.Test.YtbklkpbcdijgoaaRows
import Derived.Test.YtbklkpbcdijgoaaGuardM
import Derived.WalkKit
import Derived.WalkSpells
import Derived.WalkLawsBesides
import Derived.Handy
import Derived.BigQuiet
import Derived.Deep.QuietTactic
import Derived.RegionTactic
import Derived.Lib.Hide
import Derived.Deep.Light
namespace Go.Proofs.Ytbklkpbcdijgoaa
open Go.RowKit
theorem fits_any (n b : Int) (w : World) (h0 : 0 ≤ b) (h1 : b ≤ 16) : Calls Try.prog 26 #[.int .i64 n, .int .i64 b] w fun e w' => e = .returned (.bool (fitsB n b)) ∧ w' = w := by
  obtain ⟨hp1, hp2⟩ := pw16 h1
  have hmin : min b.toNat 64 = b.toNat := by omega
  have hw1 : IntKind.i64.wrap (2 ^ b.toNat) = 2 ^ b.toNat := IntWalk.i64_in _ (by omega)
  go_enter Try.func26, Try.ntmps26
  go_wp2
  all_goals go_ret
  · have h : 0 ≤ n := by assumption
    exact ⟨by simp [fitsB, h], rfl⟩
  · have h : n < 0 := by assumption
    exact ⟨by rw [(fitsB_no n b).2 (.inl h)]; rfl, rfl⟩
theorem fits_is {n b : Int} {q : Bool} (h0 : 0 ≤ b) (h1 : b ≤ 16) (h : fitsB n b = q) (w : World) : Calls Try.prog 26 #[.int .i64 n, .int .i64 b] w fun e w' => e = .returned (.bool q) ∧ w' = w := h ▸ fits_any n b w h0 h1
theorem addr_any (a l : Int) (w : World) : Calls Try.prog 19 #[.int .i64 a, .int .i64 l] w fun e w' => e = .returned (.bool (addrB a l)) ∧ w' = w := by
  go_enter Try.func19, Try.ntmps19
  go_wp2_with (go_at_call 26; refine (fits_any _ 16 _ (by decide) (by decide)).mono ?_; rintro e w' ⟨rfl, rfl⟩)
  all_goals go_ret
  all_goals exact ⟨by simp [addrB, *] <;> omega, rfl⟩
theorem highest_any (a l b : Int) (w : World) (a0 : 0 ≤ a) (a1 : a ≤ 65535) (b0 : 0 ≤ b) (b1 : b ≤ l) (l1 : l ≤ 16) : Calls Try.prog 21 #[.int .i64 a, .int .i64 l, .int .i64 b] w fun e w' => e = .returned (.int .i64 (topI a l b)) ∧ Only [] w w' := by
  obtain ⟨hp1, hp2⟩ := pw16 (b := b) (by omega)
  have hmin : min b.toNat 64 = b.toNat := by omega
  have hmin2 : min (l - b).toNat 64 = (l - b).toNat := by omega
  have hw1 : IntKind.i64.wrap (2 ^ b.toNat) = 2 ^ b.toNat := IntWalk.i64_in _ (by omega)
  have hw2 : IntKind.i64.wrap (2 ^ b.toNat - 1) = 2 ^ b.toNat - 1 := IntWalk.i64_in _ (by omega)
  have hb := topI_bits (l := l) b0 (by omega) a0 a1
  go_enter Try.func21, Try.ntmps21
  go_wp2
  go_quiet (fail)
  go_wp2
  go_ret
  exact ⟨rfl, (Only.refl _ _).drewN _⟩
end Go.Proofs.Ytbklkpbcdijgoaa
