/- What each call of package pack answers (layer 2). -/
import Derived.Test.YtfllddlkgcmopaaRows
import Derived.Test.YtfllddlkgcmopaaPackM
import Derived.WalkKit
import Derived.WalkSpells
import Derived.WalkLawsBesides
import Derived.Handy
import Derived.BigQuiet
import Derived.Deep.QuietTactic
import Derived.RegionTactic
import Derived.Lib.IfaceEq
import Derived.Lib.Hide
import Derived.Deep.Light
import Derived.Outline
namespace Go.Proofs.Ytfllddlkgcmopaa
open Go.RowKit

theorem upTo_any (n m : Int) (w : World) : Calls Try.prog 15 #[.int .i64 n, .int .i64 m] w fun e w' => e = .returned (.bool (upToB n m)) ∧ w' = w := by
  go_enter Try.func15, Try.ntmps15
  go_wp2
  all_goals go_ret
  · have h : 0 ≤ n := by assumption
    exact ⟨by simp [upToB, h], rfl⟩
  · have h : n < 0 := by assumption
    exact ⟨by rw [upToB_no (by omega)]; rfl, rfl⟩
theorem part_any (x a b : Int) (h0 : 0 ≤ x) (ha : 0 ≤ a) (hab : a ≤ b) (hb : b ≤ 64) (h63 : b - a ≤ 62) (w : World) :
    Calls Try.prog 18 #[.int .u64 x, .int .i64 a, .int .i64 b] w fun e w' => e = .returned (.int .i64 (x / 2 ^ a.toNat % 2 ^ (b - a).toNat)) ∧ w' = w := by
  go_enter Try.func18, Try.ntmps18
  go_wp2
  go_ret
  exact ⟨by rw [← part_int x a b h0 ha hab hb h63]; rfl, rfl⟩

section
variable (c : Cp) (w : World)
theorem upTo_no (n m : Int) (w : World) (h : upToB n m = false) : Calls Try.prog 15 #[.int .i64 n, .int .i64 m] w fun e w' => e = .returned (.bool false) ∧ w' = w :=
  (upTo_any n m w).mono fun _ _ ⟨he, hw⟩ => ⟨by rw [he, h], hw⟩
def MbPost (w : World) (b : Bool) (e : Ending) (w' : World) : Prop := e = .returned (.bool b) ∧ Only [] w w'
theorem mayBadge_yes (h : (c.kind == 3) = true ∨ (c.kind == 3) = false ∧ (c.kind == 4) = true) : Calls Try.prog 16 #[c.v] w (MbPost w (upToB c.badge 65535)) := by
  rcases h with hd | ⟨hd, hd4⟩
  · go_enter Try.func16, Try.ntmps16
    go_wp2_with (go_at_call 15; refine (upTo_any _ _ _).mono ?_; rintro e w' ⟨rfl, rfl⟩)
    go_ret
    exact ⟨rfl, (Only.refl _ _).alloc _⟩
  · go_enter Try.func16, Try.ntmps16
    go_wp2_with (go_at_call 15; refine (upTo_any _ _ _).mono ?_; rintro e w' ⟨rfl, rfl⟩)
    go_ret
    exact ⟨rfl, (Only.refl _ _).alloc _⟩
theorem mayBadge_no (hd : (c.kind == 3) = false) (hd4 : (c.kind == 4) = false) : Calls Try.prog 16 #[c.v] w (MbPost w (c.badge == 0)) := by
  go_enter Try.func16, Try.ntmps16
  go_wp2
  go_ret
  exact ⟨rfl, (Only.refl _ _).alloc _⟩
theorem mayBadge_any : Calls Try.prog 16 #[c.v] w fun e w' => e = .returned (.bool (mayBadgeB c.kind c.badge)) ∧ Only [] w w' := by
  by_cases h3 : c.kind = 3
  · rw [mayBadgeB_yes (.inl h3)]; exact mayBadge_yes c w (.inl (by simp [h3]))
  · by_cases h4 : c.kind = 4
    · rw [mayBadgeB_yes (.inr h4)]; exact mayBadge_yes c w (.inr (by simp [h4]))
    · rw [mayBadgeB_no h3 h4]; exact mayBadge_no c w (by simpa using h3) (by simpa using h4)

theorem mayGuard_in (hd : (c.kind != 2) = false) (hn0 : 0 ≤ c.bits) (hn8 : c.bits ≤ 8) : Calls Try.prog 17 #[c.v] w (MbPost w (upToB c.guard (2 ^ c.bits.toNat - 1))) := by
  obtain ⟨hp1, hp2⟩ := pow_le c.bits hn0 hn8
  have hmin : min c.bits.toNat 64 = c.bits.toNat := by omega
  have hw1 : IntKind.i64.wrap (2 ^ c.bits.toNat) = 2 ^ c.bits.toNat := IntWalk.i64_in _ (by omega)
  have hw2 : IntKind.i64.wrap (2 ^ c.bits.toNat - 1) = 2 ^ c.bits.toNat - 1 := IntWalk.i64_in _ (by omega)
  have ht := upToB_yes hn0 hn8
  go_enter Try.func17, Try.ntmps17
  go_wp2
  go_quiet ((go_at_call 15; exact Calls.quiet_of_same (upTo_any _ _ _)))
  go_wp2
  go_ret
  exact ⟨rfl, ((Only.refl _ _).alloc _).drewN _⟩
theorem mayGuard_out (hd : (c.kind != 2) = false) (hn : c.bits < 0 ∨ 8 < c.bits) : Calls Try.prog 17 #[c.v] w (MbPost w false) := by
  have ht := Lib.hid (upToB_no hn)
  clear hn
  go_enter Try.func17, Try.ntmps17
  go_wp2
  go_quiet ((go_at_call 15; exact Calls.quiet_of_same (upTo_no _ _ _ ht.out)))
  go_wp2
  go_ret
  exact ⟨rfl, ((Only.refl _ _).alloc _).drewN _⟩
theorem mayGuard_no1 (hd : (c.kind != 2) = true) (hz : (c.bits == 0) = true) : Calls Try.prog 17 #[c.v] w (MbPost w (c.guard == 0)) := by
  go_enter Try.func17, Try.ntmps17
  go_wp2
  go_ret
  exact ⟨rfl, (Only.refl _ _).alloc _⟩
theorem mayGuard_no2 (hd : (c.kind != 2) = true) (hz : (c.bits == 0) = false) : Calls Try.prog 17 #[c.v] w (MbPost w false) := by
  go_enter Try.func17, Try.ntmps17
  go_wp2
  go_ret
  exact ⟨rfl, (Only.refl _ _).alloc _⟩
theorem mayGuard_any : Calls Try.prog 17 #[c.v] w fun e w' => e = .returned (.bool (mayGuardB c.kind c.guard c.bits)) ∧ Only [] w w' := by
  by_cases h2 : c.kind = 2
  · have hd : (c.kind != 2) = false := by simp [h2]
    by_cases hn : c.bits < 0 ∨ 8 < c.bits
    · rw [mayGuardB_out h2 hn]; exact mayGuard_out c w hd hn
    · rw [mayGuardB_in h2 (by omega) (by omega)]; exact mayGuard_in c w hd (by omega) (by omega)
  · have hd : (c.kind != 2) = true := by simpa using h2
    rw [mayGuardB_no h2]
    by_cases hz : c.bits = 0
    · have hz' : (c.bits == 0) = true := by simp [hz]
      rw [hz', Bool.true_and]; exact mayGuard_no1 c w hd hz'
    · have hz' : (c.bits == 0) = false := by simpa using hz
      rw [hz', Bool.false_and]; exact mayGuard_no2 c w hd hz'
end
end Go.Proofs.Ytfllddlkgcmopaa
