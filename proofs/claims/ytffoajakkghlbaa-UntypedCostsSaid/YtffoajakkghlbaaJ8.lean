/- What May of package pack answers (layer 2): for every capability. -/
import Derived.Test.YtffoajakkghlbaaRows
import Derived.Test.YtffoajakkghlbaaJ2
import Derived.WalkKit
import Derived.WalkSpells
import Derived.WalkLawsBesides
import Derived.Handy
import Derived.BigQuiet
import Derived.Deep.QuietTactic
import Derived.RegionTactic
import Derived.Lib.IfaceEq
import Derived.Lib.Hide
import Derived.Deep.Light
import Derived.Outline
namespace Go.Proofs.Ytffoajakkghlbaa
open Go.RowKit
theorem upTo_any (n m : Int) (w : World) : Calls Try.prog 57 #[.int .i64 n, .int .i64 m] w fun e w' => e = .returned (.bool (upToB n m)) ∧ w' = w := by
  go_enter Try.func57, Try.ntmps57
  go_wp2
  all_goals go_ret
  · have h : 0 ≤ n := by assumption
    exact ⟨by simp [upToB, h], rfl⟩
  · have h : n < 0 := by assumption
    exact ⟨by rw [upToB_no (by omega)]; rfl, rfl⟩
section
variable (c : Cp) (w : World)
theorem upTo_no (n m : Int) (w : World) (h : upToB n m = false) : Calls Try.prog 57 #[.int .i64 n, .int .i64 m] w fun e w' => e = .returned (.bool false) ∧ w' = w :=
  (upTo_any n m w).mono fun _ _ ⟨he, hw⟩ => ⟨by rw [he, h], hw⟩
def MbPost (w : World) (b : Bool) (e : Ending) (w' : World) : Prop := e = .returned (.bool b) ∧ Only [] w w'
theorem mayBadge_yes (h : (c.kind == 3) = true ∨ (c.kind == 3) = false ∧ (c.kind == 4) = true) : Calls Try.prog 58 #[c.v] w (MbPost w (upToB c.badge 65535)) := by
  rcases h with hd | ⟨hd, hd4⟩
  · go_enter Try.func58, Try.ntmps58
    go_wp2_with (go_at_call 57; refine (upTo_any _ _ _).mono ?_; rintro e w' ⟨rfl, rfl⟩)
    go_ret
    exact ⟨rfl, (Only.refl _ _).alloc _⟩
  · go_enter Try.func58, Try.ntmps58
    go_wp2_with (go_at_call 57; refine (upTo_any _ _ _).mono ?_; rintro e w' ⟨rfl, rfl⟩)
    go_ret
    exact ⟨rfl, (Only.refl _ _).alloc _⟩
theorem mayBadge_no (hd : (c.kind == 3) = false) (hd4 : (c.kind == 4) = false) : Calls Try.prog 58 #[c.v] w (MbPost w (c.badge == 0)) := by
  go_enter Try.func58, Try.ntmps58
  go_wp2
  go_ret
  exact ⟨rfl, (Only.refl _ _).alloc _⟩
theorem mayBadge_any : Calls Try.prog 58 #[c.v] w fun e w' => e = .returned (.bool (mayBadgeB c.kind c.badge)) ∧ Only [] w w' := by
  by_cases h3 : c.kind = 3
  · rw [mayBadgeB_yes (.inl h3)]; exact mayBadge_yes c w (.inl (by simp [h3]))
  · by_cases h4 : c.kind = 4
    · rw [mayBadgeB_yes (.inr h4)]; exact mayBadge_yes c w (.inr (by simp [h4]))
    · rw [mayBadgeB_no h3 h4]; exact mayBadge_no c w (by simpa using h3) (by simpa using h4)
theorem mayGuard_in (hd : (c.kind != 2) = false) (hn0 : 0 ≤ c.bits) (hn8 : c.bits ≤ 8) : Calls Try.prog 59 #[c.v] w (MbPost w (upToB c.guard (2 ^ c.bits.toNat - 1))) := by
  obtain ⟨hp1, hp2⟩ := pow_le c.bits hn0 hn8
  have hmin : min c.bits.toNat 64 = c.bits.toNat := by omega
  have hw1 : IntKind.i64.wrap (2 ^ c.bits.toNat) = 2 ^ c.bits.toNat := IntWalk.i64_in _ (by omega)
  have hw2 : IntKind.i64.wrap (2 ^ c.bits.toNat - 1) = 2 ^ c.bits.toNat - 1 := IntWalk.i64_in _ (by omega)
  have ht := upToB_yes hn0 hn8
  go_enter Try.func59, Try.ntmps59
  go_wp2
  go_quiet ((go_at_call 57; exact Calls.quiet_of_same (upTo_any _ _ _)))
  go_wp2
  go_ret
  exact ⟨rfl, ((Only.refl _ _).alloc _).drewN _⟩
theorem mayGuard_out (hd : (c.kind != 2) = false) (hn : c.bits < 0 ∨ 8 < c.bits) : Calls Try.prog 59 #[c.v] w (MbPost w false) := by
  have ht := Lib.hid (upToB_no hn)
  clear hn
  go_enter Try.func59, Try.ntmps59
  go_wp2
  go_quiet ((go_at_call 57; exact Calls.quiet_of_same (upTo_no _ _ _ ht.out)))
  go_wp2
  go_ret
  exact ⟨rfl, ((Only.refl _ _).alloc _).drewN _⟩
theorem mayGuard_no1 (hd : (c.kind != 2) = true) (hz : (c.bits == 0) = true) : Calls Try.prog 59 #[c.v] w (MbPost w (c.guard == 0)) := by
  go_enter Try.func59, Try.ntmps59
  go_wp2
  go_ret
  exact ⟨rfl, (Only.refl _ _).alloc _⟩
theorem mayGuard_no2 (hd : (c.kind != 2) = true) (hz : (c.bits == 0) = false) : Calls Try.prog 59 #[c.v] w (MbPost w false) := by
  go_enter Try.func59, Try.ntmps59
  go_wp2
  go_ret
  exact ⟨rfl, (Only.refl _ _).alloc _⟩
theorem mayGuard_any : Calls Try.prog 59 #[c.v] w fun e w' => e = .returned (.bool (mayGuardB c.kind c.guard c.bits)) ∧ Only [] w w' := by
  by_cases h2 : c.kind = 2
  · have hd : (c.kind != 2) = false := by simp [h2]
    by_cases hn : c.bits < 0 ∨ 8 < c.bits
    · rw [mayGuardB_out h2 hn]; exact mayGuard_out c w hd hn
    · rw [mayGuardB_in h2 (by omega) (by omega)]; exact mayGuard_in c w hd (by omega) (by omega)
  · have hd : (c.kind != 2) = true := by simpa using h2
    rw [mayGuardB_no h2]
    by_cases hz : c.bits = 0
    · have hz' : (c.bits == 0) = true := by simp [hz]
      rw [hz', Bool.true_and]; exact mayGuard_no1 c w hd hz'
    · have hz' : (c.bits == 0) = false := by simpa using hz
      rw [hz', Bool.false_and]; exact mayGuard_no2 c w hd hz'
end
section
variable (c : Cp) (w : World)
theorem may_null (hd : (c.kind == 0) = true) : Calls Try.prog 56 #[c.v] w (MbPost w ((c.rights == 0) && (c.obj == 0) && (c.badge == 0) && (c.guard == 0) && (c.bits == 0))) := by
  go_enter Try.func56, Try.ntmps56
  go_wp2
  all_goals go_ret
  all_goals exact ⟨by simp_all, (Only.refl _ _).alloc _⟩
theorem may_real (hd : (c.kind == 0) = false) : Calls Try.prog 56 #[c.v] w (MbPost w (upToB c.kind 8 && upToB c.rights 7 && upToB c.obj 31 && mayBadgeB c.kind c.badge && mayGuardB c.kind c.guard c.bits)) := by
  go_enter Try.func56, Try.ntmps56
  go_wp2_with (first | (go_at_call 57; refine (upTo_any _ _ _).mono ?_; rintro e w' ⟨rfl, rfl⟩) | (go_at_call 58; refine (mayBadge_any _ _).mono ?_; rintro e w' ⟨rfl, ho1⟩; obtain ⟨k0, k1, k2, k3, k4, k5⟩ := (ho1.blk (Blk.new w 32 c.arr) (by simp)).six) | (go_at_call 59; refine (mayGuard_any _ _).mono ?_; rintro e w' ⟨rfl, ho2⟩))
  all_goals go_ret
  all_goals refine ⟨by simp [*], ?_⟩
  all_goals first
    | exact ((Only.refl _ _).alloc _).trans (ho1.trans ho2)
    | exact ((Only.refl _ _).alloc _).trans ho1
    | exact (Only.refl _ _).alloc _
theorem may_any : Calls Try.prog 56 #[c.v] w (MbPost w c.mayB) := by
  by_cases hk : c.kind = 0
  · rw [Cp.mayB_null hk]; exact may_null c w (by simp [hk])
  · rw [Cp.mayB_real hk]; exact may_real c w (by simpa using hk)
theorem may_yes (h : c.may) : Calls Try.prog 56 #[c.v] w fun e w' => e = .returned (.bool true) ∧ Only [] w w' :=
  (may_any c w).mono fun _ _ ⟨he, ho⟩ => ⟨by rw [he, show c.mayB = true from decide_eq_true h], ho⟩
theorem may_no (h : ¬ c.may) : Calls Try.prog 56 #[c.v] w fun e w' => e = .returned (.bool false) ∧ Only [] w w' :=
  (may_any c w).mono fun _ _ ⟨he, ho⟩ => ⟨by rw [he, show c.mayB = false from decide_eq_false h], ho⟩
end
end Go.Proofs.Ytffoajakkghlbaa
/- What Get of package pack answers (layer 2): for every word below 2 to the power of 64. -/
namespace Go.Proofs.Ytffoajakkghlbaa
open Go.RowKit
theorem part_any (x a b : Int) (h0 : 0 ≤ x) (ha : 0 ≤ a) (hab : a ≤ b) (hb : b ≤ 64) (h63 : b - a ≤ 62) (w : World) :
    Calls Try.prog 55 #[.int .u64 x, .int .i64 a, .int .i64 b] w fun e w' => e = .returned (.int .i64 (x / 2 ^ a.toNat % 2 ^ (b - a).toNat)) ∧ w' = w := by
  go_enter Try.func55, Try.ntmps55
  go_wp2
  go_ret
  exact ⟨by rw [← part_int x a b h0 ha hab hb h63]; rfl, rfl⟩
section
variable (w : World)
theorem get_yes (x : Int) (h0 : 0 ≤ x) (_hx : x < 18446744073709551616) (h : (Cp.of x).may) : Calls Try.prog 47 #[.int .u64 x] w fun e w' => e = .returned (.tuple #[(Cp.of x).v, .nilIface]) ∧ Only [] w w' := by
  have H := Lib.hid (show (Cp.mk (x % 16) (x / 16 % 8) (x / 128 % 32) (x / 4096 % 65536) (x / 4294967296 % 4294967296) (x / 268435456 % 16)).may from h)
  clear h
  go_enter Try.func47, Try.ntmps47
  go_wp2_with (go_at_call 55; refine (part_any _ _ _ (by omega) (by omega) (by omega) (by omega) (by omega) _).mono ?_; rintro e w' ⟨rfl, rfl⟩)
  (with_reducible refine (may_yes ⟨_, _, _, _, _, _⟩ _ H.out).mono ?_)
  rintro e w' ⟨rfl, ho1⟩
  have hb1 : Blk w' w.heap.size 32 #[.int .i64 0, .int .i64 0, .int .i64 0, .int .i64 0, .int .i64 0, .int .i64 0] := ho1.blk ((Blk.new w _ _).alloc _) (by simp)
  have hb2 := ho1.blk (Blk.new _ _ _) (by simp)
  rw [show (w.alloc _).heap.size = w.heap.size + 1 by simp] at hb2
  obtain ⟨k0, k1, k2, k3, k4, k5⟩ := hb1.cap
  obtain ⟨l0, l1, l2, l3, l4, l5⟩ := hb2.cap
  have f0 : w'.frozen? ⟨w.heap.size, 0, none⟩ = false := hb1.frozen 0
  have f1 : w'.frozen? ⟨w.heap.size, 1, none⟩ = false := hb1.frozen 1
  have f2 : w'.frozen? ⟨w.heap.size, 2, none⟩ = false := hb1.frozen 2
  have f3 : w'.frozen? ⟨w.heap.size, 3, none⟩ = false := hb1.frozen 3
  have f4 : w'.frozen? ⟨w.heap.size, 4, none⟩ = false := hb1.frozen 4
  have f5 : w'.frozen? ⟨w.heap.size, 5, none⟩ = false := hb1.frozen 5
  go_wp2
  refine bodyPost_ret (v := .tuple #[.agg #[.int .i64 (x % 16), .int .i64 (x / 16 % 8), .int .i64 (x / 128 % 32), .int .i64 (x / 4096 % 65536), .int .i64 (x / 4294967296 % 4294967296), .int .i64 (x / 268435456 % 16)], .nilIface]) (by simp [results, Try.results47, go_sem, k0, k1, k2, k3, k4, k5]) rfl ⟨rfl, ?_⟩
  have ho := ((Only.refl [] w).alloc _).alloc _ |>.trans ho1
  exact (((((ho.setCell (.inr (Nat.le_refl _)) _).setCell (.inr (Nat.le_refl _)) _).setCell (.inr (Nat.le_refl _)) _).setCell (.inr (Nat.le_refl _)) _).setCell (.inr (Nat.le_refl _)) _).setCell (.inr (Nat.le_refl _)) _
theorem get_no (x : Int) (h0 : 0 ≤ x) (_hx : x < 18446744073709551616) (h : ¬ (Cp.of x).may) : Calls Try.prog 47 #[.int .u64 x] w fun e w' => e = .returned (.tuple #[.agg #[.int .i64 0, .int .i64 0, .int .i64 0, .int .i64 0, .int .i64 0, .int .i64 0], .iface 67 (.int .i64 1)]) ∧ Only [] w w' := by
  have H := Lib.hid (show ¬ (Cp.mk (x % 16) (x / 16 % 8) (x / 128 % 32) (x / 4096 % 65536) (x / 4294967296 % 4294967296) (x / 268435456 % 16)).may from h)
  clear h
  go_enter Try.func47, Try.ntmps47
  go_wp2_with (go_at_call 55; refine (part_any _ _ _ (by omega) (by omega) (by omega) (by omega) (by omega) _).mono ?_; rintro e w' ⟨rfl, rfl⟩)
  (with_reducible refine (may_no ⟨_, _, _, _, _, _⟩ _ H.out).mono ?_)
  rintro e w' ⟨rfl, ho1⟩
  have hb1 : Blk w' w.heap.size 32 #[.int .i64 0, .int .i64 0, .int .i64 0, .int .i64 0, .int .i64 0, .int .i64 0] := ho1.blk ((Blk.new w _ _).alloc _) (by simp)
  obtain ⟨k0, k1, k2, k3, k4, k5⟩ := hb1.cap
  have f0 : w'.frozen? ⟨w.heap.size, 0, none⟩ = false := hb1.frozen 0
  have f1 : w'.frozen? ⟨w.heap.size, 1, none⟩ = false := hb1.frozen 1
  have f2 : w'.frozen? ⟨w.heap.size, 2, none⟩ = false := hb1.frozen 2
  have f3 : w'.frozen? ⟨w.heap.size, 3, none⟩ = false := hb1.frozen 3
  have f4 : w'.frozen? ⟨w.heap.size, 4, none⟩ = false := hb1.frozen 4
  have f5 : w'.frozen? ⟨w.heap.size, 5, none⟩ = false := hb1.frozen 5
  go_wp2
  refine bodyPost_ret (v := .tuple #[.agg #[.int .i64 0, .int .i64 0, .int .i64 0, .int .i64 0, .int .i64 0, .int .i64 0], .iface 67 (.int .i64 1)]) (by simp [results, Try.results47, go_sem, k0, k1, k2, k3, k4, k5]) rfl ⟨rfl, ?_⟩
  have ho := ((Only.refl [] w).alloc _).alloc _ |>.trans ho1
  exact (((((ho.setCell (.inr (Nat.le_refl _)) _).setCell (.inr (Nat.le_refl _)) _).setCell (.inr (Nat.le_refl _)) _).setCell (.inr (Nat.le_refl _)) _).setCell (.inr (Nat.le_refl _)) _).setCell (.inr (Nat.le_refl _)) _
end
end Go.Proofs.Ytffoajakkghlbaa
