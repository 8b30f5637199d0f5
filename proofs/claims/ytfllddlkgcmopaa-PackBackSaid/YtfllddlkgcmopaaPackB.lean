/- What May, Put and Get of package pack answer (layer 2): for every capability, and every word below 2 to the power of 64. -/
import Derived.Test.YtfllddlkgcmopaaPackA
namespace Go.Proofs.Ytfllddlkgcmopaa
open Go.RowKit
section
variable (c : Cp) (w : World)
theorem may_null (hd : (c.kind == 0) = true) : Calls Try.prog 8 #[c.v] w (MbPost w ((c.rights == 0) && (c.obj == 0) && (c.badge == 0) && (c.guard == 0) && (c.bits == 0))) := by
  go_enter Try.func8, Try.ntmps8
  go_wp2
  all_goals go_ret
  all_goals exact ⟨by simp_all, (Only.refl _ _).alloc _⟩
theorem may_real (hd : (c.kind == 0) = false) : Calls Try.prog 8 #[c.v] w (MbPost w (upToB c.kind 8 && upToB c.rights 7 && upToB c.obj 31 && mayBadgeB c.kind c.badge && mayGuardB c.kind c.guard c.bits)) := by
  go_enter Try.func8, Try.ntmps8
  go_wp2_with (first | (go_at_call 15; refine (upTo_any _ _ _).mono ?_; rintro e w' ⟨rfl, rfl⟩) | (go_at_call 16; refine (mayBadge_any _ _).mono ?_; rintro e w' ⟨rfl, ho1⟩; obtain ⟨k0, k1, k2, k3, k4, k5⟩ := (ho1.blk (Blk.new w 23 c.arr) (by simp)).six) | (go_at_call 17; refine (mayGuard_any _ _).mono ?_; rintro e w' ⟨rfl, ho2⟩))
  all_goals go_ret
  all_goals refine ⟨by simp [*], ?_⟩
  all_goals first
    | exact ((Only.refl _ _).alloc _).trans (ho1.trans ho2)
    | exact ((Only.refl _ _).alloc _).trans ho1
    | exact (Only.refl _ _).alloc _
theorem may_any : Calls Try.prog 8 #[c.v] w (MbPost w c.mayB) := by
  by_cases hk : c.kind = 0
  · rw [Cp.mayB_null hk]; exact may_null c w (by simp [hk])
  · rw [Cp.mayB_real hk]; exact may_real c w (by simpa using hk)
theorem may_yes (h : c.may) : Calls Try.prog 8 #[c.v] w fun e w' => e = .returned (.bool true) ∧ Only [] w w' :=
  (may_any c w).mono fun _ _ ⟨he, ho⟩ => ⟨by rw [he, show c.mayB = true from decide_eq_true h], ho⟩
theorem may_no (h : ¬ c.may) : Calls Try.prog 8 #[c.v] w fun e w' => e = .returned (.bool false) ∧ Only [] w w' :=
  (may_any c w).mono fun _ _ ⟨he, ho⟩ => ⟨by rw [he, show c.mayB = false from decide_eq_false h], ho⟩

theorem put_no (h : ¬ c.may) : Calls Try.prog 7 #[c.v] w fun e w' => e = .returned (.tuple #[.int .u64 0, .iface 31 (.int .i64 1)]) ∧ Only [] w w' := by
  have H := Lib.hid h
  clear h
  go_enter Try.func7, Try.ntmps7
  go_wp2_with (go_at_call 8; refine (may_no _ _ H.out).mono ?_; rintro e w' ⟨rfl, ho1⟩)
  go_ret2
  exact ⟨rfl, ((Only.refl _ _).alloc _).trans ho1⟩
theorem put_yes (h : c.may) : Calls Try.prog 7 #[c.v] w fun e w' => e = .returned (.tuple #[.int .u64 c.word, .nilIface]) ∧ Only [] w w' := by
  have H := Lib.hid h
  obtain ⟨h1, h2, h3, h4, h5, h6, h7, h8, h9, h10, h11, h12⟩ := h.small
  clear h
  go_enter Try.func7, Try.ntmps7
  go_wp2_with (go_at_call 8; refine (may_yes _ _ H.out).mono ?_; rintro e w' ⟨rfl, ho1⟩; obtain ⟨k0, k1, k2, k3, k4, k5⟩ := (ho1.blk (Blk.new w 23 c.arr) (by simp)).six)
  go_ret2
  exact ⟨tup_u64 (word_or H.out.small), ((Only.refl _ _).alloc _).trans ho1⟩
theorem get_yes (x : Int) (h0 : 0 ≤ x) (hx : x < 18446744073709551616) (h : (Cp.of x).may) : Calls Try.prog 10 #[.int .u64 x] w fun e w' => e = .returned (.tuple #[(Cp.of x).v, .nilIface]) ∧ Only [] w w' := by
  have H := Lib.hid (show (Cp.mk (x % 16) (x / 16 % 8) (x / 128 % 32) (x / 4096 % 65536) (x / 4294967296 % 4294967296) (x / 268435456 % 16)).may from h)
  clear h
  go_enter Try.func10, Try.ntmps10
  go_wp2_with (go_at_call 18; refine (part_any _ _ _ (by omega) (by omega) (by omega) (by omega) (by omega) _).mono ?_; rintro e w' ⟨rfl, rfl⟩)
  (with_reducible refine (may_yes ⟨_, _, _, _, _, _⟩ _ H.out).mono ?_)
  rintro e w' ⟨rfl, ho1⟩
  have hb1 : Blk w' w.heap.size 23 #[.int .i64 0, .int .i64 0, .int .i64 0, .int .i64 0, .int .i64 0, .int .i64 0] := ho1.blk ((Blk.new w _ _).alloc _) (by simp)
  have hb2 := ho1.blk (Blk.new _ _ _) (by simp)
  rw [show (w.alloc _).heap.size = w.heap.size + 1 by simp] at hb2
  obtain ⟨k0, k1, k2, k3, k4, k5⟩ := hb1.cap
  obtain ⟨l0, l1, l2, l3, l4, l5⟩ := hb2.cap
  have f0 : w'.frozen? ⟨w.heap.size, 0, none⟩ = false := hb1.frozen 0
  have f1 : w'.frozen? ⟨w.heap.size, 1, none⟩ = false := hb1.frozen 1
  have f2 : w'.frozen? ⟨w.heap.size, 2, none⟩ = false := hb1.frozen 2
  have f3 : w'.frozen? ⟨w.heap.size, 3, none⟩ = false := hb1.frozen 3
  have f4 : w'.frozen? ⟨w.heap.size, 4, none⟩ = false := hb1.frozen 4
  have f5 : w'.frozen? ⟨w.heap.size, 5, none⟩ = false := hb1.frozen 5
  go_wp2
  refine bodyPost_ret (v := .tuple #[.agg #[.int .i64 (x % 16), .int .i64 (x / 16 % 8), .int .i64 (x / 128 % 32), .int .i64 (x / 4096 % 65536), .int .i64 (x / 4294967296 % 4294967296), .int .i64 (x / 268435456 % 16)], .nilIface]) (by simp [results, Try.results10, go_sem, k0, k1, k2, k3, k4, k5]) rfl ⟨rfl, ?_⟩
  have ho := ((Only.refl [] w).alloc _).alloc _ |>.trans ho1
  exact (((((ho.setCell (.inr (Nat.le_refl _)) _).setCell (.inr (Nat.le_refl _)) _).setCell (.inr (Nat.le_refl _)) _).setCell (.inr (Nat.le_refl _)) _).setCell (.inr (Nat.le_refl _)) _).setCell (.inr (Nat.le_refl _)) _
theorem get_no (x : Int) (h0 : 0 ≤ x) (hx : x < 18446744073709551616) (h : ¬ (Cp.of x).may) : Calls Try.prog 10 #[.int .u64 x] w fun e w' => e = .returned (.tuple #[.agg #[.int .i64 0, .int .i64 0, .int .i64 0, .int .i64 0, .int .i64 0, .int .i64 0], .iface 31 (.int .i64 1)]) ∧ Only [] w w' := by
  have H := Lib.hid (show ¬ (Cp.mk (x % 16) (x / 16 % 8) (x / 128 % 32) (x / 4096 % 65536) (x / 4294967296 % 4294967296) (x / 268435456 % 16)).may from h)
  clear h
  go_enter Try.func10, Try.ntmps10
  go_wp2_with (go_at_call 18; refine (part_any _ _ _ (by omega) (by omega) (by omega) (by omega) (by omega) _).mono ?_; rintro e w' ⟨rfl, rfl⟩)
  (with_reducible refine (may_no ⟨_, _, _, _, _, _⟩ _ H.out).mono ?_)
  rintro e w' ⟨rfl, ho1⟩
  have hb1 : Blk w' w.heap.size 23 #[.int .i64 0, .int .i64 0, .int .i64 0, .int .i64 0, .int .i64 0, .int .i64 0] := ho1.blk ((Blk.new w _ _).alloc _) (by simp)
  obtain ⟨k0, k1, k2, k3, k4, k5⟩ := hb1.cap
  have f0 : w'.frozen? ⟨w.heap.size, 0, none⟩ = false := hb1.frozen 0
  have f1 : w'.frozen? ⟨w.heap.size, 1, none⟩ = false := hb1.frozen 1
  have f2 : w'.frozen? ⟨w.heap.size, 2, none⟩ = false := hb1.frozen 2
  have f3 : w'.frozen? ⟨w.heap.size, 3, none⟩ = false := hb1.frozen 3
  have f4 : w'.frozen? ⟨w.heap.size, 4, none⟩ = false := hb1.frozen 4
  have f5 : w'.frozen? ⟨w.heap.size, 5, none⟩ = false := hb1.frozen 5
  go_wp2
  refine bodyPost_ret (v := .tuple #[.agg #[.int .i64 0, .int .i64 0, .int .i64 0, .int .i64 0, .int .i64 0, .int .i64 0], .iface 31 (.int .i64 1)]) (by simp [results, Try.results10, go_sem, k0, k1, k2, k3, k4, k5]) rfl ⟨rfl, ?_⟩
  have ho := ((Only.refl [] w).alloc _).alloc _ |>.trans ho1
  exact (((((ho.setCell (.inr (Nat.le_refl _)) _).setCell (.inr (Nat.le_refl _)) _).setCell (.inr (Nat.le_refl _)) _).setCell (.inr (Nat.le_refl _)) _).setCell (.inr (Nat.le_refl _)) _).setCell (.inr (Nat.le_refl _)) _
end
end Go.Proofs.Ytfllddlkgcmopaa
