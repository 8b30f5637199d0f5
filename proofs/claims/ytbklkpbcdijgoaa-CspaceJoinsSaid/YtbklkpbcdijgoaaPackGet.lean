/- What Get of package pack answers (layer 2): for every word below 2 to the power of 64. -/
import Derived.Test.YtbklkpbcdijgoaaPackMay
namespace Go.Proofs.Ytbklkpbcdijgoaa
open Go.RowKit
theorem part_any (x a b : Int) (h0 : 0 ≤ x) (ha : 0 ≤ a) (hab : a ≤ b) (hb : b ≤ 64) (h63 : b - a ≤ 62) (w : World) :
    Calls Try.prog 23 #[.int .u64 x, .int .i64 a, .int .i64 b] w fun e w' => e = .returned (.int .i64 (x / 2 ^ a.toNat % 2 ^ (b - a).toNat)) ∧ w' = w := by
  go_enter Try.func23, Try.ntmps23
  go_wp2
  go_ret
  exact ⟨by rw [← part_int x a b h0 ha hab hb h63]; rfl, rfl⟩
section
variable (w : World)
theorem get_yes (x : Int) (h0 : 0 ≤ x) (_hx : x < 18446744073709551616) (h : (Cp.of x).may) : Calls Try.prog 16 #[.int .u64 x] w fun e w' => e = .returned (.tuple #[(Cp.of x).v, .nilIface]) ∧ Only [] w w' := by
  have H := Lib.hid (show (Cp.mk (x % 16) (x / 16 % 8) (x / 128 % 32) (x / 4096 % 65536) (x / 4294967296 % 4294967296) (x / 268435456 % 16)).may from h)
  clear h
  go_enter Try.func16, Try.ntmps16
  go_wp2_with (go_at_call 23; refine (part_any _ _ _ (by omega) (by omega) (by omega) (by omega) (by omega) _).mono ?_; rintro e w' ⟨rfl, rfl⟩)
  (with_reducible refine (may_yes ⟨_, _, _, _, _, _⟩ _ H.out).mono ?_)
  rintro e w' ⟨rfl, ho1⟩
  have hb1 : Blk w' w.heap.size 24 #[.int .i64 0, .int .i64 0, .int .i64 0, .int .i64 0, .int .i64 0, .int .i64 0] := ho1.blk ((Blk.new w _ _).alloc _) (by simp)
  have hb2 := ho1.blk (Blk.new _ _ _) (by simp)
  rw [show (w.alloc _).heap.size = w.heap.size + 1 by simp] at hb2
  obtain ⟨k0, k1, k2, k3, k4, k5⟩ := hb1.cap
  obtain ⟨l0, l1, l2, l3, l4, l5⟩ := hb2.cap
  have f0 : w'.frozen? ⟨w.heap.size, 0, none⟩ = false := hb1.frozen 0
  have f1 : w'.frozen? ⟨w.heap.size, 1, none⟩ = false := hb1.frozen 1
  have f2 : w'.frozen? ⟨w.heap.size, 2, none⟩ = false := hb1.frozen 2
  have f3 : w'.frozen? ⟨w.heap.size, 3, none⟩ = false := hb1.frozen 3
  have f4 : w'.frozen? ⟨w.heap.size, 4, none⟩ = false := hb1.frozen 4
  have f5 : w'.frozen? ⟨w.heap.size, 5, none⟩ = false := hb1.frozen 5
  go_wp2
  refine bodyPost_ret (v := .tuple #[.agg #[.int .i64 (x % 16), .int .i64 (x / 16 % 8), .int .i64 (x / 128 % 32), .int .i64 (x / 4096 % 65536), .int .i64 (x / 4294967296 % 4294967296), .int .i64 (x / 268435456 % 16)], .nilIface]) (by simp [results, Try.results16, go_sem, k0, k1, k2, k3, k4, k5]) rfl ⟨rfl, ?_⟩
  have ho := ((Only.refl [] w).alloc _).alloc _ |>.trans ho1
  exact (((((ho.setCell (.inr (Nat.le_refl _)) _).setCell (.inr (Nat.le_refl _)) _).setCell (.inr (Nat.le_refl _)) _).setCell (.inr (Nat.le_refl _)) _).setCell (.inr (Nat.le_refl _)) _).setCell (.inr (Nat.le_refl _)) _
theorem get_no (x : Int) (h0 : 0 ≤ x) (_hx : x < 18446744073709551616) (h : ¬ (Cp.of x).may) : Calls Try.prog 16 #[.int .u64 x] w fun e w' => e = .returned (.tuple #[.agg #[.int .i64 0, .int .i64 0, .int .i64 0, .int .i64 0, .int .i64 0, .int .i64 0], .iface 45 (.int .i64 1)]) ∧ Only [] w w' := by
  have H := Lib.hid (show ¬ (Cp.mk (x % 16) (x / 16 % 8) (x / 128 % 32) (x / 4096 % 65536) (x / 4294967296 % 4294967296) (x / 268435456 % 16)).may from h)
  clear h
  go_enter Try.func16, Try.ntmps16
  go_wp2_with (go_at_call 23; refine (part_any _ _ _ (by omega) (by omega) (by omega) (by omega) (by omega) _).mono ?_; rintro e w' ⟨rfl, rfl⟩)
  (with_reducible refine (may_no ⟨_, _, _, _, _, _⟩ _ H.out).mono ?_)
  rintro e w' ⟨rfl, ho1⟩
  have hb1 : Blk w' w.heap.size 24 #[.int .i64 0, .int .i64 0, .int .i64 0, .int .i64 0, .int .i64 0, .int .i64 0] := ho1.blk ((Blk.new w _ _).alloc _) (by simp)
  obtain ⟨k0, k1, k2, k3, k4, k5⟩ := hb1.cap
  have f0 : w'.frozen? ⟨w.heap.size, 0, none⟩ = false := hb1.frozen 0
  have f1 : w'.frozen? ⟨w.heap.size, 1, none⟩ = false := hb1.frozen 1
  have f2 : w'.frozen? ⟨w.heap.size, 2, none⟩ = false := hb1.frozen 2
  have f3 : w'.frozen? ⟨w.heap.size, 3, none⟩ = false := hb1.frozen 3
  have f4 : w'.frozen? ⟨w.heap.size, 4, none⟩ = false := hb1.frozen 4
  have f5 : w'.frozen? ⟨w.heap.size, 5, none⟩ = false := hb1.frozen 5
  go_wp2
  refine bodyPost_ret (v := .tuple #[.agg #[.int .i64 0, .int .i64 0, .int .i64 0, .int .i64 0, .int .i64 0, .int .i64 0], .iface 45 (.int .i64 1)]) (by simp [results, Try.results16, go_sem, k0, k1, k2, k3, k4, k5]) rfl ⟨rfl, ?_⟩
  have ho := ((Only.refl [] w).alloc _).alloc _ |>.trans ho1
  exact (((((ho.setCell (.inr (Nat.le_refl _)) _).setCell (.inr (Nat.le_refl _)) _).setCell (.inr (Nat.le_refl _)) _).setCell (.inr (Nat.le_refl _)) _).setCell (.inr (Nat.le_refl _)) _).setCell (.inr (Nat.le_refl _)) _
end
end Go.Proofs.Ytbklkpbcdijgoaa
