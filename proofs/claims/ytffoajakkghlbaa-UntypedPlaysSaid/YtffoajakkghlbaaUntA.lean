/- What is, upTo, slotsOf, Cost of package untyped answer (layer 13). -/
import Derived.Test.YtffoajakkghlbaaJ6
import Derived.Test.YtffoajakkghlbaaJ5
import Derived.Test.YtffoajakkghlbaaCdtLink
namespace Go.Proofs.Ytffoajakkghlbaa
open Go.RowKit
theorem uis_any (i : Int) (w : World) : Calls Try.prog 37 #[.int .i64 i] w fun e w' => e = .returned (.bool (slotB i 0)) ∧ w = w' := by
  go_enter Try.func37, Try.ntmps37
  go_wp2_with (go_at_call 46; (with_reducible refine (slot_any _ _ _).mono ?_); rintro e w' ⟨rfl, rfl⟩)
  go_ret
  exact ⟨rfl, rfl⟩
theorem uis_is {i : Int} {q : Bool} (h : slotB i 0 = q) (w : World) : Calls Try.prog 37 #[.int .i64 i] w fun e w' => e = .returned (.bool q) ∧ w = w' := h ▸ uis_any i w
theorem uupto_yes {n m : Int} (h0 : 0 ≤ n) (h1 : n ≤ m) (w : World) : Calls Try.prog 18 #[.int .i64 n, .int .i64 m] w fun e w' => e = .returned (.bool true) ∧ w = w' := by
  go_enter Try.func18, Try.ntmps18
  go_wp2
  go_ret
  exact ⟨by simp [*], rfl⟩
theorem uupto_no {n m : Int} (h : n < 0 ∨ m < n) (w : World) : Calls Try.prog 18 #[.int .i64 n, .int .i64 m] w fun e w' => e = .returned (.bool false) ∧ w = w' := by
  by_cases h0 : 0 ≤ n
  · have h1 : ¬ n ≤ m := by omega
    clear h
    go_enter Try.func18, Try.ntmps18
    go_wp2
    go_ret
    exact ⟨by simp [*], rfl⟩
  · clear h
    go_enter Try.func18, Try.ntmps18
    go_wp2
    go_ret
    exact ⟨by simp [*], rfl⟩
set_option maxHeartbeats 1000000 in
theorem ucost_eq (k b : Int) (w : World) : Calls Try.prog 7 #[.int .i64 k, .int .i64 b] w fun e w' => e = .returned (.tuple #[.int .i64 (if costZ k b < 0 then 0 else costZ k b), .bool (!decide (costZ k b < 0))]) ∧ w = w' := by
  by_cases h1 : k = 1
  · subst h1
    by_cases hb : 0 ≤ b ∧ b ≤ 8
    · have hp := pow_le b hb.1 hb.2
      have e : costZ 1 b = 2 ^ b.toNat + 1 := by unfold costZ; rw [if_neg (by omega), if_pos rfl]
      rw [e, if_neg (by omega), show (!decide ((2 : Int) ^ b.toNat + 1 < 0)) = true by simp; omega]
      have hmin : min b.toNat 64 = b.toNat := by omega
      have hb0 : 0 ≤ b := hb.1
      have hw1 : IntKind.i64.wrap (2 ^ b.toNat) = 2 ^ b.toNat := IntWalk.i64_in _ (by omega)
      have hw2 : IntKind.i64.wrap (2 ^ b.toNat + 1) = 2 ^ b.toNat + 1 := IntWalk.i64_in _ (by omega)
      have cU := Lib.hid fun W => uupto_yes (n := b) (m := 8) hb.1 hb.2 W
      clear hb e
      go_enter Try.func7, Try.ntmps7
      go_wp2_with ((with_reducible refine (cU.out _).mono ?_); rintro e w' ⟨rfl, rfl⟩)
      go_ret2
      exact ⟨rfl, rfl⟩
    · have e : costZ 1 b = -1 := by unfold costZ; rw [if_pos (by omega)]
      rw [e]
      have cU := Lib.hid fun W => uupto_no (n := b) (m := 8) (by omega) W
      clear hb e
      go_enter Try.func7, Try.ntmps7
      go_wp2_with ((with_reducible refine (cU.out _).mono ?_); rintro e w' ⟨rfl, rfl⟩)
      go_ret2
      exact ⟨rfl, rfl⟩
  by_cases h2 : k = 2
  · subst h2
    by_cases hb : 0 ≤ b ∧ b ≤ 5
    · have hp := pow_le b hb.1 (by omega)
      have e : costZ 2 b = 2 ^ b.toNat := by unfold costZ; rw [if_neg (by omega), if_neg (by decide), if_pos ⟨rfl, hb.2⟩]
      rw [e, if_neg (by omega), show (!decide ((2 : Int) ^ b.toNat < 0)) = true by simp; omega]
      have hmin : min b.toNat 64 = b.toNat := by omega
      have hb0 : 0 ≤ b := hb.1
      have hw1 : IntKind.i64.wrap (2 ^ b.toNat) = 2 ^ b.toNat := IntWalk.i64_in _ (by omega)
      have cU := Lib.hid fun W => uupto_yes (n := b) (m := 5) hb.1 hb.2 W
      clear hb e
      go_enter Try.func7, Try.ntmps7
      go_wp2_with ((with_reducible refine (cU.out _).mono ?_); rintro e w' ⟨rfl, rfl⟩)
      go_ret2
      exact ⟨rfl, rfl⟩
    · have e : costZ 2 b = -1 := by
        unfold costZ
        by_cases h8 : b < 0 ∨ 8 < b
        · rw [if_pos h8]
        · rw [if_neg h8, if_neg (by decide), if_neg (by omega), if_neg (by omega)]
      rw [e]
      have cU := Lib.hid fun W => uupto_no (n := b) (m := 5) (by omega) W
      clear hb e
      go_enter Try.func7, Try.ntmps7
      go_wp2_with ((with_reducible refine (cU.out _).mono ?_); rintro e w' ⟨rfl, rfl⟩)
      go_ret2
      exact ⟨rfl, rfl⟩
  by_cases hk : 3 ≤ k ∧ k ≤ 7
  · have hk5 : k = 3 ∨ k = 4 ∨ k = 5 ∨ k = 6 ∨ k = 7 := by omega
    by_cases hb : b = 0
    · subst hb
      have e : costZ k 0 = 4 := by unfold costZ; rw [if_neg (by omega), if_neg h1, if_neg (fun e => h2 e.1), if_pos ⟨hk.1, hk.2, rfl⟩]
      rw [e]
      clear e hk h1 h2
      rcases hk5 with rfl | rfl | rfl | rfl | rfl <;>
      · go_enter Try.func7, Try.ntmps7
        go_wp2
        go_ret2
        exact ⟨rfl, rfl⟩
    · have e : costZ k b = -1 := by
        unfold costZ
        by_cases h8 : b < 0 ∨ 8 < b
        · rw [if_pos h8]
        · rw [if_neg h8, if_neg h1, if_neg (fun e => h2 e.1), if_neg (fun e => hb e.2.2)]
      rw [e]
      clear e hk h1 h2
      rcases hk5 with rfl | rfl | rfl | rfl | rfl <;>
      · go_enter Try.func7, Try.ntmps7
        go_wp2
        go_ret2
        exact ⟨rfl, rfl⟩
  · have e : costZ k b = -1 := by
      unfold costZ
      by_cases h8 : b < 0 ∨ 8 < b
      · rw [if_pos h8]
      · rw [if_neg h8, if_neg h1, if_neg (fun e => h2 e.1), if_neg (fun e => hk ⟨e.1, e.2.1⟩)]
    rw [e]
    have h3 : ¬ k = 3 := by omega
    have h4 : ¬ k = 4 := by omega
    have h5 : ¬ k = 5 := by omega
    have h6 : ¬ k = 6 := by omega
    have h7 : ¬ k = 7 := by omega
    clear e hk
    go_enter Try.func7, Try.ntmps7
    go_wp2
    go_ret2
    exact ⟨rfl, rfl⟩
theorem ucost_any (k b : Int) (w : World) : Calls Try.prog 7 #[.int .i64 k, .int .i64 b] w fun e w' => e = .returned (.tuple #[.int .i64 (if costZ k b < 0 then 0 else costZ k b), .bool (!decide (costZ k b < 0))]) ∧ Only [] w w' :=
  (ucost_eq k b w).mono fun _ _ ⟨he, hw⟩ => ⟨he, hw ▸ Only.refl _ _⟩
theorem uslots_is {k b c : Int} (hc : costZ k b = c) (h0 : ¬ c < 0) {n : Int} (hn : slotsZ k b = n) (w : World) : Calls Try.prog 26 #[.int .i64 k, .int .i64 b] w fun e w' => e = .returned (.int .i64 n) ∧ w = w' := by
  by_cases h2 : k = 2
  · subst h2
    have h5 := costZ_two (b := b) (by omega)
    obtain ⟨-, hb0, -⟩ := costZ_kind (k := 2) (b := b) (by omega)
    have hp := pow_le b hb0 (by omega)
    have e : n = 2 ^ b.toNat := by rw [← hn]; unfold slotsZ costZ; rw [if_pos rfl, if_neg (by omega), if_neg (by decide), if_pos ⟨rfl, h5⟩]
    have hmin : min b.toNat 64 = b.toNat := by omega
    have hw1 : IntKind.i64.wrap (2 ^ b.toNat) = 2 ^ b.toNat := IntWalk.i64_in _ (by omega)
    subst e
    clear hn hc h0
    go_enter Try.func26, Try.ntmps26
    go_wp2
    go_ret
    exact ⟨rfl, rfl⟩
  · obtain rfl : n = 0 := by rw [← hn]; unfold slotsZ; rw [if_neg h2]
    clear hn hc h0
    go_enter Try.func26, Try.ntmps26
    go_wp2
    go_ret
    exact ⟨rfl, rfl⟩
end Go.Proofs.Ytffoajakkghlbaa
