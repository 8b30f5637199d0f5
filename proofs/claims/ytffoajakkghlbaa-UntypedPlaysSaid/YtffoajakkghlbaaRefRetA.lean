/- is, Cost of the document's state (layers 13 to 21). -/
import Derived.Test.YtffoajakkghlbaaJ6
import Derived.Test.YtffoajakkghlbaaRefMid
import Derived.Test.YtffoajakkghlbaaRefSlot
namespace Go.Proofs.Ytffoajakkghlbaa
open Go.RowKit
section
variable {w : World} {p gs go : Nat} {S : RSt}
/-- an object's field's cell -/
theorem RefAt.cObj (h : RefM w p gs go S) {i : Nat} (hi : i < 32) : ∃ A cp, (∀ j v, (objRow (S.ob i) (.slice A (S.ob i).queue.length cp))[j]? = some v → w.cell? ⟨go, i * 32 + j, none⟩ = some v) ∧ RowN w A ItT irow' 1 (S.ob i).queue := h.obj hi
theorem ris_any (h : RefM w p gs go S) (i k : Int) : Calls Try.prog 32 #[.pointer (some ⟨p, 0, none⟩), .int .i64 i, .int .i64 k] w fun e w' => e = .returned (.bool (isO S i k)) ∧ w = w' := by
  by_cases h0 : i < 0
  · have e : isO S i k = false := by simp [isO]; omega
    rw [e]
    clear e
    go_enter Try.func32, Try.ntmps32
    go_wp2
    go_ret
    exact ⟨rfl, rfl⟩
  by_cases h1 : 31 < i
  · have e : isO S i k = false := by simp [isO]; omega
    rw [e]
    clear e
    go_enter Try.func32, Try.ntmps32
    go_wp2
    go_ret
    exact ⟨rfl, rfl⟩
  obtain ⟨n, rfl⟩ : ∃ n : Nat, i = n := ⟨i.toNat, by omega⟩
  have hn : n < 32 := by omega
  have hn0 : (0 : Int) ≤ (n : Int) := by omega
  have hn9 : (n : Int) < 32 := by omega
  obtain ⟨co, c1⟩ := h.cObjs
  obtain ⟨A, cp, hrow, -⟩ := h.cObj hn
  have r0 := hrow 0 _ rfl
  rw [Nat.add_zero] at r0
  have e : isO S n k = ((S.ob n).kind == k) := by
    unfold isO
    by_cases hk : (S.ob n).kind = k
    · rw [hk]; simp; omega
    · simp [hk]
  rw [e]
  clear e hrow
  go_enter Try.func32, Try.ntmps32
  go_wp2
  go_ret
  exact ⟨rfl, rfl⟩
theorem ris_is (h : RefM w p gs go S) {i k : Int} {q : Bool} (e : isO S i k = q) : Calls Try.prog 32 #[.pointer (some ⟨p, 0, none⟩), .int .i64 i, .int .i64 k] w fun e w' => e = .returned (.bool q) ∧ w = w' := e ▸ ris_any h i k
end
set_option maxHeartbeats 1000000 in
theorem rcost_any (k b : Int) (w : World) : Calls Try.prog 8 #[.int .i64 k, .int .i64 b] w fun e w' => e = .returned (.int .i64 (costZ k b)) ∧ w = w' := by
  by_cases h0 : b < 0
  · have e : costZ k b = -1 := by unfold costZ; rw [if_pos (.inl h0)]
    rw [e]
    clear e
    go_enter Try.func8, Try.ntmps8
    go_wp2
    go_ret
    exact ⟨rfl, rfl⟩
  by_cases h8 : 8 < b
  · have e : costZ k b = -1 := by unfold costZ; rw [if_pos (.inr h8)]
    rw [e]
    clear e
    go_enter Try.func8, Try.ntmps8
    go_wp2
    go_ret
    exact ⟨rfl, rfl⟩
  obtain ⟨m, rfl⟩ : ∃ m : Nat, b = m := ⟨b.toNat, by omega⟩
  have hm : m ≤ 8 := by omega
  obtain ⟨c, hc⟩ : ∃ c, costZ k m = c := ⟨_, rfl⟩
  rw [hc]
  have HC := Lib.hid hc
  clear hc
  go_enter Try.func8, Try.ntmps8
  go_wp2_with fail
  go_loopw [5, 6] (fun pv iv wr => ∃ (n : Nat) (q : Int), n ≤ m ∧ q = 2 ^ n ∧ pv = .int .i64 q ∧ iv = .int .i64 n ∧ w = wr) (fun _ iv _ => m - (intOf iv).toNat)
  case atStart => exact ⟨0, 1, by omega, rfl, rfl, rfl, rfl⟩
  case round =>
    obtain ⟨n, q, hn, hq, rfl, rfl, hw⟩ := hrel
    subst hw
    have hq1 := pow_le (n : Int) (by omega) (by omega)
    rw [Int.toNat_natCast, ← hq] at hq1
    by_cases hlt : n < m
    · have hw2 : IntKind.i64.wrap (2 * q) = 2 * q := IntWalk.i64_in _ (by omega)
      have hlt' : (n : Int) < (m : Int) := by omega
      have HQ := Lib.hid hq
      clear hq
      go_wp2
      go_roundw
      case rel => exact ⟨n + 1, 2 * q, by omega, by rw [HQ.out, Int.pow_succ, Int.mul_comm], rfl, by go_num, by trivial⟩
      case measure => simp [intOf]; omega
    · obtain rfl : n = m := by omega
      have hlt' : ¬ (n : Int) < (n : Int) := by omega
      have hw1 : IntKind.i64.wrap (q + 1) = q + 1 := IntWalk.i64_in _ (by omega)
      have e0 := HC.out
      unfold costZ at e0
      rw [if_neg (by omega), Int.toNat_natCast, ← hq] at e0
      by_cases h1 : k = 1
      · rw [if_pos h1] at e0
        subst e0 h1
        clear hq HC
        go_wp2
        go_ret
        exact ⟨rfl, rfl⟩
      rw [if_neg h1] at e0
      by_cases h2 : k = 2
      · by_cases h5 : (n : Int) ≤ 5
        · rw [if_pos ⟨h2, h5⟩] at e0
          subst e0 h2
          clear hq HC
          go_wp2
          go_ret
          exact ⟨rfl, rfl⟩
        · rw [if_neg (fun e => h5 e.2), if_neg (by omega)] at e0
          subst e0 h2
          clear hq HC
          go_wp2
          go_ret
          exact ⟨rfl, rfl⟩
      rw [if_neg (fun e => h2 e.1)] at e0
      by_cases h3 : 3 ≤ k
      · by_cases h7 : k ≤ 7
        · by_cases hz : (n : Int) = 0
          · rw [if_pos ⟨h3, h7, hz⟩] at e0
            subst e0
            clear hq HC
            go_wp2
            go_ret
            exact ⟨rfl, rfl⟩
          · rw [if_neg (fun e => hz e.2.2)] at e0
            subst e0
            clear hq HC
            go_wp2
            go_ret
            exact ⟨rfl, rfl⟩
        · rw [if_neg (fun e => h7 e.2.1)] at e0
          subst e0
          clear hq HC
          go_wp2
          go_ret
          exact ⟨rfl, rfl⟩
      · rw [if_neg (fun e => h3 e.1)] at e0
        subst e0
        clear hq HC
        go_wp2
        go_ret
        exact ⟨rfl, rfl⟩
theorem rcost_is {k b c : Int} (h : costZ k b = c) (w : World) : Calls Try.prog 8 #[.int .i64 k, .int .i64 b] w fun e w' => e = .returned (.int .i64 c) ∧ w = w' := h ▸ rcost_any k b w
end Go.Proofs.Ytffoajakkghlbaa
