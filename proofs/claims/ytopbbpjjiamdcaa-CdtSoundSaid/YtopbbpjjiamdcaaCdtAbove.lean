/- above and Pick of layer 10's statements: a Bool, whichever; one of so many. -/
import Derived.Test.YtopbbpjjiamdcaaRefUnlink
namespace Go.Proofs.Ytopbbpjjiamdcaa
open Go.RowKit
section
variable {w : World} {p gs go : Nat} {S : RSt}
set_option maxRecDepth 100000 in
set_option maxHeartbeats 1000000 in
theorem above_any (h : RefM w p gs go S) (hP : S.Pars) (a b : Int) (hb : b < 96) :
    Calls Try.prog 8 #[.pointer (some ⟨p, 0, none⟩), .int .i64 a, .int .i64 b] w fun e w' => ∃ q : Bool, e = .returned (.bool q) ∧ w' = w := by
  go_enter Try.func8, Try.ntmps8
  go_wp2_with fail
  go_loopw [2, 7] (fun b n wr => ∃ (m : Nat) (c : Int), m ≤ 97 ∧ c < 96 ∧ b = .int .i64 c ∧ n = .int .i64 m ∧ wr = w) (fun _ n _ => 97 - (intOf n).toNat)
  case atStart => exact ⟨0, b, by omega, hb, rfl, rfl, rfl⟩
  case round =>
    obtain ⟨m, c, hm, hc, rfl, rfl, hw⟩ := hrel
    replace hw := hw.symm
    subst hw
    by_cases h1 : m < 97
    · by_cases h2 : c < 0
      · go_wp2_with fail
        go_ret
        exact ⟨_, rfl, rfl⟩
      · obtain ⟨k, rfl⟩ : ∃ k : Nat, c = k := ⟨c.toNat, by omega⟩
        have hk : k < 96 := by omega
        obtain ⟨cs, c0⟩ := h.cSlots
        have c1 := h.cPar hk
        have hpar := hP k
        obtain ⟨q, hq⟩ : ∃ q, (a == (k : Int)) = q := ⟨_, rfl⟩
        clear h2
        cases q with
        | true =>
          go_wp2_with fail
          go_ret
          exact ⟨_, rfl, rfl⟩
        | false =>
          go_wp2_with fail
          go_roundw
          case rel => exact ⟨m + 1, _, by omega, hpar, rfl, by go_num, by trivial⟩
          case measure => simp [intOf]; omega
    · obtain rfl : m = 97 := by omega
      clear h1
      go_wp2_with fail
      go_ret
      exact ⟨_, rfl, rfl⟩
end
theorem pick4_any (c : Int) (h0 : -9223372036854775808 ≤ c) (h1 : c ≤ 9223372036854775807) (w : World) : Calls Try.prog 7 #[.int .i64 c, .int .i64 4] w fun e w' => ∃ r : Int, e = .returned (.int .i64 r) ∧ 0 ≤ r ∧ r ≤ 3 ∧ w' = w := by
  by_cases h : c < 0
  · go_enter Try.func7, Try.ntmps7
    go_wp2
    go_ret
    have e : -((c + 1).tmod 4) = (-(c + 1)) % 4 := by rw [← Int.neg_tmod, Int.tmod_eq_emod_of_nonneg (by omega)]
    exact ⟨_, rfl, by rw [e]; omega, by rw [e]; omega, rfl⟩
  · go_enter Try.func7, Try.ntmps7
    go_wp2
    go_ret
    exact ⟨_, rfl, by omega, by omega, rfl⟩
end Go.Proofs.Ytopbbpjjiamdcaa
