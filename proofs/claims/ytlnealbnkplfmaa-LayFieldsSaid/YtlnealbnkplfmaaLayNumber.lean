/- What number of layer 9's statements answers: a word as a field's number. -/
import Derived.Test.YtlnealbnkplfmaaVok
import Derived.Test.YtlnealbnkplfmaaLayM
namespace Go.Proofs.Ytlnealbnkplfmaa
open Go.RowKit
theorem number_any (x : Int) (hx : U64 x) (w : World) : Calls Try.prog 15 #[.int .u64 x] w fun e w' => e = .returned (.int .i64 (numI x)) ∧ w' = w := by
  obtain ⟨h0, h1⟩ := hx
  by_cases h : 4611686018427387904 < x
  · have hn : numI x = 0 := by simp [numI, h]
    rw [hn]
    go_enter Try.func15, Try.ntmps15
    go_wp2
    go_ret
    exact ⟨rfl, rfl⟩
  · have hn : numI x = x := by simp [numI, h]
    rw [hn]
    have h' : x ≤ 4611686018427387904 := by omega
    clear h
    go_enter Try.func15, Try.ntmps15
    go_wp2
    go_ret
    exact ⟨rfl, rfl⟩
theorem number_is {x n : Int} (hx : U64 x) (h : numI x = n) (w : World) : Calls Try.prog 15 #[.int .u64 x] w fun e w' => e = .returned (.int .i64 n) ∧ w' = w := h ▸ number_any x hx w
end Go.Proofs.Ytlnealbnkplfmaa
