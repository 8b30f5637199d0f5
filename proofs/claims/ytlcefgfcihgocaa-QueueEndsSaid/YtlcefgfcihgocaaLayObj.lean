/- What Obj of package lay answers (layer 9): an object's word. -/
import Derived.Test.YtlcefgfcihgocaaLayA
namespace Go.Proofs.Ytlcefgfcihgocaa
open Go.RowKit
theorem obj_any (i f : Int) (w : World) : Calls Try.prog 19 #[.int .i64 i, .int .i64 f] w fun e w' => e = .returned (.tuple #[.int .i64 (objI i f), .bool (objB i f)]) ∧ w' = w := by
  by_cases h1 : belowB i 32 = true
  · have hi := belowB_yes.1 h1
    by_cases h2 : belowB f 8 = true
    · have hf := belowB_yes.1 h2
      have hs : objB i f = true := objB_yes.2 ⟨hi.1, hi.2, hf.1, hf.2⟩
      rw [objI_yes hs, hs]
      have H1 := Lib.hid h1
      have H2 := Lib.hid h2
      clear h1 h2 hs
      go_enter Try.func19, Try.ntmps19
      go_wp2_with (go_at_call 21; (first | (with_reducible refine (below_is H1.out _).mono ?_) | (with_reducible refine (below_is H2.out _).mono ?_)); rintro e w' ⟨rfl, rfl⟩)
      go_ret2
      exact ⟨by go_num, rfl⟩
    · replace h2 : belowB f 8 = false := by simpa using h2
      have hs : objB i f = false := objB_no.2 (.inr (belowB_no.1 h2))
      rw [objI_no hs, hs]
      have H1 := Lib.hid h1
      have H2 := Lib.hid h2
      clear h1 h2 hs
      go_enter Try.func19, Try.ntmps19
      go_wp2_with (go_at_call 21; (first | (with_reducible refine (below_is H1.out _).mono ?_) | (with_reducible refine (below_is H2.out _).mono ?_)); rintro e w' ⟨rfl, rfl⟩)
      go_ret2
      exact ⟨rfl, rfl⟩
  · replace h1 : belowB i 32 = false := by simpa using h1
    have hs : objB i f = false := objB_no.2 (.inl (belowB_no.1 h1))
    rw [objI_no hs, hs]
    have H1 := Lib.hid h1
    clear h1 hs
    go_enter Try.func19, Try.ntmps19
    go_wp2_with (go_at_call 21; (with_reducible refine (below_is H1.out _).mono ?_); rintro e w' ⟨rfl, rfl⟩)
    go_ret2
    exact ⟨rfl, rfl⟩
theorem obj_is {i f x : Int} {q : Bool} (hx : objI i f = x) (h : objB i f = q) (w : World) : Calls Try.prog 19 #[.int .i64 i, .int .i64 f] w fun e w' => e = .returned (.tuple #[.int .i64 x, .bool q]) ∧ w' = w := hx ▸ h ▸ obj_any i f w
end Go.Proofs.Ytlcefgfcihgocaa
