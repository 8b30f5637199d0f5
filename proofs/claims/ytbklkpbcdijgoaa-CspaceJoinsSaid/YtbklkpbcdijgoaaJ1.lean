/- What below of package lay answers (layer 9): whether a number is 0 to one less than another one. -/
import Derived.Test.YtbklkpbcdijgoaaVok
import Derived.Test.YtbklkpbcdijgoaaLayM
namespace Go.Proofs.Ytbklkpbcdijgoaa
open Go.RowKit
theorem below_any (n m : Int) (w : World) : Calls Try.prog 22 #[.int .i64 n, .int .i64 m] w fun e w' => e = .returned (.bool (belowB n m)) ∧ w' = w := by
  go_enter Try.func22, Try.ntmps22
  go_wp2
  all_goals go_ret
  all_goals exact ⟨by simp [belowB, *] <;> omega, rfl⟩
theorem below_is {n m : Int} {q : Bool} (h : belowB n m = q) (w : World) : Calls Try.prog 22 #[.int .i64 n, .int .i64 m] w fun e w' => e = .returned (.bool q) ∧ w' = w := h ▸ below_any n m w
end Go.Proofs.Ytbklkpbcdijgoaa
/- What Slot of package lay answers (layer 9): a slot's word. -/
namespace Go.Proofs.Ytbklkpbcdijgoaa
open Go.RowKit
theorem slot_any (i f : Int) (w : World) : Calls Try.prog 15 #[.int .i64 i, .int .i64 f] w fun e w' => e = .returned (.tuple #[.int .i64 (slotI i f), .bool (slotB i f)]) ∧ w' = w := by
  by_cases h1 : belowB i 96 = true
  · have hi := belowB_yes.1 h1
    by_cases h2 : belowB f 5 = true
    · have hf := belowB_yes.1 h2
      have hs : slotB i f = true := slotB_yes.2 ⟨hi.1, hi.2, hf.1, hf.2⟩
      rw [slotI_yes hs, hs]
      have H1 := Lib.hid h1
      have H2 := Lib.hid h2
      clear h1 h2 hs
      go_enter Try.func15, Try.ntmps15
      go_wp2_with (go_at_call 22; (first | (with_reducible refine (below_is H1.out _).mono ?_) | (with_reducible refine (below_is H2.out _).mono ?_)); rintro e w' ⟨rfl, rfl⟩)
      go_ret2
      exact ⟨by go_num, rfl⟩
    · replace h2 : belowB f 5 = false := by simpa using h2
      have hs : slotB i f = false := slotB_no.2 (.inr (belowB_no.1 h2))
      rw [slotI_no hs, hs]
      have H1 := Lib.hid h1
      have H2 := Lib.hid h2
      clear h1 h2 hs
      go_enter Try.func15, Try.ntmps15
      go_wp2_with (go_at_call 22; (first | (with_reducible refine (below_is H1.out _).mono ?_) | (with_reducible refine (below_is H2.out _).mono ?_)); rintro e w' ⟨rfl, rfl⟩)
      go_ret2
      exact ⟨rfl, rfl⟩
  · replace h1 : belowB i 96 = false := by simpa using h1
    have hs : slotB i f = false := slotB_no.2 (.inl (belowB_no.1 h1))
    rw [slotI_no hs, hs]
    have H1 := Lib.hid h1
    clear h1 hs
    go_enter Try.func15, Try.ntmps15
    go_wp2_with (go_at_call 22; (with_reducible refine (below_is H1.out _).mono ?_); rintro e w' ⟨rfl, rfl⟩)
    go_ret2
    exact ⟨rfl, rfl⟩
theorem slot_is {i f x : Int} {q : Bool} (hx : slotI i f = x) (h : slotB i f = q) (w : World) : Calls Try.prog 15 #[.int .i64 i, .int .i64 f] w fun e w' => e = .returned (.tuple #[.int .i64 x, .bool q]) ∧ w' = w := hx ▸ h ▸ slot_any i f w
end Go.Proofs.Ytbklkpbcdijgoaa
