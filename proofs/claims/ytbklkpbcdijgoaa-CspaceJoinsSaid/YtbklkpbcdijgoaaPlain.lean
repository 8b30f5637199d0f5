/- What a plain view's calls answer (layer 5's, for layer 6's laws): has, Read, Write. -/
import Derived.Test.YtbklkpbcdijgoaaRows
import Derived.Test.YtbklkpbcdijgoaaViewM
import Derived.WalkKit
import Derived.WalkSpells
import Derived.WalkLawsBesides
import Derived.Handy
import Derived.BigQuiet
import Derived.Deep.QuietTactic
import Derived.RegionTactic
import Derived.Lib.Hide
import Derived.Deep.Light
namespace Go.Proofs.Ytbklkpbcdijgoaa
open Go.RowKit
section
variable {A : Option Addr} {L : List Int} (cp : Nat) (w : World)
theorem phas_any (n : Nat) (A : Option Addr) (i : Int) : Calls Try.prog 46 #[.slice A n cp, .int .i64 i] w fun e w' => e = .returned (.bool (hasB n i)) ∧ w' = w := by
  go_enter Try.func46, Try.ntmps46
  go_wp2
  all_goals go_ret
  all_goals exact ⟨by simp [hasB, *] <;> omega, rfl⟩
theorem phas_is {n : Nat} {i : Int} {q : Bool} (A : Option Addr) (h : hasB n i = q) : Calls Try.prog 46 #[.slice A n cp, .int .i64 i] w fun e w' => e = .returned (.bool q) ∧ w' = w := h ▸ phas_any cp w n A i
theorem pread_any (h : Wds w A L) (i : Int) : Calls Try.prog 45 #[.slice A L.length cp, .int .i64 i] w fun e w' => e = .returned (.int .u64 (atL L i)) ∧ w' = w := by
  rcases atL_cases L i with ⟨k, x, rfl, hx, hv, hb⟩ | ⟨ho, hv, hb⟩
  · have hk := (List.getElem?_eq_some_iff.1 hx).1
    obtain ⟨b, off, rfl, hlt, hc⟩ := h k x hx
    have B := Lib.hid hb
    clear hb h hx
    rw [hv]
    clear hv
    go_enter Try.func45, Try.ntmps45
    go_wp2_with (go_at_call 46; refine (phas_is _ _ _ B.out).mono ?_; rintro e w' ⟨rfl, rfl⟩)
    go_ret
    exact ⟨rfl, rfl⟩
  · have B := Lib.hid hb
    clear hb h ho
    rw [hv]
    clear hv
    go_enter Try.func45, Try.ntmps45
    go_wp2_with (go_at_call 46; refine (phas_is _ _ _ B.out).mono ?_; rintro e w' ⟨rfl, rfl⟩)
    go_ret
    exact ⟨rfl, rfl⟩
theorem pread_is (h : Wds w A L) {i x : Int} (hx : atL L i = x) : Calls Try.prog 45 #[.slice A L.length cp, .int .i64 i] w fun e w' => e = .returned (.int .u64 x) ∧ w' = w := hx ▸ pread_any cp w h i
end
end Go.Proofs.Ytbklkpbcdijgoaa
