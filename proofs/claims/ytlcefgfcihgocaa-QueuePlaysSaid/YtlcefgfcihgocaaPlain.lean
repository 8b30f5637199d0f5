/- What a plain view's calls answer (layer 5's, for layer 6's laws): has, Read, Write. -/
import Derived.Test.YtlcefgfcihgocaaRows
import Derived.Test.YtlcefgfcihgocaaViewM
import Derived.WalkKit
import Derived.WalkSpells
import Derived.WalkLawsBesides
import Derived.Handy
import Derived.BigQuiet
import Derived.Deep.QuietTactic
import Derived.RegionTactic
import Derived.Lib.Hide
import Derived.Deep.Light
namespace Go.Proofs.Ytlcefgfcihgocaa
open Go.RowKit
section
variable {A : Option Addr} {L : List Int} (cp : Nat) (w : World)
theorem phas_any (n : Nat) (A : Option Addr) (i : Int) : Calls Try.prog 40 #[.slice A n cp, .int .i64 i] w fun e w' => e = .returned (.bool (hasB n i)) ∧ w' = w := by
  go_enter Try.func40, Try.ntmps40
  go_wp2
  all_goals go_ret
  all_goals exact ⟨by simp [hasB, *] <;> omega, rfl⟩
theorem phas_is {n : Nat} {i : Int} {q : Bool} (A : Option Addr) (h : hasB n i = q) : Calls Try.prog 40 #[.slice A n cp, .int .i64 i] w fun e w' => e = .returned (.bool q) ∧ w' = w := h ▸ phas_any cp w n A i
theorem pread_any (h : Wds w A L) (i : Int) : Calls Try.prog 38 #[.slice A L.length cp, .int .i64 i] w fun e w' => e = .returned (.int .u64 (atL L i)) ∧ w' = w := by
  rcases atL_cases L i with ⟨k, x, rfl, hx, hv, hb⟩ | ⟨ho, hv, hb⟩
  · have hk := (List.getElem?_eq_some_iff.1 hx).1
    obtain ⟨b, off, rfl, hlt, hc⟩ := h k x hx
    have B := Lib.hid hb
    clear hb h hx
    rw [hv]
    clear hv
    go_enter Try.func38, Try.ntmps38
    go_wp2_with (go_at_call 40; refine (phas_is _ _ _ B.out).mono ?_; rintro e w' ⟨rfl, rfl⟩)
    go_ret
    exact ⟨rfl, rfl⟩
  · have B := Lib.hid hb
    clear hb h ho
    rw [hv]
    clear hv
    go_enter Try.func38, Try.ntmps38
    go_wp2_with (go_at_call 40; refine (phas_is _ _ _ B.out).mono ?_; rintro e w' ⟨rfl, rfl⟩)
    go_ret
    exact ⟨rfl, rfl⟩
theorem pwrite_any {g : Nat} {t : TypeId} (h : RowU w g t L) (i v : Int) : Calls Try.prog 39 #[.slice (some ⟨g, 0, none⟩) L.length cp, .int .i64 i, .int .u64 v] w fun e w' => e = .returned (.tuple #[]) ∧ w' = wrW w g L.length i v := by
  rcases atL_cases L i with ⟨k, x, rfl, hx, -, hb⟩ | ⟨ho, -, hb⟩
  · have hk := (List.getElem?_eq_some_iff.1 hx).1
    obtain ⟨b, off, e0, hlt, hc⟩ := h.wds k x hx
    injection e0 with e0
    injection e0 with e1 e2 _
    subst e1 e2
    rw [Nat.zero_add] at hc
    have hf := h.frozen k
    have hW : wrW w g L.length k v = w.setCell ⟨g, k, none⟩ (.int .u64 v) := by simp [wrW, hb]
    have B := Lib.hid hb
    clear hb h hx
    rw [hW]
    clear hW
    go_enter Try.func39, Try.ntmps39
    go_wp2_with (go_at_call 40; refine (phas_is _ _ _ B.out).mono ?_; rintro e w' ⟨rfl, rfl⟩)
    go_end0
    exact ⟨rfl, rfl⟩
  · have hW : wrW w g L.length i v = w := by simp [wrW, hb]
    have B := Lib.hid hb
    clear hb h ho
    rw [hW]
    clear hW
    go_enter Try.func39, Try.ntmps39
    go_wp2_with (go_at_call 40; refine (phas_is _ _ _ B.out).mono ?_; rintro e w' ⟨rfl, rfl⟩)
    go_end0
    exact ⟨rfl, rfl⟩
end
end Go.Proofs.Ytlcefgfcihgocaa
