/- What Put of package pack answers (layer 2): for every capability. -/
import Derived.Test.YtdkjfalhalepgaaJ14
namespace Go.Proofs.Ytdkjfalhalepgaa
open Go.RowKit
section
variable (c : Cp) (w : World)
theorem put_no (h : ¬ c.may) : Calls Try.prog 84 #[c.v] w fun e w' => e = .returned (.tuple #[.int .u64 0, .iface 70 (.int .i64 1)]) ∧ Only [] w w' := by
  have H := Lib.hid h
  clear h
  go_enter Try.func84, Try.ntmps84
  go_wp2_with (go_at_call 89; refine (may_no _ _ H.out).mono ?_; rintro e w' ⟨rfl, ho1⟩)
  go_ret2
  exact ⟨rfl, ((Only.refl _ _).alloc _).trans ho1⟩
theorem put_yes (h : c.may) : Calls Try.prog 84 #[c.v] w fun e w' => e = .returned (.tuple #[.int .u64 c.word, .nilIface]) ∧ Only [] w w' := by
  have H := Lib.hid h
  obtain ⟨h1, h2, h3, h4, h5, h6, h7, h8, h9, h10, h11, h12⟩ := h.small
  clear h
  go_enter Try.func84, Try.ntmps84
  go_wp2_with (go_at_call 89; refine (may_yes _ _ H.out).mono ?_; rintro e w' ⟨rfl, ho1⟩; obtain ⟨k0, k1, k2, k3, k4, k5⟩ := (ho1.blk (Blk.new w 30 c.arr) (by simp)).six)
  go_ret2
  exact ⟨tup_u64 (word_or H.out.small), ((Only.refl _ _).alloc _).trans ho1⟩
end
end Go.Proofs.Ytdkjfalhalepgaa
