/- What the document's own answer for layer 2 answers: Word alone. -/
import Derived.Test.YtopbbpjjiamdcaaRows
import Derived.Test.YtopbbpjjiamdcaaPackM
import Derived.Test.YtopbbpjjiamdcaaMem
import Derived.WalkKit
import Derived.WalkSpells
import Derived.WalkLawsBesides
import Derived.Handy
import Derived.BigQuiet
import Derived.Deep.QuietTactic
import Derived.RegionTactic
import Derived.Lib.Hide
import Derived.Deep.Light
namespace Go.Proofs.Ytopbbpjjiamdcaa
open Go.RowKit
theorem refWord_any (c : Cp) (w : World) (h : c.Small) : Calls Try.prog 32 #[c.v] w fun e w' => e = .returned (.int .u64 c.word) ∧ Only [] w w' := by
  have hw := Cp.word_lt h
  obtain ⟨h1, h2, h3, h4, h5, h6, h7, h8, h9, h10, h11, h12⟩ := h
  unfold Cp.word at hw
  go_enter Try.func32, Try.ntmps32
  go_wp2
  go_ret
  exact ⟨by unfold Cp.word; rfl, (Only.refl _ _).alloc _⟩
end Go.Proofs.Ytopbbpjjiamdcaa
