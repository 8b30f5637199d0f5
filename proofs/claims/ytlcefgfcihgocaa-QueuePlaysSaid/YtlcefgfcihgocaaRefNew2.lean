/- New of the document's state (layers 9 to 21): nothing is used. -/
import Derived.Test.YtlcefgfcihgocaaRefNew
import Derived.Deep.RegionLaw
namespace Go.Proofs.Ytlcefgfcihgocaa
open Go.RowKit
theorem owns_far {w w' : World} {base size n : Nat} {e : TypeId} {v : Value} {xs : List Value} {F : List Nat} (h : w.ownsRow base e size v n xs) (ho : Only F w w') (hF : ∀ j, v.ownBlock = some j → j ∉ F) : w'.ownsRow base e size v n xs := by
  refine ⟨h.1, ?_⟩
  rcases h.2 with h0 | ⟨g, cap, cur, rfl, hb, hg, r⟩
  · exact .inl h0
  · exact .inr ⟨g, cap, cur, rfl, hb, (show Blk w' g e cur from ho.blk (show Blk w g e cur from hg) (hF g rfl)), r⟩
end Go.Proofs.Ytlcefgfcihgocaa
