/- The document's state of layers 9 to 21 as it lies in this program's types; a number of a list of numbers. -/
import Derived.Test.YtlcefgfcihgocaaRefNew2
namespace Go.Proofs.Ytlcefgfcihgocaa
open Go.RowKit
theorem infoIt : (Try.prog.info? ItT).map (fun i => (i.zero, i.size, i.bytes)) = some (some (.int .i64 0), 1, 8) := by kernel_rfl
theorem rowN_cell {w : World} {A : Option Addr} {t : TypeId} {L : List Int} {k : Nat} {x : Int} (h : RowN w A t irow' 1 L) (hx : L[k]? = some x) : ∃ g, A = some ⟨g, 0, none⟩ ∧ g < w.heap.size ∧ w.cell? ⟨g, k, none⟩ = some (.int .i64 x) := by
  obtain ⟨g, cur, hA, hb, hc⟩ := h k x hx
  refine ⟨g, hA, hb.lt, ?_⟩
  rw [hb.cell]
  have := hc 0 _ rfl
  simpa using this
end Go.Proofs.Ytlcefgfcihgocaa
