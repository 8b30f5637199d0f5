/- The document's state of layers 9 to 21 as it lies in this program's types; a number of a list of numbers. -/
import Derived.Test.YtlhcigpllkigdaaRefNew2
namespace Go.Proofs.Ytlhcigpllkigdaa
open Go.RowKit
theorem infoIt : (Try.prog.info? ItT).map (fun i => (i.zero, i.size, i.bytes)) = some (some (.int .i64 0), 1, 8) := by kernel_rfl
theorem rowN_cell {w : World} {A : Option Addr} {t : TypeId} {L : List Int} {k : Nat} {x : Int} (h : RowN w A t irow' 1 L) (hx : L[k]? = some x) : ∃ g, A = some ⟨g, 0, none⟩ ∧ g < w.heap.size ∧ w.cell? ⟨g, k, none⟩ = some (.int .i64 x) := by
  obtain ⟨g, cur, hA, hb, hc⟩ := h k x hx
  refine ⟨g, hA, hb.lt, ?_⟩
  rw [hb.cell]
  have := hc 0 _ rfl
  simpa using this
theorem nums_len (L : List Int) : (L.flatMap irow').length = L.length * 1 := by
  have := flat_size (f := irow') (L := L) irow'_len
  simpa [flat] using this
theorem slotOk_yes {i : Int} : slotOk i = true ↔ 0 ≤ i ∧ i < 96 := by simp [slotOk]
theorem slotOk_no {i : Int} : slotOk i = false ↔ i < 0 ∨ 96 ≤ i := by simp [slotOk]; omega
abbrev RefM (w : World) (p gs go : Nat) (S : RSt) : Prop := RefAt w StT SlT ObT ItT p gs go S
/-- what lists of kids are: not long -/
def RSt.Short (S : RSt) : Prop := ∀ i : Int, (S.kids i).length ≤ 500
end Go.Proofs.Ytlhcigpllkigdaa
