/- A slice of words, as it comes in: each of them a word. -/
import Derived.Test.YtlcefgfcihgocaaRows
import Derived.Test.YtlcefgfcihgocaaLaw
import Derived.Test.YtlcefgfcihgocaaVm
import Derived.KernelRfl
namespace Go.Proofs.Ytlcefgfcihgocaa
open Go.ChangeShapes Go.WideShapes Go.ChangeAt Go.RowKit Go.Deep
set_option maxRecDepth 100000 in
theorem words_ofU {H : Type} {enc : TypeId × Value → H} {w : World} {base : Nat} {spare : Nat → Bool} {held : Bool} {r : Reach} {b0 : Nat} {v : Value} {d : DataW H} {p : List MemPlace}
    (hv : Value.okWide Try.prog w r b0 24 v) (h : DataW.Trod enc Try.prog w base spare held 24 v d p) :
    ∃ (A : Option Addr) (L : List Int) (cap : Nat), v = .slice A L.length cap ∧ Wds w A L ∧ L.length ≤ 9223372036854775807 ∧ Us L := by
  obtain ⟨A, len, cap, rfl⟩ := okWide_slice Try.underlying24 hv
  obtain ⟨fuel, hf⟩ := h
  rcases open_ints Try.underlying24 Try.underlying40 (by kernel_rfl) hf with ⟨hcs, _⟩ | ⟨a, len', cap', zs, hcs, _, hl, hm, hz, _, hcell, hwf⟩
  · simp [Value.cells] at hcs
    obtain ⟨rfl, rfl, rfl⟩ := hcs
    exact ⟨none, [], 0, rfl, Wds.nil _ _, by simp, fun x hx => by simp at hx⟩
  · simp [Value.cells] at hcs
    obtain ⟨rfl, rfl, rfl⟩ := hcs
    have hlz : len ≤ zs.length := by rw [hz]; split <;> omega
    have hlen : (zs.take len).length = len := by rw [List.length_take]; omega
    have hget : ∀ (k : Nat) (x : Int), (zs.take len)[k]? = some x → k < len ∧ zs[k]? = some x := fun k x hx => by
      have hk := (List.getElem?_eq_some_iff.1 hx).1
      rw [hlen] at hk
      rw [List.getElem?_take_of_lt hk] at hx
      exact ⟨hk, hx⟩
    refine ⟨some a, zs.take len, cap, by rw [hlen], fun k x hx => ?_, by rw [hlen]; have := hm; unfold maxLen at this; omega, fun x hx => ?_⟩
    · obtain ⟨hk, hx⟩ := hget k x hx
      obtain ⟨b, off, rfl, hc⟩ := ints_at hcell (by omega)
      have q := hc k (by omega)
      rw [List.getD_eq_getElem?_getD, hx] at q
      exact ⟨b, off, rfl, (cell_spot q).2, q⟩
    · have hw := hwf x (List.mem_of_mem_take hx)
      simpa [U64, Lit.wf, IntKind.min, IntKind.max, IntKind.signed, IntKind.bits] using hw
end Go.Proofs.Ytlcefgfcihgocaa
