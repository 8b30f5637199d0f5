/- A slice of numbers, as it lies. No dump is read here. -/
import Derived.Test.YtlhcigpllkigdaaMem
import Derived.Test.YtlhcigpllkigdaaRows
import Derived.Test.YtlhcigpllkigdaaJ13
import Derived.KernelRfl
namespace Go.Proofs.Ytlhcigpllkigdaa
open Go.RowKit
/-- a slice of numbers, nil let in: each of them -/
structure Ints (w : World) (A : Option Addr) (L : List Int) : Prop where
  at_ : ∀ (k : Nat) (x : Int), L[k]? = some x → ∃ b off, A = some ⟨b, off, none⟩ ∧ b < w.heap.size ∧ w.cell? ⟨b, off + k, none⟩ = some (.int .i64 x)
  ok : ∀ (k : Nat) (x : Int), L[k]? = some x → (Lit.int .i64 x).wf = true
theorem Ints.only {w w' : World} {A : Option Addr} {L : List Int} (h : Ints w A L) (ho : Only [] w w') : Ints w' A L :=
  ⟨fun k x hx => by
    obtain ⟨b, off, hA, hb, hc⟩ := h.at_ k x hx
    exact ⟨b, off, hA, Nat.lt_of_lt_of_le hb ho.size, (ho.cell (p := ⟨b, _, none⟩) hb (by simp)).trans hc⟩, h.ok⟩
/-- a row that was just made -/
theorem Ints.of_blk {w : World} {B : Nat} {t : TypeId} {L : List Int} (h : Blk w B t (L.map (Value.int .i64)).toArray) (ho : ∀ x ∈ L, (Lit.int .i64 x).wf = true) : Ints w (some ⟨B, 0, none⟩) L :=
  ⟨fun k x hx => ⟨B, 0, rfl, h.lt, by rw [Nat.zero_add, h.cell]; simp [hx]⟩, fun k x hx => ho x (List.mem_of_getElem? hx)⟩
end Go.Proofs.Ytlhcigpllkigdaa
/- A slice of numbers, as it comes in. -/
namespace Go.Proofs.Ytlhcigpllkigdaa
open Go.ChangeShapes Go.WideShapes Go.ChangeAt Go.RowKit Go.Deep
theorem own : ownKnob Try.prog.godebug = none := by kernel_rfl
theorem laidOut : laidOutB Try.prog = true := by kernel_rfl
set_option maxRecDepth 100000 in
theorem ints_of {H : Type} {enc : TypeId × Value → H} {w : World} {base : Nat} {spare : Nat → Bool} {held : Bool} {r : Reach} {b0 : Nat} {v : Value} {d : DataW H} {p : List MemPlace}
    (hv : Value.okWide Try.prog w r b0 47 v) (h : DataW.Trod enc Try.prog w base spare held 47 v d p) :
    ∃ (A : Option Addr) (L : List Int) (cap : Nat), v = .slice A L.length cap ∧ Ints w A L ∧ L.length ≤ 9223372036854775807 := by
  obtain ⟨A, len, cap, rfl⟩ := okWide_slice Try.underlying47 hv
  obtain ⟨fuel, hf⟩ := h
  rcases open_ints Try.underlying47 Try.underlying3 (by kernel_rfl) hf with ⟨hcs, _⟩ | ⟨a, len', cap', zs, hcs, _, hl, hm, hz, _, hcell, hwf⟩
  · simp [Value.cells] at hcs
    obtain ⟨rfl, rfl, rfl⟩ := hcs
    exact ⟨none, [], 0, rfl, ⟨fun k x hx => by simp at hx, fun k x hx => by simp at hx⟩, by simp⟩
  · simp [Value.cells] at hcs
    obtain ⟨rfl, rfl, rfl⟩ := hcs
    have hlz : len ≤ zs.length := by rw [hz]; split <;> omega
    have hlen : (zs.take len).length = len := by rw [List.length_take]; omega
    have hget : ∀ (k : Nat) (x : Int), (zs.take len)[k]? = some x → k < len ∧ zs[k]? = some x := fun k x hx => by
      have hk := (List.getElem?_eq_some_iff.1 hx).1
      rw [hlen] at hk
      rw [List.getElem?_take_of_lt hk] at hx
      exact ⟨hk, hx⟩
    refine ⟨some a, zs.take len, cap, by rw [hlen], ⟨fun k x hx => ?_, fun k x hx => ?_⟩, by rw [hlen]; have := hm; unfold maxLen at this; omega⟩
    · obtain ⟨hk, hx⟩ := hget k x hx
      obtain ⟨b, off, rfl, hc⟩ := ints_at hcell (by omega)
      have q := hc k (by omega)
      rw [List.getD_eq_getElem?_getD, hx] at q
      exact ⟨b, off, rfl, (cell_spot q).2, q⟩
    · exact hwf x (List.mem_of_getElem? (hget k x hx).2)
end Go.Proofs.Ytlhcigpllkigdaa
