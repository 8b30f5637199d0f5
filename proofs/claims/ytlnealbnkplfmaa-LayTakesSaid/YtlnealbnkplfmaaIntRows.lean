/- A slice of slices of numbers, as it comes in. -/
import Derived.Test.YtlnealbnkplfmaaInts
namespace Go.Proofs.Ytlnealbnkplfmaa
/-- a slice of slices of numbers, nil let in: each of them -/
def IntRows (w : World) (A : Option Addr) (LL : List (List Int)) : Prop :=
  ∀ (k : Nat) (L : List Int), LL[k]? = some L → ∃ b off A' cp, A = some ⟨b, off, none⟩ ∧ b < w.heap.size ∧ w.cell? ⟨b, off + k, none⟩ = some (.slice A' L.length cp) ∧ Ints w A' L
section
open Go.ChangeShapes Go.WideShapes Go.ChangeAt Go.RowKit Go.Deep
section
variable {H : Type} {enc : TypeId × Value → H} {w : World} {base : Nat} {spare : Nat → Bool} {held : Bool}
/-- a slice of one-cell elements that lies in a cell -/
theorem open_slicesC {P : Program} {α : Type} {t e : TypeId} {fuel : Nat} {v : Value} {x : DataW H × List MemPlace} {Q : Value → α → Prop} (ht : P.underlying t = some (.slice e)) (hc : P.cellsOf e = 1) (hf : DataW.trod enc P w base spare held fuel t [v] = some x)
    (hq : ∀ (n : Nat) (u : Value) (y : DataW H × List MemPlace), DataW.trod enc P w base spare held n e [u] = some y → ∃ a, Q u a) :
    ∃ (A : Option Addr) (L : List α) (cap : Nat), v = .slice A L.length cap ∧ L.length ≤ maxLen ∧ ∀ (k : Nat) (a : α), L[k]? = some a → ∃ b off u, A = some ⟨b, off, none⟩ ∧ b < w.heap.size ∧ w.cell? ⟨b, off + k, none⟩ = some u ∧ Q u a := by
  rcases open_slice1 ht hc hf with ⟨hcs, _⟩ | ⟨a, len, cap, m, n, V, D, Pl, hcs, _, hl, hm, hmm, _, hx⟩
  · simp at hcs
    subst hcs
    exact ⟨none, [], 0, rfl, by simp, fun k a hk => by simp at hk⟩
  · simp at hcs
    subst hcs
    have hml : len ≤ m := by rw [hmm]; split <;> omega
    obtain ⟨L, hL, hq⟩ := list_of (n := len) (Q := fun k (y : α) => ∃ b off u, some a = some ⟨b, off, none⟩ ∧ b < w.heap.size ∧ w.cell? ⟨b, off + k, none⟩ = some u ∧ Q u y) (by
      intro k hk
      obtain ⟨hc', ht'⟩ := hx k (by omega)
      obtain ⟨y, hy⟩ := hq n _ _ ht'
      obtain ⟨b, off, spot⟩ := a
      have hs : spot = none ∧ b < w.heap.size := by
        have hs := cell_spot (hx 0 (by omega)).1
        simpa [Addr.add] using hs
      obtain ⟨rfl, hbl⟩ := hs
      refine ⟨y, b, off, V k, rfl, hbl, ?_, hy⟩
      rw [← hc']
      unfold Addr.add
      split
      · next h => simp [h]
      · rfl)
    exact ⟨some a, L, cap, by rw [hL], by rw [hL]; omega, fun k y hk => hq k y hk⟩
set_option maxRecDepth 100000 in
theorem ints_cell {fuel : Nat} {v : Value} {x : DataW H × List MemPlace} (hf : DataW.trod enc Try.prog w base spare held fuel 39 [v] = some x) : ∃ (A : Option Addr) (L : List Int) (cap : Nat), v = .slice A L.length cap ∧ Ints w A L := by
  rcases open_ints Try.underlying39 Try.underlying3 (by kernel_rfl) hf with ⟨hcs, _⟩ | ⟨a, len', cap', zs, hcs, _, hl, hm, hz, _, hcell, hwf⟩
  · simp at hcs
    subst hcs
    exact ⟨none, [], 0, rfl, ⟨fun k x hx => by simp at hx, fun k x hx => by simp at hx⟩⟩
  · simp at hcs
    subst hcs
    have hlz : len' ≤ zs.length := by rw [hz]; split <;> omega
    have hlen : (zs.take len').length = len' := by rw [List.length_take]; omega
    have hget : ∀ (k : Nat) (x : Int), (zs.take len')[k]? = some x → k < len' ∧ zs[k]? = some x := fun k x hx => by
      have hk := (List.getElem?_eq_some_iff.1 hx).1
      rw [hlen] at hk
      rw [List.getElem?_take_of_lt hk] at hx
      exact ⟨hk, hx⟩
    refine ⟨some a, zs.take len', cap', by rw [hlen], ⟨fun k x hx => ?_, fun k x hx => ?_⟩⟩
    · obtain ⟨hk, hx⟩ := hget k x hx
      obtain ⟨b, off, rfl, hc⟩ := ints_at hcell (by omega)
      have q := hc k (by omega)
      rw [List.getD_eq_getElem?_getD, hx] at q
      exact ⟨b, off, rfl, (cell_spot q).2, q⟩
    · exact hwf x (List.mem_of_getElem? (hget k x hx).2)
set_option maxRecDepth 100000 in
theorem introws_of {r : Reach} {b0 : Nat} {v : Value} {d : DataW H} {p : List MemPlace} (hv : Value.okWide Try.prog w r b0 36 v) (h : DataW.Trod enc Try.prog w base spare held 36 v d p) :
    ∃ (C : Option Addr) (LL : List (List Int)) (cap : Nat), v = .slice C LL.length cap ∧ IntRows w C LL ∧ LL.length ≤ 9223372036854775807 := by
  obtain ⟨A, len, cap, rfl⟩ := okWide_slice Try.underlying36 hv
  obtain ⟨fuel, hf⟩ := h
  obtain ⟨C, LL, c, e, hl, hq⟩ := open_slicesC (α := List Int) (Q := fun u L => ∃ A cap, u = .slice A L.length cap ∧ Ints w A L) Try.underlying36 (by kernel_rfl) hf (fun n u y hy => by
    obtain ⟨A2, L2, c2, rfl, h2⟩ := ints_cell hy
    exact ⟨L2, A2, c2, rfl, h2⟩)
  refine ⟨C, LL, c, e, fun k L hk => ?_, by unfold maxLen at hl; omega⟩
  obtain ⟨b, off, u, h1, h2, h3, A', cap', rfl, h4⟩ := hq k L hk
  exact ⟨b, off, A', cap', h1, h2, h3, h4⟩
end
end
end Go.Proofs.Ytlnealbnkplfmaa
