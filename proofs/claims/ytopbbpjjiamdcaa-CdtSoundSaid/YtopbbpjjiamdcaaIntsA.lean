/- A slice of numbers, as it lies. No dump is read here. -/
import Derived.Test.YtopbbpjjiamdcaaMem
namespace Go.Proofs.Ytopbbpjjiamdcaa
open Go.RowKit
/-- a slice of numbers, nil let in: each of them -/
structure Ints (w : World) (A : Option Addr) (L : List Int) : Prop where
  at_ : ∀ (k : Nat) (x : Int), L[k]? = some x → ∃ b off, A = some ⟨b, off, none⟩ ∧ b < w.heap.size ∧ w.cell? ⟨b, off + k, none⟩ = some (.int .i64 x)
  ok : ∀ (k : Nat) (x : Int), L[k]? = some x → (Lit.int .i64 x).wf = true
theorem Ints.only {w w' : World} {A : Option Addr} {L : List Int} (h : Ints w A L) (ho : Only [] w w') : Ints w' A L :=
  ⟨fun k x hx => by
    obtain ⟨b, off, hA, hb, hc⟩ := h.at_ k x hx
    exact ⟨b, off, hA, Nat.lt_of_lt_of_le hb ho.size, (ho.cell (p := ⟨b, _, none⟩) hb (by simp)).trans hc⟩, h.ok⟩
/-- a row that was just made -/
theorem Ints.of_blk {w : World} {B : Nat} {t : TypeId} {L : List Int} (h : Blk w B t (L.map (Value.int .i64)).toArray) (ho : ∀ x ∈ L, (Lit.int .i64 x).wf = true) : Ints w (some ⟨B, 0, none⟩) L :=
  ⟨fun k x hx => ⟨B, 0, rfl, h.lt, by rw [Nat.zero_add, h.cell]; simp [hx]⟩, fun k x hx => ho x (List.mem_of_getElem? hx)⟩
end Go.Proofs.Ytopbbpjjiamdcaa
