/- Descriptors as mathematics (layer 7): entries, what a step does; how they lie. No dump is read here. -/
import Derived.Test.YtlcefgfcihgocaaWordM
namespace Go.Proofs.Ytlcefgfcihgocaa
open Go.RowKit
/-- an entry of a record -/
structure En where
  cell : Int
  ver : Int
  old : Int
  new : Int
  wr : Bool
def En.row (e : En) : List Value := [.int .i64 e.cell, .int .u32 e.ver, .int .u64 e.old, .int .u64 e.new, .bool e.wr]
/-- a descriptor: its mark, its entries, its status, how many were reserved, or released -/
structure De where
  mark : Int
  L : List En
  st : Int
  pos : Nat
def De.over (d : De) : Bool := d.st != 0 && d.pos == d.L.length
structure De.ok (d : De) : Prop where
  mark : 1 ≤ d.mark
  st0 : 0 ≤ d.st
  st1 : d.st ≤ 3
  pos : d.pos ≤ d.L.length
  len : d.L.length ≤ 1000
/-- rows of n cells by f, wherever they lie, nil let in -/
def RowsAt {α : Type} (w : World) (A : Option Addr) (f : α → List Value) (n : Nat) (L : List α) : Prop :=
  ∀ (k : Nat) (a : α), L[k]? = some a → ∃ b off, A = some ⟨b, off, none⟩ ∧ b < w.heap.size ∧ ∀ (j : Nat) (v : Value), (f a)[j]? = some v → w.cell? ⟨b, off + k * n + j, none⟩ = some v
/-- rows of n cells by f at the head of a block of type t, nil let in -/
def RowN {α : Type} (w : World) (A : Option Addr) (t : TypeId) (f : α → List Value) (n : Nat) (L : List α) : Prop :=
  ∀ (k : Nat) (a : α), L[k]? = some a → ∃ g cur, A = some ⟨g, 0, none⟩ ∧ Blk w g t cur ∧ ∀ (j : Nat) (v : Value), (f a)[j]? = some v → cur[k * n + j]? = some v
section
variable {α : Type} {w w' : World} {A : Option Addr} {t : TypeId} {f : α → List Value} {n : Nat} {L : List α}
theorem RowsAt.only0 (h : RowsAt w A f n L) (ho : Only [] w w') : RowsAt w' A f n L := fun k a ha => by
  obtain ⟨b, off, hA, hb, hc⟩ := h k a ha
  exact ⟨b, off, hA, Nat.lt_of_lt_of_le hb ho.size, fun j v hv => (ho.cell (p := ⟨b, _, none⟩) hb (by simp)).trans (hc j v hv)⟩
theorem RowsAt.nil (w : World) (A : Option Addr) : RowsAt w A f n [] := fun k a ha => by simp at ha
theorem RowN.nil (w : World) (A : Option Addr) : RowN w A t f n [] := fun k a ha => by simp at ha
theorem RowN.only {S : List Nat} (h : RowN w A t f n L) (ho : Only S w w') (hS : ∀ g cur, Blk w g t cur → g ∉ S) : RowN w' A t f n L := fun k a ha => by
  obtain ⟨g, cur, hA, hb, hc⟩ := h k a ha
  exact ⟨g, cur, hA, ho.blk hb (hS g cur hb), hc⟩
theorem RowN.rows (h : RowN w A t f n L) : RowsAt w A f n L := fun k a ha => by
  obtain ⟨g, cur, hA, hb, hc⟩ := h k a ha
  exact ⟨g, 0, hA, hb.lt, fun j v hv => by rw [Nat.zero_add, hb.cell]; exact hc j v hv⟩
theorem RowN.of_owns {base : Nat} {v : Value} (hf : ∀ a, (f a).length = n) (h : w.ownsRow base t n v L.length (L.flatMap f)) : ∃ (A : Option Addr) (cap : Nat), v = .slice A L.length cap ∧ RowN w A t f n L := by
  rcases h.2 with ⟨rfl, h0⟩ | ⟨g, cap, cur, rfl, hB, hg, _, _, _, ht⟩
  · exact ⟨none, 0, by rw [h0], fun j x hx => by have := (List.getElem?_eq_some_iff.1 hx).1; omega⟩
  · refine ⟨_, cap, rfl, fun k a ha => ⟨g, cur, rfl, hg, fun i u hu => ?_⟩⟩
    have hi : i < n := by rw [← hf a]; exact (List.getElem?_eq_some_iff.1 hu).1
    have hk := (List.getElem?_eq_some_iff.1 ha).1
    have e1 := flat_get (f := f) (L := L) hf k i hi
    rw [ha] at e1
    have e2 : (L.flatMap f)[k * n + i]? = (f a)[i]? := by simpa [flat] using e1
    have hlt : k * n + i < L.length * n := by
      have : (k + 1) * n ≤ L.length * n := Nat.mul_le_mul_right _ hk
      rw [Nat.succ_mul] at this
      omega
    rw [← ht, List.getElem?_take_of_lt hlt, Array.getElem?_toList, hu] at e2
    exact e2
end
theorem Only.inl {a b : World} {p g : Nat} (h : Only [p] a b) : Only [p, g] a b := h.more fun k _ hk => by simp at hk; simp [hk]
theorem Only.inr {a b : World} {p g : Nat} (h : Only [g] a b) : Only [p, g] a b := h.more fun k _ hk => by simp at hk; simp [hk]
end Go.Proofs.Ytlcefgfcihgocaa
