/- A slice of padstonelaw14.Deed's, as it comes in: each one 3 cells. -/
import Derived.Test.YtlcefgfcihgocaaRows
import Derived.Test.YtlcefgfcihgocaaLaw
import Derived.Test.YtlcefgfcihgocaaMem
import Derived.KernelRfl
namespace Go.Proofs.Ytlcefgfcihgocaa
open Go.ChangeShapes Go.WideShapes Go.ChangeAt Go.RowKit Go.Deep
/-- a deed, as it lies in a row of 3 cells -/
structure Q3 where
  what : Int
  obj : Int
  t : Int
def Q3.row (d : Q3) : List Value := [.int .i64 d.what, .int .i64 d.obj, .int .i64 d.t]
abbrev Q3.arr (d : Q3) : Array Value := #[.int .i64 d.what, .int .i64 d.obj, .int .i64 d.t]
structure Q3.ok (d : Q3) : Prop where
  what : -9223372036854775808 ≤ d.what ∧ d.what ≤ 9223372036854775807
  obj : -9223372036854775808 ≤ d.obj ∧ d.obj ≤ 9223372036854775807
  t : -9223372036854775808 ≤ d.t ∧ d.t ≤ 9223372036854775807
abbrev Q3T : TypeId := 28
theorem Q3.cells {w : World} {g : Nat} {d : Q3} (h : Blk w g Q3T d.arr) : w.cell? ⟨g, 0, none⟩ = some (.int .i64 d.what) ∧ w.cell? ⟨g, 1, none⟩ = some (.int .i64 d.obj) ∧ w.cell? ⟨g, 2, none⟩ = some (.int .i64 d.t) := ⟨h.cell 0, h.cell 1, h.cell 2⟩
/-- a slice of deeds, nil let in: each cell of each -/
structure DeedsQ3 (w : World) (A : Option Addr) (L : List Q3) : Prop where
  at_ : ∀ (k : Nat) (d : Q3), L[k]? = some d → ∃ b off, A = some ⟨b, off, none⟩ ∧ b < w.heap.size ∧ ∀ (j : Nat) (v : Value), d.row[j]? = some v → w.cell? ⟨b, off + k * 3 + j, none⟩ = some v
  ok : ∀ (k : Nat) (d : Q3), L[k]? = some d → d.ok
theorem DeedsQ3.only {w w' : World} {A : Option Addr} {L : List Q3} (h : DeedsQ3 w A L) (ho : Only [] w w') : DeedsQ3 w' A L :=
  ⟨fun k d hd => by
    obtain ⟨b, off, hA, hb, hc⟩ := h.at_ k d hd
    exact ⟨b, off, hA, Nat.lt_of_lt_of_le hb ho.size, fun j v hv => (ho.cell (p := ⟨b, _, none⟩) hb (by simp)).trans (hc j v hv)⟩, h.ok⟩
set_option maxRecDepth 100000 in
theorem deedsQ3_of {H : Type} {enc : TypeId × Value → H} {w : World} {base : Nat} {spare : Nat → Bool} {held : Bool} {r : Reach} {b0 : Nat} {v : Value} {d : DataW H} {p : List MemPlace}
    (hv : Value.okWide Try.prog w r b0 22 v) (h : DataW.Trod enc Try.prog w base spare held 22 v d p) :
    ∃ (A : Option Addr) (L : List Q3) (cap : Nat), v = .slice A L.length cap ∧ DeedsQ3 w A L ∧ L.length ≤ maxLen := by
  obtain ⟨A, len, cap, rfl, hlen, hrow⟩ := open_rows Try.underlying22 Try.underlying28 (by kernel_rfl) (by kernel_rfl) (by decide) hv h
  obtain ⟨L, hL, hq⟩ := list_of (n := len) (Q := fun i (d : Q3) => d.ok ∧ ∃ b off, A = some ⟨b, off, none⟩ ∧ b < w.heap.size ∧ ∀ (j : Nat) (v : Value), d.row[j]? = some v → w.cell? ⟨b, off + i * 3 + j, none⟩ = some v) (by
    intro i hi
    obtain ⟨b, off, hA, hb, hc⟩ := hrow (by omega)
    obtain ⟨u0, n0, y0, c0, t0⟩ := hc i hi 0 _ rfl
    obtain ⟨u1, n1, y1, c1, t1⟩ := hc i hi 1 _ rfl
    obtain ⟨u2, n2, y2, c2, t2⟩ := hc i hi 2 _ rfl
    obtain ⟨x0, e0, _, w0⟩ := DataW.trod_int Try.underlying3 t0
    obtain ⟨x1, e1, _, w1⟩ := DataW.trod_int Try.underlying3 t1
    obtain ⟨x2, e2, _, w2⟩ := DataW.trod_int Try.underlying3 t2
    simp only [List.cons.injEq, and_true] at e0 e1 e2
    subst e0 e1 e2
    have w0' : -9223372036854775808 ≤ x0 ∧ x0 ≤ 9223372036854775807 := by simpa [Lit.wf, IntKind.min, IntKind.max, IntKind.signed, IntKind.bits] using w0
    have w1' : -9223372036854775808 ≤ x1 ∧ x1 ≤ 9223372036854775807 := by simpa [Lit.wf, IntKind.min, IntKind.max, IntKind.signed, IntKind.bits] using w1
    have w2' : -9223372036854775808 ≤ x2 ∧ x2 ≤ 9223372036854775807 := by simpa [Lit.wf, IntKind.min, IntKind.max, IntKind.signed, IntKind.bits] using w2
    refine ⟨⟨x0, x1, x2⟩, ⟨w0', w1', w2'⟩, b, off, hA, hb, fun j v hj => ?_⟩
    match j, hj with
    | 0, hj => cases hj; exact c0
    | 1, hj => cases hj; exact c1
    | 2, hj => cases hj; exact c2
    | j + 3, hj => simp [Q3.row] at hj)
  exact ⟨A, L, cap, by rw [hL], ⟨fun k d hd => (hq k d hd).2, fun k d hd => (hq k d hd).1⟩, by rw [hL]; exact hlen⟩
end Go.Proofs.Ytlcefgfcihgocaa
