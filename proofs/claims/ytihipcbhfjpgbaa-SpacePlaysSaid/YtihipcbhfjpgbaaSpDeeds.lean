/- A slice of padstonelaw18.Deed's, as it comes in: each one 5 cells. -/
import Derived.Test.YtihipcbhfjpgbaaRows
import Derived.Test.YtihipcbhfjpgbaaJ10
import Derived.Test.YtihipcbhfjpgbaaMem
import Derived.KernelRfl
namespace Go.Proofs.Ytihipcbhfjpgbaa
open Go.ChangeShapes Go.WideShapes Go.ChangeAt Go.RowKit Go.Deep
/-- a deed, as it lies in a row of 5 cells -/
structure S5 where
  un : Bool
  a : Int
  b : Int
  page : Int
  rights : Int
def S5.row (d : S5) : List Value := [.bool d.un, .int .i64 d.a, .int .i64 d.b, .int .i64 d.page, .int .i64 d.rights]
abbrev S5.arr (d : S5) : Array Value := #[.bool d.un, .int .i64 d.a, .int .i64 d.b, .int .i64 d.page, .int .i64 d.rights]
structure S5.ok (d : S5) : Prop where
  a : -9223372036854775808 ≤ d.a ∧ d.a ≤ 9223372036854775807
  b : -9223372036854775808 ≤ d.b ∧ d.b ≤ 9223372036854775807
  page : -9223372036854775808 ≤ d.page ∧ d.page ≤ 9223372036854775807
  rights : -9223372036854775808 ≤ d.rights ∧ d.rights ≤ 9223372036854775807
abbrev S5T : TypeId := 30
theorem S5.cells {w : World} {g : Nat} {d : S5} (h : Blk w g S5T d.arr) : w.cell? ⟨g, 0, none⟩ = some (.bool d.un) ∧ w.cell? ⟨g, 1, none⟩ = some (.int .i64 d.a) ∧ w.cell? ⟨g, 2, none⟩ = some (.int .i64 d.b) ∧ w.cell? ⟨g, 3, none⟩ = some (.int .i64 d.page) ∧ w.cell? ⟨g, 4, none⟩ = some (.int .i64 d.rights) := ⟨h.cell 0, h.cell 1, h.cell 2, h.cell 3, h.cell 4⟩
/-- a slice of deeds, nil let in: each cell of each -/
structure DeedsS5 (w : World) (A : Option Addr) (L : List S5) : Prop where
  at_ : ∀ (k : Nat) (d : S5), L[k]? = some d → ∃ b off, A = some ⟨b, off, none⟩ ∧ b < w.heap.size ∧ ∀ (j : Nat) (v : Value), d.row[j]? = some v → w.cell? ⟨b, off + k * 5 + j, none⟩ = some v
  ok : ∀ (k : Nat) (d : S5), L[k]? = some d → d.ok
theorem DeedsS5.only {w w' : World} {A : Option Addr} {L : List S5} (h : DeedsS5 w A L) (ho : Only [] w w') : DeedsS5 w' A L :=
  ⟨fun k d hd => by
    obtain ⟨b, off, hA, hb, hc⟩ := h.at_ k d hd
    exact ⟨b, off, hA, Nat.lt_of_lt_of_le hb ho.size, fun j v hv => (ho.cell (p := ⟨b, _, none⟩) hb (by simp)).trans (hc j v hv)⟩, h.ok⟩
set_option maxRecDepth 100000 in
theorem deedsS5_of {H : Type} {enc : TypeId × Value → H} {w : World} {base : Nat} {spare : Nat → Bool} {held : Bool} {r : Reach} {b0 : Nat} {v : Value} {d : DataW H} {p : List MemPlace}
    (hv : Value.okWide Try.prog w r b0 22 v) (h : DataW.Trod enc Try.prog w base spare held 22 v d p) :
    ∃ (A : Option Addr) (L : List S5) (cap : Nat), v = .slice A L.length cap ∧ DeedsS5 w A L ∧ L.length ≤ maxLen := by
  obtain ⟨A, len, cap, rfl, hlen, hrow⟩ := open_rows Try.underlying22 Try.underlying30 (by kernel_rfl) (by kernel_rfl) (by decide) hv h
  obtain ⟨L, hL, hq⟩ := list_of (n := len) (Q := fun i (d : S5) => d.ok ∧ ∃ b off, A = some ⟨b, off, none⟩ ∧ b < w.heap.size ∧ ∀ (j : Nat) (v : Value), d.row[j]? = some v → w.cell? ⟨b, off + i * 5 + j, none⟩ = some v) (by
    intro i hi
    obtain ⟨b, off, hA, hb, hc⟩ := hrow (by omega)
    obtain ⟨u0, n0, y0, c0, t0⟩ := hc i hi 0 _ rfl
    obtain ⟨u1, n1, y1, c1, t1⟩ := hc i hi 1 _ rfl
    obtain ⟨u2, n2, y2, c2, t2⟩ := hc i hi 2 _ rfl
    obtain ⟨u3, n3, y3, c3, t3⟩ := hc i hi 3 _ rfl
    obtain ⟨u4, n4, y4, c4, t4⟩ := hc i hi 4 _ rfl
    obtain ⟨x0, e0, _⟩ := DataW.trod_bool Try.underlying4 t0
    obtain ⟨x1, e1, _, w1⟩ := DataW.trod_int Try.underlying3 t1
    obtain ⟨x2, e2, _, w2⟩ := DataW.trod_int Try.underlying3 t2
    obtain ⟨x3, e3, _, w3⟩ := DataW.trod_int Try.underlying3 t3
    obtain ⟨x4, e4, _, w4⟩ := DataW.trod_int Try.underlying3 t4
    simp only [List.cons.injEq, and_true] at e0 e1 e2 e3 e4
    subst e0 e1 e2 e3 e4
    have w1' : -9223372036854775808 ≤ x1 ∧ x1 ≤ 9223372036854775807 := by simpa [Lit.wf, IntKind.min, IntKind.max, IntKind.signed, IntKind.bits] using w1
    have w2' : -9223372036854775808 ≤ x2 ∧ x2 ≤ 9223372036854775807 := by simpa [Lit.wf, IntKind.min, IntKind.max, IntKind.signed, IntKind.bits] using w2
    have w3' : -9223372036854775808 ≤ x3 ∧ x3 ≤ 9223372036854775807 := by simpa [Lit.wf, IntKind.min, IntKind.max, IntKind.signed, IntKind.bits] using w3
    have w4' : -9223372036854775808 ≤ x4 ∧ x4 ≤ 9223372036854775807 := by simpa [Lit.wf, IntKind.min, IntKind.max, IntKind.signed, IntKind.bits] using w4
    refine ⟨⟨x0, x1, x2, x3, x4⟩, ⟨w1', w2', w3', w4'⟩, b, off, hA, hb, fun j v hj => ?_⟩
    match j, hj with
    | 0, hj => cases hj; exact c0
    | 1, hj => cases hj; exact c1
    | 2, hj => cases hj; exact c2
    | 3, hj => cases hj; exact c3
    | 4, hj => cases hj; exact c4
    | j + 5, hj => simp [S5.row] at hj)
  exact ⟨A, L, cap, by rw [hL], ⟨fun k d hd => (hq k d hd).2, fun k d hd => (hq k d hd).1⟩, by rw [hL]; exact hlen⟩
end Go.Proofs.Ytihipcbhfjpgbaa
