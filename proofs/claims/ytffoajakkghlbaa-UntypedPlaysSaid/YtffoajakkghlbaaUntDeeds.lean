/- A slice of layer 13's deeds, as it comes in. -/
import Derived.Test.YtffoajakkghlbaaRows
import Derived.Test.YtffoajakkghlbaaJ17
import Derived.KernelRfl
namespace Go.Proofs.Ytffoajakkghlbaa
open Go.ChangeShapes Go.WideShapes Go.ChangeAt Go.RowKit Go.Deep
/-- a deed, as it lies in a row of five cells -/
structure U5 where
  del : Bool
  a : Int
  b : Int
  k : Int
  n : Int
def U5.row (d : U5) : List Value := [.bool d.del, .int .i64 d.a, .int .i64 d.b, .int .i64 d.k, .int .i64 d.n]
abbrev U5.arr (d : U5) : Array Value := #[.bool d.del, .int .i64 d.a, .int .i64 d.b, .int .i64 d.k, .int .i64 d.n]
structure U5.ok (d : U5) : Prop where
  a : (Lit.int .i64 d.a).wf = true
  b : (Lit.int .i64 d.b).wf = true
  m : (Lit.int .i64 d.k).wf = true
  n : (Lit.int .i64 d.n).wf = true
/-- a slice of deeds, nil let in: each cell of each -/
structure DeedsU (w : World) (A : Option Addr) (L : List U5) : Prop where
  at_ : ∀ (k : Nat) (d : U5), L[k]? = some d → ∃ b off, A = some ⟨b, off, none⟩ ∧ b < w.heap.size ∧ ∀ (j : Nat) (v : Value), d.row[j]? = some v → w.cell? ⟨b, off + k * 5 + j, none⟩ = some v
  ok : ∀ (k : Nat) (d : U5), L[k]? = some d → d.ok
theorem DeedsU.only {w w' : World} {A : Option Addr} {L : List U5} (h : DeedsU w A L) (ho : Only [] w w') : DeedsU w' A L :=
  ⟨fun k d hd => by
    obtain ⟨b, off, hA, hb, hc⟩ := h.at_ k d hd
    exact ⟨b, off, hA, Nat.lt_of_lt_of_le hb ho.size, fun j v hv => (ho.cell (p := ⟨b, _, none⟩) hb (by simp)).trans (hc j v hv)⟩, h.ok⟩
set_option maxRecDepth 100000 in
theorem deedsU_of {H : Type} {enc : TypeId × Value → H} {w : World} {base : Nat} {spare : Nat → Bool} {held : Bool} {r : Reach} {b0 : Nat} {v : Value} {d : DataW H} {p : List MemPlace}
    (hv : Value.okWide Try.prog w r b0 27 v) (h : DataW.Trod enc Try.prog w base spare held 27 v d p) :
    ∃ (A : Option Addr) (L : List U5) (cap : Nat), v = .slice A L.length cap ∧ DeedsU w A L ∧ L.length ≤ maxLen := by
  obtain ⟨A, len, cap, rfl, hlen, hrow⟩ := open_rows Try.underlying27 Try.underlying44 (by kernel_rfl) (by kernel_rfl) (by decide) hv h
  obtain ⟨L, hL, hq⟩ := list_of (n := len) (Q := fun i (d : U5) => d.ok ∧ ∃ b off, A = some ⟨b, off, none⟩ ∧ b < w.heap.size ∧ ∀ (j : Nat) (v : Value), d.row[j]? = some v → w.cell? ⟨b, off + i * 5 + j, none⟩ = some v) (by
    intro i hi
    obtain ⟨b, off, hA, hb, hc⟩ := hrow (by omega)
    obtain ⟨u0, n0, y0, c0, t0⟩ := hc i hi 0 _ rfl
    obtain ⟨u1, n1, y1, c1, t1⟩ := hc i hi 1 _ rfl
    obtain ⟨u2, n2, y2, c2, t2⟩ := hc i hi 2 _ rfl
    obtain ⟨u3, n3, y3, c3, t3⟩ := hc i hi 3 _ rfl
    obtain ⟨u4, n4, y4, c4, t4⟩ := hc i hi 4 _ rfl
    obtain ⟨x0, e0, _⟩ := DataW.trod_bool Try.underlying4 t0
    obtain ⟨x1, e1, _, w1⟩ := DataW.trod_int Try.underlying3 t1
    obtain ⟨x2, e2, _, w2⟩ := DataW.trod_int Try.underlying3 t2
    obtain ⟨x3, e3, _, w3⟩ := DataW.trod_int Try.underlying3 t3
    obtain ⟨x4, e4, _, w4⟩ := DataW.trod_int Try.underlying3 t4
    simp only [List.cons.injEq, and_true] at e0 e1 e2 e3 e4
    subst e0 e1 e2 e3 e4
    refine ⟨⟨x0, x1, x2, x3, x4⟩, ⟨w1, w2, w3, w4⟩, b, off, hA, hb, fun j v hj => ?_⟩
    match j, hj with
    | 0, hj => cases hj; exact c0
    | 1, hj => cases hj; exact c1
    | 2, hj => cases hj; exact c2
    | 3, hj => cases hj; exact c3
    | 4, hj => cases hj; exact c4
    | j + 5, hj => simp [U5.row] at hj)
  exact ⟨A, L, cap, by rw [hL], ⟨fun k d hd => (hq k d hd).2, fun k d hd => (hq k d hd).1⟩, by rw [hL]; exact hlen⟩
end Go.Proofs.Ytffoajakkghlbaa
