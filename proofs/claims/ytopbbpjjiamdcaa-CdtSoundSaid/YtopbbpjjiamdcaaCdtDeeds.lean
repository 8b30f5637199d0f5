/- A slice of layer 10's deeds, as it comes in. -/
import Derived.Test.YtopbbpjjiamdcaaRows
import Derived.Test.YtopbbpjjiamdcaaLaw
import Derived.KernelRfl
namespace Go.Proofs.Ytopbbpjjiamdcaa
open Go.ChangeShapes Go.WideShapes Go.ChangeAt Go.RowKit Go.Deep
/-- a deed, as it lies in a row of three cells -/
structure D3 where
  what : Int
  a : Int
  b : Int
def D3.row (d : D3) : List Value := [.int .i64 d.what, .int .i64 d.a, .int .i64 d.b]
abbrev D3.arr (d : D3) : Array Value := #[.int .i64 d.what, .int .i64 d.a, .int .i64 d.b]
structure D3.ok (d : D3) : Prop where
  what : (Lit.int .i64 d.what).wf = true
  a : (Lit.int .i64 d.a).wf = true
  b : (Lit.int .i64 d.b).wf = true
/-- a slice of deeds, nil let in: each cell of each -/
structure Deeds3 (w : World) (A : Option Addr) (L : List D3) : Prop where
  at_ : ∀ (k : Nat) (d : D3), L[k]? = some d → ∃ b off, A = some ⟨b, off, none⟩ ∧ b < w.heap.size ∧ ∀ (j : Nat) (v : Value), d.row[j]? = some v → w.cell? ⟨b, off + k * 3 + j, none⟩ = some v
  ok : ∀ (k : Nat) (d : D3), L[k]? = some d → d.ok
theorem Deeds3.only {w w' : World} {A : Option Addr} {L : List D3} (h : Deeds3 w A L) (ho : Only [] w w') : Deeds3 w' A L :=
  ⟨fun k d hd => by
    obtain ⟨b, off, hA, hb, hc⟩ := h.at_ k d hd
    exact ⟨b, off, hA, Nat.lt_of_lt_of_le hb ho.size, fun j v hv => (ho.cell (p := ⟨b, _, none⟩) hb (by simp)).trans (hc j v hv)⟩, h.ok⟩
theorem deeds3_of {H : Type} {enc : TypeId × Value → H} {w : World} {base : Nat} {spare : Nat → Bool} {held : Bool} {r : Reach} {b0 : Nat} {v : Value} {d : DataW H} {p : List MemPlace}
    (hv : Value.okWide Try.prog w r b0 22 v) (h : DataW.Trod enc Try.prog w base spare held 22 v d p) :
    ∃ (A : Option Addr) (L : List D3) (cap : Nat), v = .slice A L.length cap ∧ Deeds3 w A L ∧ L.length ≤ maxLen := by
  obtain ⟨A, len, cap, rfl, hlen, hrow⟩ := open_rows Try.underlying22 Try.underlying29 (by kernel_rfl) (by kernel_rfl) (by decide) hv h
  obtain ⟨L, hL, hq⟩ := list_of (n := len) (Q := fun i (d : D3) => d.ok ∧ ∃ b off, A = some ⟨b, off, none⟩ ∧ b < w.heap.size ∧ ∀ (j : Nat) (v : Value), d.row[j]? = some v → w.cell? ⟨b, off + i * 3 + j, none⟩ = some v) (by
    intro i hi
    obtain ⟨b, off, hA, hb, hc⟩ := hrow (by omega)
    obtain ⟨u0, n0, y0, c0, t0⟩ := hc i hi 0 _ rfl
    obtain ⟨u1, n1, y1, c1, t1⟩ := hc i hi 1 _ rfl
    obtain ⟨u2, n2, y2, c2, t2⟩ := hc i hi 2 _ rfl
    obtain ⟨x0, e0, _, w0⟩ := DataW.trod_int Try.underlying3 t0
    obtain ⟨x1, e1, _, w1⟩ := DataW.trod_int Try.underlying3 t1
    obtain ⟨x2, e2, _, w2⟩ := DataW.trod_int Try.underlying3 t2
    simp only [List.cons.injEq, and_true] at e0 e1 e2
    subst e0 e1 e2
    refine ⟨⟨x0, x1, x2⟩, ⟨w0, w1, w2⟩, b, off, hA, hb, fun j v hj => ?_⟩
    match j, hj with
    | 0, hj => cases hj; exact c0
    | 1, hj => cases hj; exact c1
    | 2, hj => cases hj; exact c2
    | j + 3, hj => simp [D3.row] at hj)
  exact ⟨A, L, cap, by rw [hL], ⟨fun k d hd => (hq k d hd).2, fun k d hd => (hq k d hd).1⟩, by rw [hL]; exact hlen⟩
end Go.Proofs.Ytopbbpjjiamdcaa
