/- A capability, as it comes in by value. -/
import Derived.Test.YtbklkpbcdijgoaaRows
import Derived.Test.YtbklkpbcdijgoaaLaw
import Derived.Test.YtbklkpbcdijgoaaPackM
import Derived.KernelRfl
namespace Go.Proofs.Ytbklkpbcdijgoaa
open Go.ChangeShapes Go.WideShapes Go.ChangeAt Go.RowKit Go.Deep

theorem own : ownKnob Try.prog.godebug = none := by kernel_rfl
theorem laidOut : laidOutB Try.prog = true := by kernel_rfl
structure Cp.wf (c : Cp) : Prop where
  kind : (Lit.int .i64 c.kind).wf = true
  rights : (Lit.int .i64 c.rights).wf = true
  obj : (Lit.int .i64 c.obj).wf = true
  badge : (Lit.int .i64 c.badge).wf = true
  guard : (Lit.int .i64 c.guard).wf = true
  bits : (Lit.int .i64 c.bits).wf = true
theorem cap_of {H : Type} {enc : TypeId × Value → H} {w : World} {base : Nat} {spare : Nat → Bool} {held : Bool} {r : Reach} {b0 : Nat} {v : Value} {d : DataW H} {p : List MemPlace}
    (hv : Value.okWide Try.prog w r b0 24 v) (h : DataW.Trod enc Try.prog w base spare held 24 v d p) : ∃ c : Cp, v = c.v ∧ c.wf := by
  obtain ⟨vs, rfl, hsz, hg⟩ := open_struct Try.underlying24 (by kernel_rfl) (by kernel_rfl) hv h
  obtain ⟨u0, n0, y0, c0, t0⟩ := hg 0 _ rfl
  obtain ⟨u1, n1, y1, c1, t1⟩ := hg 1 _ rfl
  obtain ⟨u2, n2, y2, c2, t2⟩ := hg 2 _ rfl
  obtain ⟨u3, n3, y3, c3, t3⟩ := hg 3 _ rfl
  obtain ⟨u4, n4, y4, c4, t4⟩ := hg 4 _ rfl
  obtain ⟨u5, n5, y5, c5, t5⟩ := hg 5 _ rfl
  obtain ⟨x0, e0, _, w0⟩ := DataW.trod_int Try.underlying3 t0
  obtain ⟨x1, e1, _, w1⟩ := DataW.trod_int Try.underlying3 t1
  obtain ⟨x2, e2, _, w2⟩ := DataW.trod_int Try.underlying3 t2
  obtain ⟨x3, e3, _, w3⟩ := DataW.trod_int Try.underlying3 t3
  obtain ⟨x4, e4, _, w4⟩ := DataW.trod_int Try.underlying3 t4
  obtain ⟨x5, e5, _, w5⟩ := DataW.trod_int Try.underlying3 t5
  simp only [List.cons.injEq, and_true] at e0 e1 e2 e3 e4 e5
  subst e0 e1 e2 e3 e4 e5
  refine ⟨⟨x0, x1, x2, x3, x4, x5⟩, ?_, ⟨w0, w1, w2, w3, w4, w5⟩⟩
  congr 1
  apply Array.ext_getElem?
  intro j
  match j with
  | 0 => exact c0
  | 1 => exact c1
  | 2 => exact c2
  | 3 => exact c3
  | 4 => exact c4
  | 5 => exact c5
  | j + 6 =>
    rw [Array.getElem?_eq_none (by rw [hsz]; simp), Array.getElem?_eq_none (by simp)]
end Go.Proofs.Ytbklkpbcdijgoaa
