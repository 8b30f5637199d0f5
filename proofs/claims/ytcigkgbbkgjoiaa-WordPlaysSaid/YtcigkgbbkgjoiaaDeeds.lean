/- A slice of deeds, as it comes in (layer 1's laws). -/
import Derived.Test.YtcigkgbbkgjoiaaRows
import Derived.Test.YtcigkgbbkgjoiaaLaw
import Derived.KernelRfl
namespace Go.Proofs.Ytcigkgbbkgjoiaa
open Go.ChangeShapes Go.WideShapes Go.ChangeAt Go.RowKit Go.Deep

/-- a deed, as it lies in a row of six cells -/
structure D where
  what : Int
  i : Int
  ver : Int
  mark : Int
  v : Int
  now : Bool
def D.row (d : D) : List Value := [.int .i64 d.what, .int .i64 d.i, .int .u32 d.ver, .int .i64 d.mark, .int .u64 d.v, .bool d.now]
abbrev D.arr (d : D) : Array Value := #[.int .i64 d.what, .int .i64 d.i, .int .u32 d.ver, .int .i64 d.mark, .int .u64 d.v, .bool d.now]
structure D.ok (d : D) : Prop where
  what : (Lit.int .i64 d.what).wf = true
  i : (Lit.int .i64 d.i).wf = true
  ver : (Lit.int .u32 d.ver).wf = true
  mark : (Lit.int .i64 d.mark).wf = true
  v : (Lit.int .u64 d.v).wf = true
/-- a slice of deeds, nil let in: each cell of each -/
structure Deeds (w : World) (A : Option Addr) (L : List D) : Prop where
  at_ : ∀ (k : Nat) (d : D), L[k]? = some d → ∃ b off, A = some ⟨b, off, none⟩ ∧ b < w.heap.size ∧ ∀ (j : Nat) (v : Value), d.row[j]? = some v → w.cell? ⟨b, off + k * 6 + j, none⟩ = some v
  ok : ∀ (k : Nat) (d : D), L[k]? = some d → d.ok

set_option maxHeartbeats 1000000 in
theorem Deeds.only {w w' : World} {A : Option Addr} {L : List D} (h : Deeds w A L) (ho : Only [] w w') : Deeds w' A L :=
  ⟨fun k d hd => by
    obtain ⟨b, off, hA, hb, hc⟩ := h.at_ k d hd
    exact ⟨b, off, hA, Nat.lt_of_lt_of_le hb ho.size, fun j v hv => (ho.cell (p := ⟨b, _, none⟩) hb (by simp)).trans (hc j v hv)⟩, h.ok⟩


theorem own : ownKnob Try.prog.godebug = none := by kernel_rfl
theorem laidOut : laidOutB Try.prog = true := by kernel_rfl

theorem deeds_of {H : Type} {enc : TypeId × Value → H} {w : World} {base : Nat} {spare : Nat → Bool} {held : Bool} {r : Reach} {b0 : Nat} {v : Value} {d : DataW H} {p : List MemPlace}
    (hv : Value.okWide Try.prog w r b0 23 v) (h : DataW.Trod enc Try.prog w base spare held 23 v d p) :
    ∃ (A : Option Addr) (L : List D) (cap : Nat), v = .slice A L.length cap ∧ Deeds w A L := by
  obtain ⟨A, len, cap, rfl, hlen, hrow⟩ := open_rows Try.underlying23 Try.underlying37 (by kernel_rfl) (by kernel_rfl) (by decide) hv h
  obtain ⟨L, hL, hq⟩ := list_of (n := len) (Q := fun i (d : D) => d.ok ∧ ∃ b off, A = some ⟨b, off, none⟩ ∧ b < w.heap.size ∧ ∀ (j : Nat) (v : Value), d.row[j]? = some v → w.cell? ⟨b, off + i * 6 + j, none⟩ = some v) (by
    intro i hi
    obtain ⟨b, off, hA, hb, hc⟩ := hrow (by omega)
    obtain ⟨u0, n0, y0, c0, t0⟩ := hc i hi 0 _ rfl
    obtain ⟨u1, n1, y1, c1, t1⟩ := hc i hi 1 _ rfl
    obtain ⟨u2, n2, y2, c2, t2⟩ := hc i hi 2 _ rfl
    obtain ⟨u3, n3, y3, c3, t3⟩ := hc i hi 3 _ rfl
    obtain ⟨u4, n4, y4, c4, t4⟩ := hc i hi 4 _ rfl
    obtain ⟨u5, n5, y5, c5, t5⟩ := hc i hi 5 _ rfl
    obtain ⟨x0, e0, _, w0⟩ := DataW.trod_int Try.underlying3 t0
    obtain ⟨x1, e1, _, w1⟩ := DataW.trod_int Try.underlying3 t1
    obtain ⟨x2, e2, _, w2⟩ := DataW.trod_int Try.underlying22 t2
    obtain ⟨x3, e3, _, w3⟩ := DataW.trod_int Try.underlying3 t3
    obtain ⟨x4, e4, _, w4⟩ := DataW.trod_int Try.underlying35 t4
    obtain ⟨x5, e5, _⟩ := DataW.trod_bool Try.underlying4 t5
    simp only [List.cons.injEq, and_true] at e0 e1 e2 e3 e4 e5
    subst e0 e1 e2 e3 e4 e5
    refine ⟨⟨x0, x1, x2, x3, x4, x5⟩, ⟨w0, w1, w2, w3, w4⟩, b, off, hA, hb, fun j v hj => ?_⟩
    match j, hj with
    | 0, hj => cases hj; exact c0
    | 1, hj => cases hj; exact c1
    | 2, hj => cases hj; exact c2
    | 3, hj => cases hj; exact c3
    | 4, hj => cases hj; exact c4
    | 5, hj => cases hj; exact c5
    | j + 6, hj => simp [D.row] at hj)
  exact ⟨A, L, cap, by rw [hL], ⟨fun k d hd => (hq k d hd).2, fun k d hd => (hq k d hd).1⟩⟩
end Go.Proofs.Ytcigkgbbkgjoiaa
