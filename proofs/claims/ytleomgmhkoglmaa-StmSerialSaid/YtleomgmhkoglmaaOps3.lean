/- A slice of slices of slices of deeds, as it comes in (layer 8's statements). -/
import Derived.Test.YtleomgmhkoglmaaRows
import Derived.Test.YtleomgmhkoglmaaLaw
import Derived.KernelRfl
import Derived.Test.YtleomgmhkoglmaaStmJobs
namespace Go.Proofs.Ytleomgmhkoglmaa
section
open Go.ChangeShapes Go.WideShapes Go.ChangeAt Go.RowKit Go.Deep
section
variable {H : Type} {enc : TypeId × Value → H} {P : Program} {w : World} {base : Nat} {spare : Nat → Bool} {held : Bool}
/-- a slice of structs of one-cell fields that lies in a cell -/
theorem open_rowsC {t e : TypeId} {fs : Array Field} {fuel : Nat} {v : Value} {x : DataW H × List MemPlace} (ht : P.underlying t = some (.slice e)) (he : P.underlying e = some (.struct fs)) (hone : oneCellFields P fs = true) (hC : P.cellsOf e = fs.size) (h0 : 0 < fs.size)
    (hf : DataW.trod enc P w base spare held fuel t [v] = some x) :
    ∃ (A : Option Addr) (len cap : Nat), v = .slice A len cap ∧ len ≤ maxLen ∧ (0 < len → ∃ b off, A = some ⟨b, off, none⟩ ∧ b < w.heap.size ∧
      ∀ i, i < len → ∀ (j : Nat) (f : Field), fs[j]? = some f → ∃ (u : Value) (n : Nat) (y : DataW H × List MemPlace), w.cell? ⟨b, off + i * fs.size + j, none⟩ = some u ∧ DataW.trod enc P w base spare held n f.type [u] = some y) := by
  rcases open_slice ht hf with ⟨hc, _⟩ | ⟨a, len, cap, m, n, D, Pl, hcs, hb, hl, hm, hmm, hx, hi⟩
  · simp at hc
    exact ⟨none, 0, 0, hc, by simp [maxLen], fun h => absurd h (by omega)⟩
  · simp at hcs
    subst hcs
    refine ⟨some a, len, cap, rfl, by omega, fun hpos => ?_⟩
    have hml : len ≤ m := by rw [hmm]; split <;> omega
    have get : ∀ i, i < len → ∀ (j : Nat) (f : Field), fs[j]? = some f → ∃ (u : Value) (n : Nat) (y : DataW H × List MemPlace), w.cell? (a.add (i * fs.size + j)) = some u ∧ DataW.trod enc P w base spare held n f.type [u] = some y := by
      intro i hil j f hj
      obtain ⟨cs', hc, ht'⟩ := hi i (by omega)
      rw [hC] at hc
      obtain ⟨ys, n', hn', hy, hlen, hyl, hg⟩ := DataW.trod_struct he ht'
      obtain ⟨_, hcl, hat⟩ := World.cells?_some hc
      obtain ⟨ho, hk⟩ := hone_of hone j f hj
      have hjl : j < fs.size := (Array.getElem?_eq_some_iff.1 hj).1
      have hcell := hat j hjl
      have h1 := hg j f hj
      rw [ho, hk] at h1
      have hone' : (cs'.drop j).take 1 = [cs'[j]'(by omega)] := by
        rw [List.drop_eq_getElem_cons (by omega)]
        rfl
      rw [hone'] at h1
      have hys : ys[j]? = some (ys[j]'(by omega)) := List.getElem?_eq_getElem (by omega)
      refine ⟨_, _, _, ?_, h1.trans hys⟩
      rw [← Go.Deep.add_add, hcell, List.getElem?_eq_getElem (by omega)]
    obtain ⟨b, off, spot⟩ := a
    obtain ⟨f0, hf0⟩ : ∃ f, fs[0]? = some f := ⟨_, Array.getElem?_eq_getElem h0⟩
    obtain ⟨u, _, _, hu, _⟩ := get 0 hpos 0 f0 hf0
    have hs := cell_spot hu
    simp [Addr.add] at hs
    obtain ⟨rfl, hbl⟩ := hs
    refine ⟨b, off, rfl, hbl, fun i hil j f hj => ?_⟩
    obtain ⟨u, n, y, hu, hy⟩ := get i hil j f hj
    refine ⟨u, n, y, ?_, hy⟩
    rw [← hu]
    unfold Addr.add
    split
    · rename_i hz
      have e : off + i * fs.size + j = off := by omega
      rw [e]
    · simp [Nat.add_assoc]
end
end
section
open Go.ChangeShapes Go.WideShapes Go.ChangeAt Go.RowKit Go.Deep
section
variable {H : Type} {enc : TypeId × Value → H} {w : World} {base : Nat} {spare : Nat → Bool} {held : Bool}
/-- a slice of one-cell elements that lies in a cell -/
theorem open_slicesC {P : Program} {α : Type} {t e : TypeId} {fuel : Nat} {v : Value} {x : DataW H × List MemPlace} {Q : Value → α → Prop} (ht : P.underlying t = some (.slice e)) (hc : P.cellsOf e = 1) (hf : DataW.trod enc P w base spare held fuel t [v] = some x)
    (hq : ∀ (n : Nat) (u : Value) (y : DataW H × List MemPlace), DataW.trod enc P w base spare held n e [u] = some y → ∃ a, Q u a) :
    ∃ (A : Option Addr) (L : List α) (cap : Nat), v = .slice A L.length cap ∧ L.length ≤ maxLen ∧ ∀ (k : Nat) (a : α), L[k]? = some a → ∃ b off u, A = some ⟨b, off, none⟩ ∧ b < w.heap.size ∧ w.cell? ⟨b, off + k, none⟩ = some u ∧ Q u a := by
  rcases open_slice1 ht hc hf with ⟨hcs, _⟩ | ⟨a, len, cap, m, n, V, D, Pl, hcs, _, hl, hm, hmm, _, hx⟩
  · simp at hcs
    subst hcs
    exact ⟨none, [], 0, rfl, by simp, fun k a hk => by simp at hk⟩
  · simp at hcs
    subst hcs
    have hml : len ≤ m := by rw [hmm]; split <;> omega
    obtain ⟨L, hL, hq⟩ := list_of (n := len) (Q := fun k (y : α) => ∃ b off u, some a = some ⟨b, off, none⟩ ∧ b < w.heap.size ∧ w.cell? ⟨b, off + k, none⟩ = some u ∧ Q u y) (by
      intro k hk
      obtain ⟨hc', ht'⟩ := hx k (by omega)
      obtain ⟨y, hy⟩ := hq n _ _ ht'
      obtain ⟨b, off, spot⟩ := a
      have hs : spot = none ∧ b < w.heap.size := by
        have hs := cell_spot (hx 0 (by omega)).1
        simpa [Addr.add] using hs
      obtain ⟨rfl, hbl⟩ := hs
      refine ⟨y, b, off, V k, rfl, hbl, ?_, hy⟩
      rw [← hc']
      unfold Addr.add
      split
      · next h => simp [h]
      · rfl)
    exact ⟨some a, L, cap, by rw [hL], by rw [hL]; omega, fun k y hk => hq k y hk⟩
set_option maxRecDepth 100000 in
theorem ops_cell {fuel : Nat} {v : Value} {x : DataW H × List MemPlace} (h : DataW.trod enc Try.prog w base spare held fuel 48 [v] = some x) : ∃ (A : Option Addr) (L : List O) (cap : Nat), v = .slice A L.length cap ∧ Ops w A L := by
  obtain ⟨A, len, cap, rfl, hlen, hrow⟩ := open_rowsC Try.underlying48 Try.underlying80 (by kernel_rfl) (by kernel_rfl) (by decide) h
  obtain ⟨L, hL, hq⟩ := list_of (n := len) (Q := fun i (d : O) => d.ok ∧ ∃ b off, A = some ⟨b, off, none⟩ ∧ b < w.heap.size ∧ ∀ (j : Nat) (v : Value), d.row[j]? = some v → w.cell? ⟨b, off + i * 5 + j, none⟩ = some v) (by
    intro i hi
    obtain ⟨b, off, hA, hb, hc⟩ := hrow (by omega)
    obtain ⟨u0, n0, y0, c0, t0⟩ := hc i hi 0 _ rfl
    obtain ⟨u1, n1, y1, c1, t1⟩ := hc i hi 1 _ rfl
    obtain ⟨u2, n2, y2, c2, t2⟩ := hc i hi 2 _ rfl
    obtain ⟨u3, n3, y3, c3, t3⟩ := hc i hi 3 _ rfl
    obtain ⟨u4, n4, y4, c4, t4⟩ := hc i hi 4 _ rfl
    obtain ⟨x0, e0, _⟩ := DataW.trod_bool Try.underlying4 t0
    obtain ⟨x1, e1, _⟩ := DataW.trod_bool Try.underlying4 t1
    obtain ⟨x2, e2, _, w2⟩ := DataW.trod_int Try.underlying3 t2
    obtain ⟨x3, e3, _, w3⟩ := DataW.trod_int Try.underlying3 t3
    obtain ⟨x4, e4, _, w4⟩ := DataW.trod_int Try.underlying46 t4
    simp only [List.cons.injEq, and_true] at e0 e1 e2 e3 e4
    subst e0 e1 e2 e3 e4
    refine ⟨⟨x0, x1, x2, x3, x4⟩, ⟨w2, w3, w4⟩, b, off, hA, hb, fun j v hj => ?_⟩
    match j, hj with
    | 0, hj => cases hj; exact c0
    | 1, hj => cases hj; exact c1
    | 2, hj => cases hj; exact c2
    | 3, hj => cases hj; exact c3
    | 4, hj => cases hj; exact c4
    | j + 5, hj => simp [O.row] at hj)
  exact ⟨A, L, cap, by rw [hL], ⟨fun k d hd => (hq k d hd).2, fun k d hd => (hq k d hd).1⟩⟩
set_option maxRecDepth 100000 in
theorem ops3_of {r : Reach} {b0 : Nat} {v : Value} {d : DataW H} {p : List MemPlace} (hv : Value.okWide Try.prog w r b0 23 v) (h : DataW.Trod enc Try.prog w base spare held 23 v d p) :
    ∃ (C : Option Addr) (Ls : List (List (List O))) (cap : Nat), v = .slice C Ls.length cap ∧ Ops3 w w.heap.size C Ls ∧ Ls.length ≤ 9223372036854775807 ∧ ∀ (i : Nat) (L : List (List O)), Ls[i]? = some L → L.length ≤ 9223372036854775807 := by
  obtain ⟨A, len, cap, rfl⟩ := okWide_slice Try.underlying23 hv
  obtain ⟨fuel, hf⟩ := h
  obtain ⟨C, Ls, c, e, hl, hq⟩ := open_slicesC (α := List (List O)) (Q := fun u L => ∃ A cap, u = .slice A L.length cap ∧ L.length ≤ maxLen ∧ Ops2 w w.heap.size A L) Try.underlying23 (by kernel_rfl) hf (fun n u y hy => by
    obtain ⟨A2, L2, c2, rfl, hl2, hq2⟩ := open_slicesC (α := List O) (Q := fun u o => ∃ A cap, u = .slice A o.length cap ∧ Ops w A o) Try.underlying45 (by kernel_rfl) hy (fun n' u' y' hy' => by
      obtain ⟨A3, L3, c3, rfl, h3⟩ := ops_cell hy'
      exact ⟨L3, A3, c3, rfl, h3⟩)
    refine ⟨L2, A2, c2, rfl, hl2, fun j o hj => ?_⟩
    obtain ⟨b, off, u, h1, h2, h3, A', cap', rfl, h4⟩ := hq2 j o hj
    exact ⟨b, off, A', cap', h1, h2, h3, h4, h4.lt⟩)
  refine ⟨C, Ls, c, e, fun i L hi => ?_, by unfold maxLen at hl; omega, fun i L hi => ?_⟩
  · obtain ⟨b, off, u, h1, h2, h3, A', cap', rfl, h4, h5⟩ := hq i L hi
    exact ⟨b, off, A', cap', h1, h2, h3, h5⟩
  · obtain ⟨b, off, u, h1, h2, h3, A', cap', rfl, h4, h5⟩ := hq i L hi
    unfold maxLen at h4
    omega
end
end
end Go.Proofs.Ytleomgmhkoglmaa
