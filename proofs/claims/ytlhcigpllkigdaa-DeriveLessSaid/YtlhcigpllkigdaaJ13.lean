/- From a law's walk to its statement: what every law shares. -/
import Derived.Test.YtlhcigpllkigdaaMem
import Derived.ProofKit
import Derived.OpenShut
import Derived.Deep.Slices
import Derived.Deep.Fields
import Derived.Test.YtlhcigpllkigdaaRows
import Derived.KernelRfl
namespace Go.Proofs.Ytlhcigpllkigdaa
open Go.ChangeShapes Go.WideShapes Go.ChangeAt Go.RowKit Go.Deep

section
variable {H : Type} {enc : TypeId × Value → H} {P : Program}

/-- all arguments read as they did, if nothing old has turned -/
theorem trodAll_below (hl : laidOutB P = true) {W W' : World} (hb : Below W.heap.size W W') :
    ∀ {ts : List TypeId} {vs : List Value} {ds : List (DataW H)} {ps : List MemPlace}, (∀ t ∈ ts, P.readableRec t = true ∧ t < P.types.size) → DataW.TrodAll enc P W 0 (fun _ => true) true ts vs ds ps → (∀ x ∈ ps, x.block < W.heap.size) →
    DataW.TrodAll enc P W' 0 (fun b => decide (b < W.heap.size)) true ts vs ds ps
  | [], _, _, _, _, h, _ => by
    obtain ⟨rfl, rfl, rfl⟩ := trodAll_nil h
    exact trodAll_mk0
  | t :: ts, _, _, _, ht, h, hlt => by
    obtain ⟨v, vs, d, ds, p, q, rfl, rfl, rfl, h0, hr⟩ := trodAll_cons h
    have h1 := ht t (by simp)
    exact trodAll_cons_mk (Below.trod hl h1.1 h1.2 h0 hb (fun x hx => hlt x (by simp [hx]))) (trodAll_below hl hb (fun t' ht' => ht t' (by simp [ht'])) hr (fun x hx => hlt x (by simp [hx])))

/-- a law that answered true, and turned nothing that was there, keeps its row -/
theorem law_post {f : Func} {s : ChangeSpec} {W W' : World} {args : Array Value} {ds gs : List (DataW H)} {before : List MemPlace} {tb : TypeId} (hres : f.resultTypes = #[tb]) (htb : P.underlying tb = some .bool) (hvars : s.vars = [])
    (hfn : s.fn H ds = { results := [.lit (.bool true)], args := ds }) (hl : laidOutB P = true) (ht : ∀ t ∈ f.params.toList, P.readableRec t = true ∧ t < P.types.size)
    (hW : DataW.Whole enc P f.params.toList s.vars false W args.toList ds gs before) (hb : Below W.heap.size W W') : s.post enc P f false true false false W args (.bool true) W' := by
  have hlt := hW.lt
  have hW' := hW
  obtain ⟨p, q, hA, hV, rfl, hfz, _⟩ := hW
  rw [hvars] at hV
  obtain ⟨rfl, rfl⟩ := trodVars_none hV
  have hr : DataW.TrodAll enc P W' W.heap.size (fun _ => false) false f.resultTypes.toList ((Value.bool true).resultList f.resultTypes.size) (s.fn H (ds ++ [])).results [] := by
    rw [hres, List.append_nil, hfn]
    exact trodAll_mk1 (shut_bool htb true)
  have ha : DataW.TrodAll enc P W' 0 (fun b => decide (b < W.heap.size)) true f.params.toList args.toList (s.fn H (ds ++ [])).args p := by
    rw [List.append_nil, hfn]
    exact trodAll_below hl hb ht hA (fun x hx => hlt x (by simp [hx]))
  refine ⟨ds, [], p ++ [], [], p, [], hW', hr, ha, ?_, hb.frame _, fun h => by cases h⟩
  rw [hvars, List.append_nil, hfn]
  rfl
end

theorem list_of {α : Type} {n : Nat} {Q : Nat → α → Prop} (h : ∀ i, i < n → ∃ a, Q i a) : ∃ L : List α, L.length = n ∧ ∀ (i : Nat) (a : α), L[i]? = some a → Q i a := by
  induction n with
  | zero => exact ⟨[], rfl, fun i a hi => by simp at hi⟩
  | succ n ih =>
    obtain ⟨L, hL, hq⟩ := ih (fun i hi => h i (by omega))
    obtain ⟨a, ha⟩ := h n (by omega)
    refine ⟨L ++ [a], by simp [hL], fun i b hi => ?_⟩
    by_cases hlt : i < n
    · rw [List.getElem?_append_left (by omega)] at hi
      exact hq i b hi
    · have hin : i = n := by
        have := (List.getElem?_eq_some_iff.1 hi).1
        simp only [List.length_append, List.length_cons, List.length_nil, hL] at this
        omega
      subst hin
      rw [List.getElem?_append_right (by omega), hL] at hi
      simp at hi
      subst hi
      exact ha

theorem cell_spot {w : World} {a : Addr} {v : Value} (h : w.cell? a = some v) : a.spot = none ∧ a.block < w.heap.size := by
  obtain ⟨b, o, s⟩ := a
  constructor
  · cases s with
    | none => rfl
    | some s =>
      unfold World.cell? at h
      simp only [Option.isSome_some, if_true] at h
      split at h <;> cases h
  · rcases Nat.lt_or_ge b w.heap.size with hlt | hge
    · exact hlt
    · unfold World.cell? at h
      simp only [Array.getElem?_eq_none hge] at h
      cases h

section
variable {H : Type} {enc : TypeId × Value → H} {P : Program} {w : World} {base : Nat} {spare : Nat → Bool} {held : Bool}
/-- a slice of structs of one-cell fields: each field of each element -/
theorem open_rows {r : Reach} {b0 : Nat} {t e : TypeId} {fs : Array Field} {v : Value} {d : DataW H} {p : List MemPlace} (ht : P.underlying t = some (.slice e)) (he : P.underlying e = some (.struct fs)) (hone : oneCellFields P fs = true) (hC : P.cellsOf e = fs.size) (h0 : 0 < fs.size)
    (hv : Value.okWide P w r b0 t v) (h : DataW.Trod enc P w base spare held t v d p) :
    ∃ (A : Option Addr) (len cap : Nat), v = .slice A len cap ∧ len ≤ maxLen ∧ (0 < len → ∃ b off, A = some ⟨b, off, none⟩ ∧ b < w.heap.size ∧
      ∀ i, i < len → ∀ (j : Nat) (f : Field), fs[j]? = some f → ∃ (u : Value) (n : Nat) (y : DataW H × List MemPlace), w.cell? ⟨b, off + i * fs.size + j, none⟩ = some u ∧ DataW.trod enc P w base spare held n f.type [u] = some y) := by
  obtain ⟨fuel, hf⟩ := h
  rcases open_slice ht hf with ⟨hc, _⟩ | ⟨a, len, cap, m, n, D, Pl, hcs, hb, hl, hm, hmm, hx, hi⟩
  · obtain ⟨A, len, cap, rfl⟩ := okWide_slice ht hv
    simp [Value.cells] at hc
    obtain ⟨rfl, rfl, rfl⟩ := hc
    exact ⟨none, 0, 0, rfl, by simp [maxLen], fun h => absurd h (by omega)⟩
  · obtain ⟨A, len', cap', rfl⟩ := okWide_slice ht hv
    simp [Value.cells] at hcs
    obtain ⟨rfl, rfl, rfl⟩ := hcs
    refine ⟨some a, len', cap', rfl, by omega, fun hpos => ?_⟩
    have hml : len' ≤ m := by rw [hmm]; split <;> omega
    have get : ∀ i, i < len' → ∀ (j : Nat) (f : Field), fs[j]? = some f → ∃ (u : Value) (n : Nat) (y : DataW H × List MemPlace), w.cell? (a.add (i * fs.size + j)) = some u ∧ DataW.trod enc P w base spare held n f.type [u] = some y := by
      intro i hil j f hj
      obtain ⟨cs', hc, ht'⟩ := hi i (by omega)
      rw [hC] at hc
      obtain ⟨ys, n', hn', hy, hlen, hyl, hg⟩ := DataW.trod_struct he ht'
      obtain ⟨_, hcl, hat⟩ := World.cells?_some hc
      obtain ⟨ho, hk⟩ := hone_of hone j f hj
      have hjl : j < fs.size := (Array.getElem?_eq_some_iff.1 hj).1
      have hcell := hat j hjl
      have h1 := hg j f hj
      rw [ho, hk] at h1
      have hone' : (cs'.drop j).take 1 = [cs'[j]'(by omega)] := by
        rw [List.drop_eq_getElem_cons (by omega)]
        rfl
      rw [hone'] at h1
      have hys : ys[j]? = some (ys[j]'(by omega)) := List.getElem?_eq_getElem (by omega)
      refine ⟨_, _, _, ?_, h1.trans hys⟩
      rw [← Go.Deep.add_add, hcell, List.getElem?_eq_getElem (by omega)]
    obtain ⟨b, off, spot⟩ := a
    obtain ⟨f0, hf0⟩ : ∃ f, fs[0]? = some f := ⟨_, Array.getElem?_eq_getElem h0⟩
    obtain ⟨u, _, _, hu, _⟩ := get 0 hpos 0 f0 hf0
    have hs := cell_spot hu
    simp [Addr.add] at hs
    obtain ⟨rfl, hbl⟩ := hs
    refine ⟨b, off, rfl, hbl, fun i hil j f hj => ?_⟩
    obtain ⟨u, n, y, hu, hy⟩ := get i hil j f hj
    refine ⟨u, n, y, ?_, hy⟩
    rw [← hu]
    unfold Addr.add
    split
    · rename_i hz
      have e : off + i * fs.size + j = off := by omega
      rw [e]
    · simp [Nat.add_assoc]
/-- a struct of one-cell fields, by value: each field -/
theorem open_struct {r : Reach} {b0 : Nat} {t : TypeId} {fs : Array Field} {v : Value} {d : DataW H} {p : List MemPlace} (ht : P.underlying t = some (.struct fs)) (hone : oneCellFields P fs = true) (hC : P.cellsOf t = fs.size)
    (hv : Value.okWide P w r b0 t v) (h : DataW.Trod enc P w base spare held t v d p) :
    ∃ vs : Array Value, v = .agg vs ∧ vs.size = fs.size ∧ ∀ (j : Nat) (f : Field), fs[j]? = some f → ∃ (u : Value) (n : Nat) (y : DataW H × List MemPlace), vs[j]? = some u ∧ DataW.trod enc P w base spare held n f.type [u] = some y := by
  obtain ⟨vs, rfl, hsz⟩ := okWide_struct ht hv
  obtain ⟨fuel, hf⟩ := h
  obtain ⟨xs, n, _, _, _, hlen, hg⟩ := DataW.trod_struct ht hf
  refine ⟨vs, rfl, hsz.trans hC, fun j f hj => ?_⟩
  have hjf : j < fs.size := (Array.getElem?_eq_some_iff.1 hj).1
  have hjv : j < vs.toList.length := by rw [Array.length_toList, hsz, hC]; exact hjf
  obtain ⟨ho, hk⟩ := hone_of hone j f hj
  have h1 : DataW.trod enc P w base spare held n f.type (List.take (P.cellsOf f.type) (List.drop f.offset vs.toList)) = xs[j]? := hg j f hj
  rw [ho, hk, List.drop_eq_getElem_cons hjv] at h1
  have hx : xs[j]? = some (xs[j]'(by omega)) := List.getElem?_eq_getElem (by omega)
  refine ⟨vs.toList[j], n, xs[j]'(by omega), ?_, (show DataW.trod enc P w base spare held n f.type [vs.toList[j]] = _ from h1).trans hx⟩
  rw [← Array.getElem?_toList]
  exact List.getElem?_eq_getElem hjv
end
end Go.Proofs.Ytlhcigpllkigdaa
/- A slice of layer 12's deeds, as it comes in. -/
namespace Go.Proofs.Ytlhcigpllkigdaa
open Go.ChangeShapes Go.WideShapes Go.ChangeAt Go.RowKit Go.Deep
/-- a deed, as it lies in a row of five cells -/
structure D5 where
  what : Int
  a : Int
  b : Int
  m : Int
  n : Int
def D5.row (d : D5) : List Value := [.int .i64 d.what, .int .i64 d.a, .int .i64 d.b, .int .i64 d.m, .int .i64 d.n]
abbrev D5.arr (d : D5) : Array Value := #[.int .i64 d.what, .int .i64 d.a, .int .i64 d.b, .int .i64 d.m, .int .i64 d.n]
structure D5.ok (d : D5) : Prop where
  what : (Lit.int .i64 d.what).wf = true
  a : (Lit.int .i64 d.a).wf = true
  b : (Lit.int .i64 d.b).wf = true
  m : (Lit.int .i64 d.m).wf = true
  n : (Lit.int .i64 d.n).wf = true
/-- a slice of deeds, nil let in: each cell of each -/
structure Deeds5 (w : World) (A : Option Addr) (L : List D5) : Prop where
  at_ : ∀ (k : Nat) (d : D5), L[k]? = some d → ∃ b off, A = some ⟨b, off, none⟩ ∧ b < w.heap.size ∧ ∀ (j : Nat) (v : Value), d.row[j]? = some v → w.cell? ⟨b, off + k * 5 + j, none⟩ = some v
  ok : ∀ (k : Nat) (d : D5), L[k]? = some d → d.ok
theorem Deeds5.only {w w' : World} {A : Option Addr} {L : List D5} (h : Deeds5 w A L) (ho : Only [] w w') : Deeds5 w' A L :=
  ⟨fun k d hd => by
    obtain ⟨b, off, hA, hb, hc⟩ := h.at_ k d hd
    exact ⟨b, off, hA, Nat.lt_of_lt_of_le hb ho.size, fun j v hv => (ho.cell (p := ⟨b, _, none⟩) hb (by simp)).trans (hc j v hv)⟩, h.ok⟩
set_option maxRecDepth 100000 in
theorem deeds5_of {H : Type} {enc : TypeId × Value → H} {w : World} {base : Nat} {spare : Nat → Bool} {held : Bool} {r : Reach} {b0 : Nat} {v : Value} {d : DataW H} {p : List MemPlace}
    (hv : Value.okWide Try.prog w r b0 22 v) (h : DataW.Trod enc Try.prog w base spare held 22 v d p) :
    ∃ (A : Option Addr) (L : List D5) (cap : Nat), v = .slice A L.length cap ∧ Deeds5 w A L ∧ L.length ≤ maxLen := by
  obtain ⟨A, len, cap, rfl, hlen, hrow⟩ := open_rows Try.underlying22 Try.underlying38 (by kernel_rfl) (by kernel_rfl) (by decide) hv h
  obtain ⟨L, hL, hq⟩ := list_of (n := len) (Q := fun i (d : D5) => d.ok ∧ ∃ b off, A = some ⟨b, off, none⟩ ∧ b < w.heap.size ∧ ∀ (j : Nat) (v : Value), d.row[j]? = some v → w.cell? ⟨b, off + i * 5 + j, none⟩ = some v) (by
    intro i hi
    obtain ⟨b, off, hA, hb, hc⟩ := hrow (by omega)
    obtain ⟨u0, n0, y0, c0, t0⟩ := hc i hi 0 _ rfl
    obtain ⟨u1, n1, y1, c1, t1⟩ := hc i hi 1 _ rfl
    obtain ⟨u2, n2, y2, c2, t2⟩ := hc i hi 2 _ rfl
    obtain ⟨u3, n3, y3, c3, t3⟩ := hc i hi 3 _ rfl
    obtain ⟨u4, n4, y4, c4, t4⟩ := hc i hi 4 _ rfl
    obtain ⟨x0, e0, _, w0⟩ := DataW.trod_int Try.underlying3 t0
    obtain ⟨x1, e1, _, w1⟩ := DataW.trod_int Try.underlying3 t1
    obtain ⟨x2, e2, _, w2⟩ := DataW.trod_int Try.underlying3 t2
    obtain ⟨x3, e3, _, w3⟩ := DataW.trod_int Try.underlying3 t3
    obtain ⟨x4, e4, _, w4⟩ := DataW.trod_int Try.underlying3 t4
    simp only [List.cons.injEq, and_true] at e0 e1 e2 e3 e4
    subst e0 e1 e2 e3 e4
    refine ⟨⟨x0, x1, x2, x3, x4⟩, ⟨w0, w1, w2, w3, w4⟩, b, off, hA, hb, fun j v hj => ?_⟩
    match j, hj with
    | 0, hj => cases hj; exact c0
    | 1, hj => cases hj; exact c1
    | 2, hj => cases hj; exact c2
    | 3, hj => cases hj; exact c3
    | 4, hj => cases hj; exact c4
    | j + 5, hj => simp [D5.row] at hj)
  exact ⟨A, L, cap, by rw [hL], ⟨fun k d hd => (hq k d hd).2, fun k d hd => (hq k d hd).1⟩, by rw [hL]; exact hlen⟩
end Go.Proofs.Ytlhcigpllkigdaa
