/- Descriptors on a store, and what is wanted of it, as they lie (DescHelps' loops). -/
import Derived.Test.YtgkjkmdenmighaaDescHelpsM
import Derived.Test.YtgkjkmdenmighaaDescA
namespace Go.Proofs.Ytgkjkmdenmighaa
open Go.RowKit
abbrev PtrT : TypeId := 38
abbrev CellT : TypeId := 55
structure Crew (w W : World) (pS gS gW : Nat) (AD : Option Addr) (Ps : List Nat) (Ds : List De) (s : St) (Wt : List C) : Prop where
  hs : StoreAt W WT pS gS s
  cD : Crowd W DT ET En.row 5 Ps Ds
  nD : RowN W AD PtrT ptr 1 Ps
  hw : Blk W gW CellT (flat C.row Wt)
  ho : Only [] w W
/-- blocks that are one's own, and apart -/
structure Own (w : World) (gS gW : Nat) (Ps : List Nat) : Prop where
  s : w.heap.size ≤ gS
  wn : w.heap.size ≤ gW
  ne : gW ≠ gS
  ps : ∀ p ∈ Ps, w.heap.size ≤ p
section
variable {w W : World} {pS gS gW : Nat} {AD : Option Addr} {Ps : List Nat} {Ds : List De} {s : St} {Wt : List C}
theorem Crew.only0 {W' : World} (h : Crew w W pS gS gW AD Ps Ds s Wt) (ho : Only [] W W') : Crew w W' pS gS gW AD Ps Ds s Wt :=
  ⟨h.hs.only ho (by simp) (by simp), h.cD.only0 ho, h.nD.only ho (by simp), ho.blk h.hw (by simp), h.ho.trans ho⟩
theorem Crew.get (h : Crew w W pS gS gW AD Ps Ds s Wt) {k : Nat} (hk : k < Ds.length) : ∃ p d A1 c1 gD, Ps[k]? = some p ∧ Ds[k]? = some d ∧ AD = some ⟨gD, 0, none⟩ ∧ DeskAt W p A1 c1 d ∧ W.cell? ⟨gD, k, none⟩ = some (.pointer (some ⟨p, 0, none⟩)) := by
  obtain ⟨p, d, A1, c1, hpk, hdk, hd⟩ := h.cD.get hk
  obtain ⟨gD, curD, hAD, hbD, hcD⟩ := ptr_at h.nD hpk
  exact ⟨p, d, A1, c1, gD, hpk, hdk, hAD, hd, hcD⟩
/-- one has gone a step -/
theorem Crew.step (h : Crew w W pS gS gW AD Ps Ds s Wt) (hO : Own w gS gW Ps) {k p : Nat} {A1 : Option Addr} {c1 : Nat} {d d1 : De} {s1 : St} {W' : World} (hp : Ps[k]? = some p) (hd : DeskAt W p A1 c1 d) (ho : Only [p, gS] W W') (hd1 : DeskAt W' p A1 c1 d1) (hs1 : StoreAt W' WT pS gS s1) : Crew w W' pS gS gW AD Ps (Ds.set k d1) s1 Wt := by
  refine ⟨hs1, h.cD.step ho hp hd hd1 h.hs.body (by decide) (by decide) (by decide), h.nD.only ho (fun g cur hb hm => ?_), ho.blk h.hw (fun hm => ?_), h.ho.then ho (fun x hx => .inr ?_)⟩
  · simp only [List.mem_cons, List.not_mem_nil, or_false] at hm
    rcases hm with rfl | rfl
    · exact absurd (hb.uniq hd.head).1 (by decide)
    · exact absurd (hb.uniq h.hs.body).1 (by decide)
  · simp only [List.mem_cons, List.not_mem_nil, or_false] at hm
    rcases hm with rfl | hm
    · exact absurd (h.hw.uniq hd.head).1 (by decide)
    · exact hO.ne hm
  · simp only [List.mem_cons, List.not_mem_nil, or_false] at hx
    rcases hx with rfl | rfl
    · exact hO.ps _ (List.mem_of_getElem? hp)
    · exact hO.s
/-- what is wanted has turned -/
theorem Crew.turn (h : Crew w W pS gS gW AD Ps Ds s Wt) (hO : Own w gS gW Ps) {W' : World} {Wt' : List C} (ho : Only [gW] W W') (hb : Blk W' gW CellT (flat C.row Wt')) : Crew w W' pS gS gW AD Ps Ds s Wt' := by
  refine ⟨h.hs.only ho (fun hm => ?_) (fun hm => ?_), ⟨h.cD.len, h.cD.nodup, fun k p d hp hd => ?_⟩, h.nD.only ho (fun g cur hb2 hm => ?_), hb, h.ho.then ho (fun x hx => .inr ?_)⟩
  · simp only [List.mem_cons, List.not_mem_nil, or_false] at hm
    subst hm
    exact absurd (h.hs.head.uniq h.hw).1 (by decide)
  · simp only [List.mem_cons, List.not_mem_nil, or_false] at hm
    exact hO.ne hm.symm
  · obtain ⟨A, cap, h1⟩ := h.cD.at_ k p d hp hd
    exact ⟨A, cap, h1.apart ho h.hw (by decide) (by decide)⟩
  · simp only [List.mem_cons, List.not_mem_nil, or_false] at hm
    subst hm
    exact absurd (hb2.uniq h.hw).1 (by decide)
  · simp only [List.mem_cons, List.not_mem_nil, or_false] at hx
    subst hx
    exact hO.wn
end
/-- three cells of a row of cells, written -/
theorem blk_put3 {w : World} {g : Nat} {L : List C} {k : Nat} {c : C} (h : Blk w g CellT (flat C.row L)) (hc : L[k]? = some c) (c' : C) :
    Blk (((w.setCell ⟨g, k * 3, none⟩ (.int .u64 c'.v)).setCell ⟨g, k * 3 + 1, none⟩ (.int .u32 c'.ver)).setCell ⟨g, k * 3 + 2, none⟩ (.int .i64 c'.mark)) g CellT (flat C.row (L.set k c')) := by
  have hk := (List.getElem?_eq_some_iff.1 hc).1
  have h1 := h.set_ (k * 3 + 0) (.int .u64 c'.v)
  rw [flat_set C.row_len hc (by omega) (show C.row ⟨c'.v, c.ver, c.mark⟩ = c.row.set 0 (.int .u64 c'.v) from rfl)] at h1
  have h2 := h1.set_ (k * 3 + 1) (.int .u32 c'.ver)
  rw [flat_set (a := ⟨c'.v, c.ver, c.mark⟩) C.row_len (by simp [hk]) (by omega) (show C.row ⟨c'.v, c'.ver, c.mark⟩ = (C.row ⟨c'.v, c.ver, c.mark⟩).set 1 (.int .u32 c'.ver) from rfl), List.set_set] at h2
  have h3 := h2.set_ (k * 3 + 2) (.int .i64 c'.mark)
  rw [flat_set (a := ⟨c'.v, c'.ver, c.mark⟩) C.row_len (by simp [hk]) (by omega) (show C.row c' = (C.row ⟨c'.v, c'.ver, c.mark⟩).set 2 (.int .i64 c'.mark) from rfl), List.set_set] at h3
  exact h3
end Go.Proofs.Ytgkjkmdenmighaa
