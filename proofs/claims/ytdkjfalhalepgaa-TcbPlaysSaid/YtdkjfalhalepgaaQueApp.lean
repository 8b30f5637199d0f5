/- append of a list of numbers that lie at an address, onto numbers of one's own. No dump is read here. -/
import Derived.Test.YtdkjfalhalepgaaJ17
namespace Go.Proofs.Ytdkjfalhalepgaa
open Go.RowKit
section
variable {P : Program} (w : World)
theorem wp_append_at {o : Oper} {a : Act} {K : Act → World → Prop} {Q : Exit → Act → World → Prop} (s x : Operand) (t : TypeId)
    (ho : o.op = .call { callee := .builtin .append, args := #[s, x], argTypes := #[t, t] })
    (base : Nat) (e : TypeId) (i : TypeInfo) (z : Value) (ht : P.underlying t = some (.slice e)) (hi : P.info? e = some i) (hz : i.zero = some z) (hsize : i.size = 1) (hby : i.bytes = 8) (hzs : z.cells.size = 1)
    (E m0 : Nat) (xs : List Value) (hs : a.eval s = .slice (some ⟨E, 0, none⟩) m0 m0) (hown : w.ownsRow base e 1 (.slice (some ⟨E, 0, none⟩) m0 m0) m0 xs)
    (ad : Addr) (L : List Int) (cp : Nat) (hx : a.eval x = .slice (some ad) L.length cp) (hL : ∀ (j : Nat) (y : Int), L[j]? = some y → w.cell? (ad.add j) = some (.int .i64 y)) (hl : L.length ≤ 1000) (hm0 : m0 ≤ 1000) (hbase : base ≤ w.heap.size)
    (h : ∀ v' w', w'.ownsRow base e 1 v' (m0 + L.length) (xs ++ L.flatMap irow') → w.grownBy w' (some E) → K (a.put o.dst v') w') : o.wp P a w K Q := by
  have hlen : (L.flatMap irow').length = L.length * 1 := by
    have := flat_size (f := irow') (L := L) irow'_len
    simpa [flat] using this
  have hcell : ∀ j u, (L.flatMap irow')[j]? = some u → w.cell? (ad.add j) = some u := fun j u hj => by
    have hjl := (List.getElem?_eq_some_iff.1 hj).1
    rw [hlen, Nat.mul_one] at hjl
    obtain ⟨y, hy⟩ : ∃ y, L[j]? = some y := ⟨_, List.getElem?_eq_getElem hjl⟩
    have e2 := flat_get (f := irow') (L := L) irow'_len j 0 (by omega)
    rw [hy] at e2
    have e3 : (L.flatMap irow')[j]? = some (.int .i64 y) := by simpa [flat, irow'] using e2
    rw [e3] at hj
    cases hj
    exact hL j y hy
  refine wp_append_own w s x t ho base e i z 1 8 ht hi hz hsize hby hzs (by omega) _ m0 xs hs hown ad L.length cp (L.flatMap irow') hx hlen hcell (fun u hu => ?_) (by unfold maxLen; omega) (by omega) hbase ?_
  · obtain ⟨y, -, hy⟩ := List.mem_flatMap.1 hu
    simp only [irow', List.mem_cons, List.not_mem_nil, or_false] at hy
    subst hy
    rfl
  · intro v' w' h1 h2 _
    exact h v' w' h1 h2
theorem step_append_at {ops : Array Oper} {o : Oper} {a : Act} {K : Act → World → Prop} {Q : Exit → Act → World → Prop} {B : Prop} (hgd : o.guard = none) (s x : Operand) (t : TypeId)
    (ho : o.op = .call { callee := .builtin .append, args := #[s, x], argTypes := #[t, t] })
    (base : Nat) (e : TypeId) (i : TypeInfo) (z : Value) (ht : P.underlying t = some (.slice e)) (hi : P.info? e = some i) (hz : i.zero = some z) (hsize : i.size = 1) (hby : i.bytes = 8) (hzs : z.cells.size = 1)
    (E m0 : Nat) (xs : List Value) (hs : a.eval s = .slice (some ⟨E, 0, none⟩) m0 m0) (hown : w.ownsRow base e 1 (.slice (some ⟨E, 0, none⟩) m0 m0) m0 xs)
    (ad : Addr) (L : List Int) (cp : Nat) (hx : a.eval x = .slice (some ad) L.length cp) (hL : ∀ (j : Nat) (y : Int), L[j]? = some y → w.cell? (ad.add j) = some (.int .i64 y)) (hl : L.length ≤ 1000) (hm0 : m0 ≤ 1000) (hbase : base ≤ w.heap.size)
    (h : ∀ v' w', w'.ownsRow base e 1 v' (m0 + L.length) (xs ++ L.flatMap irow') → w.grownBy w' (some E) → K (a.put o.dst v') w') :
    if Region.wanted o (yielded ops a.tmps) = true then Oper.wp P o a w K Q else B := by
  have hw : Region.wanted o (yielded ops a.tmps) = true := by simp [Region.wanted, hgd]
  rw [if_pos hw]
  exact wp_append_at w s x t ho base e i z ht hi hz hsize hby hzs E m0 xs hs hown ad L cp hx hL hl hm0 hbase h
end
end Go.Proofs.Ytdkjfalhalepgaa
