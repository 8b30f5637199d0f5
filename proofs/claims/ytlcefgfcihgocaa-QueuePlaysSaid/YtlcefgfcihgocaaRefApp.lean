/- append of a list of numbers, nil let in, onto numbers of one's own: in a plain region, and as a step of a region that draws. No dump is read here. -/
import Derived.Test.YtlcefgfcihgocaaRefStM
import Derived.Deep.AppendSrc
import Derived.Deep.AppendLies
import Derived.Deep.RegionLaw
namespace Go.Proofs.Ytlcefgfcihgocaa
open Go.RowKit
theorem addr_plus {b off j : Nat} : (⟨b, off, none⟩ : Addr).add j = ⟨b, off + j, none⟩ := by
  unfold Addr.add
  split
  · next h => simp [h]
  · rfl
section
variable {P : Program} (w : World)
theorem wp_append_nums {o : Oper} {a : Act} {K : Act → World → Prop} {Q : Exit → Act → World → Prop} (s x : Operand) (t : TypeId)
    (ho : o.op = .call { callee := .builtin .append, args := #[s, x], argTypes := #[t, t] })
    (base : Nat) (e ti : TypeId) (i : TypeInfo) (z : Value) (ht : P.underlying t = some (.slice e)) (hi : P.info? e = some i) (hz : i.zero = some z) (hsize : i.size = 1) (hby : i.bytes = 8) (hzs : z.cells.size = 1)
    (E m0 : Nat) (xs : List Value) (hs : a.eval s = .slice (some ⟨E, 0, none⟩) m0 m0) (hown : w.ownsRow base e 1 (.slice (some ⟨E, 0, none⟩) m0 m0) m0 xs)
    (A : Option Addr) (L : List Int) (cp : Nat) (hx : a.eval x = .slice A L.length cp) (hL : RowN w A ti irow' 1 L) (hl : L.length ≤ 1000) (hm0 : m0 ≤ 1000) (hbase : base ≤ w.heap.size)
    (h : ∀ v' w', w'.ownsRow base e 1 v' (m0 + L.length) (xs ++ L.flatMap irow') → w.grownBy w' (some E) → K (a.put o.dst v') w') : o.wp P a w K Q := by
  cases A with
  | some ad =>
    have hlen : (L.flatMap irow').length = L.length * 1 := by
      have := flat_size (f := irow') (L := L) irow'_len
      simpa [flat] using this
    have hcell : ∀ j u, (L.flatMap irow')[j]? = some u → w.cell? (ad.add j) = some u := fun j u hj => by
      have hjl := (List.getElem?_eq_some_iff.1 hj).1
      rw [hlen, Nat.mul_one] at hjl
      obtain ⟨y, hy⟩ : ∃ y, L[j]? = some y := ⟨_, List.getElem?_eq_getElem hjl⟩
      obtain ⟨g, cur, e1, hb, hc⟩ := hL j y hy
      injection e1 with e1
      subst e1
      have e2 := flat_get (f := irow') (L := L) irow'_len j 0 (by omega)
      rw [hy] at e2
      have e3 : (L.flatMap irow')[j]? = some (.int .i64 y) := by simpa [flat, irow'] using e2
      rw [e3] at hj
      cases hj
      rw [addr_plus, Nat.zero_add, hb.cell]
      have := hc 0 _ rfl
      simpa using this
    refine wp_append_own w s x t ho base e i z 1 8 ht hi hz hsize hby hzs (by omega) _ m0 xs hs hown ad L.length cp (L.flatMap irow') hx hlen hcell (fun u hu => ?_) (by unfold maxLen; omega) (by omega) hbase ?_
    · obtain ⟨y, -, hy⟩ := List.mem_flatMap.1 hu
      simp only [irow', List.mem_cons, List.not_mem_nil, or_false] at hy
      subst hy
      rfl
    · intro v' w' h1 h2 _
      exact h v' w' h1 h2
  | none =>
    obtain rfl : L = [] := by
      cases L with
      | nil => rfl
      | cons y L => obtain ⟨g, cur, e1, _⟩ := hL 0 y rfl; cases e1
    have hrun := run_append_room_src w t t o.type e i ht hi E 0 m0 m0 (.slice none 0 cp) 0 [] (by rw [hsize]; exact Src.ofNil w ht cp) (Nat.le_refl _) (fun j hj => by simp at hj) (fun j hj => by simp at hj)
    unfold Oper.wp execOp
    have hx' : a.eval x = .slice none 0 cp := hx
    simp [ho, resolve, invoke, builtin, hs, hx', hrun]
    exact h _ _ (by simpa [World.setCells] using hown) ⟨rfl, rfl, rfl, Nat.le_refl _, fun _ _ _ => rfl⟩
theorem step_append_nums {ops : Array Oper} {o : Oper} {a : Act} {K : Act → World → Prop} {Q : Exit → Act → World → Prop} {B : Prop} (hgd : o.guard = none) (s x : Operand) (t : TypeId)
    (ho : o.op = .call { callee := .builtin .append, args := #[s, x], argTypes := #[t, t] })
    (base : Nat) (e ti : TypeId) (i : TypeInfo) (z : Value) (ht : P.underlying t = some (.slice e)) (hi : P.info? e = some i) (hz : i.zero = some z) (hsize : i.size = 1) (hby : i.bytes = 8) (hzs : z.cells.size = 1)
    (E m0 : Nat) (xs : List Value) (hs : a.eval s = .slice (some ⟨E, 0, none⟩) m0 m0) (hown : w.ownsRow base e 1 (.slice (some ⟨E, 0, none⟩) m0 m0) m0 xs)
    (A : Option Addr) (L : List Int) (cp : Nat) (hx : a.eval x = .slice A L.length cp) (hL : RowN w A ti irow' 1 L) (hl : L.length ≤ 1000) (hm0 : m0 ≤ 1000) (hbase : base ≤ w.heap.size)
    (h : ∀ v' w', w'.ownsRow base e 1 v' (m0 + L.length) (xs ++ L.flatMap irow') → w.grownBy w' (some E) → K (a.put o.dst v') w') :
    if Region.wanted o (yielded ops a.tmps) = true then Oper.wp P o a w K Q else B := by
  have hw : Region.wanted o (yielded ops a.tmps) = true := by simp [Region.wanted, hgd]
  rw [if_pos hw]
  exact wp_append_nums w s x t ho base e ti i z ht hi hz hsize hby hzs E m0 xs hs hown A L cp hx hL hl hm0 hbase h
end
end Go.Proofs.Ytlcefgfcihgocaa
