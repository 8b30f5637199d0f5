/- Package queue's functions as mathematics, of any view (layers 14 and up), and what they come to on plain words that tell queues. No dump is read here. -/
import Derived.Test.YtihipcbhfjpgbaaQueM
namespace Go.Proofs.Ytihipcbhfjpgbaa
open Go.RowKit
def qnextP (i : Int) : Vp Int := (refP i 2).bind fun r => .ret (if r.2 = true then r.1 + 1 else 0)
def qleaveP (o a t : Int) : Vp Unit :=
  (qnextP t).bind fun n => (putP a 2 n).bind fun _ => (putP t 2 0).bind fun _ => (qnextP a).bind fun m => if m = 0 then putP o 3 (if a = o then 0 else a + 1) else .ret ()
section
variable {σ : Type} {M : Mach σ} {s s1 : σ} {L L' : List Int} {q : Int → List Int} {Z Y : Int → Prop} {o t i a : Int} {l r : List Int} {n : Nat}
/-- as many as there may be -/
theorem nodup_few : ∀ (n : Nat) (l : List Int), l.Nodup → (∀ x, x ∈ l → 0 ≤ x ∧ x < (n : Int)) → l.length ≤ n := by
  intro n
  induction n with
  | zero =>
    intro l _ h
    cases l with
    | nil => exact Nat.le_refl 0
    | cons x l => have := h x List.mem_cons_self; omega
  | succ n ih =>
    intro l hn h
    by_cases hm : (n : Int) ∈ l
    · have h1 := ih (l.erase (n : Int)) (hn.erase _) (fun x hx => by
        have h2 := (hn.mem_erase_iff).1 hx
        have := h x h2.2
        have := h2.1
        omega)
      rw [List.length_erase_of_mem hm] at h1
      omega
    · have := ih l hn (fun x hx => by
        have h2 := h x hx
        have : x ≠ n := fun e => hm (e ▸ hx)
        omega)
      omega
theorem QW.few (h : QW L q Z Y) (o : Int) : (q o).length ≤ 32 := nodup_few 32 _ (h.nd o) (fun x hx => h.rng o x hx)
theorem qput_at {f v j : Int} (hl : L.length = 738) (ho : 0 ≤ o ∧ o < 32) (hf : 0 ≤ f ∧ f < 8) (hv : 0 ≤ v) : (putL L o f v).length = 738 ∧ atL (putL L o f v) j = if j = qw o f then v else atL L j := by
  unfold putL
  rw [if_pos ⟨objB_yes.2 ⟨ho.1, ho.2, hf.1, hf.2⟩, hv⟩, setL_length, atL_setL]
  have e : hasB L.length (480 + 8 * o + f) = true := hasB_yes.2 ⟨by omega, by omega⟩
  refine ⟨hl, ?_⟩
  by_cases h : j = qw o f
  · rw [if_pos h, if_pos ⟨e, h⟩]
  · rw [if_neg h, if_neg (fun h2 => h h2.2)]
theorem qnextP_plain (h : nxL L i = 0 ∨ ((0 ≤ i ∧ i < 32) ∧ 1 ≤ nxL L i ∧ nxL L i ≤ 32)) : (qnextP i).run machP L = (nxL L i, L) := by
  unfold qnextP
  rcases h with h | ⟨hi, h1, h2⟩
  · have e : (refP i 2).run machP L = ((0, false), L) := by rw [refP_plain, refL_none h]
    rw [Vp.run_bind_is e, h]
    rfl
  · have e : (refP i 2).run machP L = ((nxL L i - 1, true), L) := by rw [refP_plain, refL_some hi ⟨by omega, by omega⟩ (t := nxL L i - 1) ⟨by omega, by omega⟩ (by show nxL L i = _; omega)]
    rw [Vp.run_bind_is e, Vp.run_ret, if_pos rfl]
    rw [show nxL L i - 1 + 1 = nxL L i by omega]
theorem QW.leaves {p b : List Int} (h : QW L q Z Y) (ho : Z o) (hq : q o = p ++ t :: b) : ∃ L', (qleaveP o (lst o p) t).run machP L = ((), L') ∧ L'.length = 738 ∧
    ∀ j, atL L' j = if j = qw t 2 then 0 else if j = qw (lst o p) 2 then atL L (qw t 2) else if j = qw o 3 then lsW (p ++ b) else atL L j := by
  obtain ⟨lr, lm⟩ := h.lst_rng (b := t :: b) ho hq
  have ho' := h.zr o ho
  have htq : t ∈ q o := by rw [hq]; simp
  have ht := h.rng o t htq
  have hnd := h.nd1 ho
  rw [hq] at hnd
  have hlt : lst o p ≠ t := by
    rw [← List.cons_append] at hnd
    exact (List.nodup_append.1 hnd).2.2 (lst o p) (List.mem_cons.2 (lst_mem p o)) t List.mem_cons_self
  have hc := h.ch o ho
  rw [hq] at hc
  obtain ⟨hs, hc1, hc2⟩ := (Ch_append p o).1 hc
  have hlen := h.len
  have hnt : nxL L t = 0 ∧ b = [] ∨ (1 ≤ nxL L t ∧ nxL L t ≤ 32) ∧ b ≠ [] := by
    cases b with
    | nil => exact .inl ⟨hc2, rfl⟩
    | cons x b =>
      have e : nxL L t = x + 1 := hc2.1
      have := h.rng o x (by rw [hq]; simp)
      exact .inr ⟨by omega, by simp⟩
  have e1 := qnextP_plain (L := L) (i := t) (hnt.elim (fun e => .inl e.1) (fun e => .inr ⟨ht, e.1⟩))
  have hv : 0 ≤ nxL L t := by rcases hnt with e | e <;> omega
  have e2 : (putP (lst o p) 2 (nxL L t)).run machP L = ((), putL L (lst o p) 2 (nxL L t)) := putP_plain
  have l2 := (qput_at (j := 0) hlen lr (f := 2) ⟨by omega, by omega⟩ hv).1
  have a2 := fun j => (qput_at (j := j) hlen lr (f := 2) ⟨by omega, by omega⟩ hv).2
  generalize putL L (lst o p) 2 (nxL L t) = L2 at e2 l2 a2
  have e3 : (putP t 2 0).run machP L2 = ((), putL L2 t 2 0) := putP_plain
  have l3 := (qput_at (j := 0) l2 ht (f := 2) (v := 0) ⟨by omega, by omega⟩ (by omega)).1
  have a3 := fun j => (qput_at (j := j) l2 ht (f := 2) (v := 0) ⟨by omega, by omega⟩ (by omega)).2
  generalize putL L2 t 2 0 = L3 at e3 l3 a3
  have n3 : nxL L3 (lst o p) = nxL L t := by
    show atL L3 _ = _
    rw [a3, if_neg (by unfold qw; omega), a2, if_pos rfl]
  have e4 := qnextP_plain (L := L3) (i := lst o p) (by rw [n3]; exact hnt.elim (fun e => .inl e.1) (fun e => .inr ⟨lr, e.1⟩))
  rw [n3] at e4
  unfold qleaveP
  rw [Vp.run_bind_is e1, Vp.run_bind_is e2, Vp.run_bind_is e3, Vp.run_bind_is e4]
  rcases hnt with ⟨hn0, hb⟩ | ⟨hn1, hb⟩
  · subst hb
    have hw : (if lst o p = o then 0 else lst o p + 1) = lsW p := by
      cases p with
      | nil => exact if_pos rfl
      | cons x p =>
        have : lst x p ∈ x :: p := by
          rcases lst_mem p x with e | e
          · rw [e]; exact List.mem_cons_self
          · exact List.mem_cons_of_mem _ e
        refine if_neg (fun e => h.top o o ho ?_)
        have e : lst x p = o := e
        rw [hq, ← e]
        exact List.mem_append_left _ this
    rw [if_pos hn0, hw]
    have hv4 : 0 ≤ lsW p := by rw [← hw]; split <;> omega
    have l4 := (qput_at (j := 0) l3 ho' (f := 3) ⟨by omega, by omega⟩ hv4).1
    have a4 := fun j => (qput_at (j := j) l3 ho' (f := 3) ⟨by omega, by omega⟩ hv4).2
    refine ⟨putL L3 o 3 (lsW p), putP_plain, l4, fun j => ?_⟩
    generalize putL L3 o 3 (lsW p) = L4 at l4 a4 ⊢
    rw [a4, a3, a2, List.append_nil]
    show (if j = qw o 3 then _ else _) = if j = qw t 2 then 0 else if j = qw (lst o p) 2 then nxL L t else _
    by_cases h3 : j = qw o 3
    · rw [if_pos h3, if_neg (by unfold qw at h3 ⊢; omega), if_neg (by unfold qw at h3 ⊢; omega), if_pos h3]
    · rw [if_neg h3, if_neg h3]
  · rw [if_neg (by omega)]
    refine ⟨L3, rfl, l3, fun j => ?_⟩
    have h9 := h.ls o ho
    rw [hq, lsW_drop hb] at h9
    rw [a3, a2]
    show (if j = qw t 2 then _ else _) = if j = qw t 2 then 0 else if j = qw (lst o p) 2 then nxL L t else _
    by_cases h3 : j = qw o 3
    · rw [if_neg (by unfold qw at h3 ⊢; omega), if_neg (by unfold qw at h3 ⊢; omega), if_neg (by unfold qw at h3 ⊢; omega), if_neg (by unfold qw at h3 ⊢; omega), if_pos h3, h3, h9]
    · rw [if_neg h3]
end
end Go.Proofs.Ytihipcbhfjpgbaa
