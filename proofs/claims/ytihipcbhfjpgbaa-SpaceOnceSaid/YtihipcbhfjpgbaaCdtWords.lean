/- The document's words of a state without capabilities and objects (layer 10) tell its tree: as mathematics. -/
import Derived.Test.YtihipcbhfjpgbaaCdtRepB
import Derived.Test.YtihipcbhfjpgbaaJ5
namespace Go.Proofs.Ytihipcbhfjpgbaa
open Go.RowKit
section
variable {S : RSt} {i j k x : Int} {l : List Int}
theorem after_get (hn : l.Nodup) {m : Nat} (h : l[m]? = some x) : after x l = if m + 1 < l.length then l.getD (m + 1) 0 + 1 else 0 := by
  induction l generalizing m with
  | nil => simp at h
  | cons y l ih =>
    obtain ⟨hy, hn⟩ := List.nodup_cons.1 hn
    rw [after_cons]
    cases m with
    | zero =>
      simp only [List.getElem?_cons_zero, Option.some.injEq] at h
      rw [if_pos h]
      cases l with
      | nil => simp [headK]
      | cons z l => simp [headK]
    | succ m =>
      simp only [List.getElem?_cons_succ] at h
      have hm : x ∈ l := List.mem_of_getElem? h
      rw [if_neg (fun e : y = x => hy (by rw [e]; exact hm)), ih hn h]
      simp
theorem before_get (hx : 0 ≤ x) (hn : l.Nodup) {m : Nat} (h : l[m]? = some x) : before x l = if m = 0 then 0 else l.getD (m - 1) 0 + 1 := by
  induction l generalizing m with
  | nil => simp at h
  | cons y l ih =>
    obtain ⟨hy, hn⟩ := List.nodup_cons.1 hn
    rw [before_cons hx]
    cases m with
    | zero =>
      simp only [List.getElem?_cons_zero, Option.some.injEq] at h
      subst h
      rw [if_neg (fun e => hy (headK_mem e hx)), before_not hx hy]
      simp
    | succ m =>
      simp only [List.getElem?_cons_succ] at h
      cases m with
      | zero =>
        cases l with
        | nil => simp at h
        | cons z l =>
          simp only [List.getElem?_cons_zero, Option.some.injEq] at h
          subst h
          rw [headK_cons, if_pos rfl]
          simp
      | succ m =>
        have hne : ¬ headK l = x + 1 := fun e => by
          cases l with
          | nil => simp at h
          | cons z l =>
            rw [headK_cons] at e
            obtain rfl : z = x := by omega
            simp only [List.getElem?_cons_succ] at h
            exact (List.nodup_cons.1 hn).1 (List.mem_of_getElem? h)
        rw [if_neg hne, ih hn h]
        simp
theorem kidW_mem {i : Nat} {m : Nat} {p : Int × Int} (hp : p ∈ kidW i l m) (hm : m < l.length) : (m = 0 ∧ p = (5 * (i : Int) + 2, l.getD 0 0 + 1)) ∨ (m ≠ 0 ∧ p = (5 * l.getD m 0 + 4, l.getD (m - 1) 0 + 1)) ∨ (m + 1 < l.length ∧ p = (5 * l.getD m 0 + 3, l.getD (m + 1) 0 + 1)) := by
  unfold kidW at hp
  rcases List.mem_append.1 hp with h | h
  · split at h
    · next e => subst e; simp only [List.mem_singleton] at h; exact .inl ⟨rfl, h⟩
    · next e => simp only [List.mem_singleton] at h; exact .inr (.inl ⟨e, h⟩)
  · split at h
    · next e => simp only [List.mem_singleton] at h; exact .inr (.inr ⟨e, h⟩)
    · simp at h
theorem slotsW_mem {p : Int × Int} : p ∈ (List.range 96).flatMap (slotW S) ↔ ∃ i : Nat, i < 96 ∧ (p = (5 * (i : Int), (S.cap i).word) ∨ p = (5 * (i : Int) + 1, S.par i + 1) ∨ ∃ m, m < (S.kids i).length ∧ p ∈ kidW i (S.kids i) m) := by
  simp only [List.mem_flatMap, List.mem_range, slotW, List.mem_append, List.mem_cons, List.not_mem_nil, or_false]
  constructor
  · rintro ⟨i, hi, (h | h) | ⟨m, hm, h⟩⟩
    · exact ⟨i, hi, .inl h⟩
    · exact ⟨i, hi, .inr (.inl h)⟩
    · exact ⟨i, hi, .inr (.inr ⟨m, hm, h⟩)⟩
  · rintro ⟨i, hi, h | h | ⟨m, hm, h⟩⟩
    · exact ⟨i, hi, .inl (.inl h)⟩
    · exact ⟨i, hi, .inl (.inr h)⟩
    · exact ⟨i, hi, .inr ⟨m, hm, h⟩⟩
theorem get_of {m : Nat} (h : m < l.length) : l[m]? = some (l.getD m 0) := by
  rw [List.getD_eq_getElem?_getD, List.getElem?_eq_getElem h]
  rfl
theorem slots_at {v : Int} (hj : 0 ≤ j ∧ j < 738) (h1 : ∀ p, p ∈ (List.range 96).flatMap (slotW S) → p.1 = j → p.2 = v) (h2 : (∃ p, p ∈ (List.range 96).flatMap (slotW S) ∧ p.1 = j) ∨ v = 0) : atL (applyW ((List.range 96).flatMap (slotW S)) zeros) j = v := by
  refine applyW_at _ _ (by rw [zeros_len]; exact hasB_yes.2 hj) h1 ?_
  rcases h2 with h | h
  · exact .inl h
  · exact .inr (by rw [zeros_at, h])
theorem kid_par (t : Tree S.par S.kids) {i : Nat} (hi : i < 96) {m : Nat} (hm : m < (S.kids i).length) : InS ((S.kids i).getD m 0) ∧ S.par ((S.kids i).getD m 0) = i :=
  (t.kid i _ ⟨by omega, by omega⟩).1 (List.mem_of_getElem? (get_of hm))
end
end Go.Proofs.Ytihipcbhfjpgbaa
