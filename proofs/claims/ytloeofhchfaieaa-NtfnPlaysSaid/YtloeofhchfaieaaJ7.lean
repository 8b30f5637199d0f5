/- The document's words of a state without capabilities and objects (layer 10) tell its tree: as mathematics. -/
import Derived.Test.YtloeofhchfaieaaCdtRepB
import Derived.Test.YtloeofhchfaieaaJ5
namespace Go.Proofs.Ytloeofhchfaieaa
open Go.RowKit
section
variable {S : RSt} {i j k x : Int} {l : List Int}
theorem after_get (hn : l.Nodup) {m : Nat} (h : l[m]? = some x) : after x l = if m + 1 < l.length then l.getD (m + 1) 0 + 1 else 0 := by
  induction l generalizing m with
  | nil => simp at h
  | cons y l ih =>
    obtain ⟨hy, hn⟩ := List.nodup_cons.1 hn
    rw [after_cons]
    cases m with
    | zero =>
      simp only [List.getElem?_cons_zero, Option.some.injEq] at h
      rw [if_pos h]
      cases l with
      | nil => simp [headK]
      | cons z l => simp [headK]
    | succ m =>
      simp only [List.getElem?_cons_succ] at h
      have hm : x ∈ l := List.mem_of_getElem? h
      rw [if_neg (fun e : y = x => hy (by rw [e]; exact hm)), ih hn h]
      simp
theorem before_get (hx : 0 ≤ x) (hn : l.Nodup) {m : Nat} (h : l[m]? = some x) : before x l = if m = 0 then 0 else l.getD (m - 1) 0 + 1 := by
  induction l generalizing m with
  | nil => simp at h
  | cons y l ih =>
    obtain ⟨hy, hn⟩ := List.nodup_cons.1 hn
    rw [before_cons hx]
    cases m with
    | zero =>
      simp only [List.getElem?_cons_zero, Option.some.injEq] at h
      subst h
      rw [if_neg (fun e => hy (headK_mem e hx)), before_not hx hy]
      simp
    | succ m =>
      simp only [List.getElem?_cons_succ] at h
      cases m with
      | zero =>
        cases l with
        | nil => simp at h
        | cons z l =>
          simp only [List.getElem?_cons_zero, Option.some.injEq] at h
          subst h
          rw [headK_cons, if_pos rfl]
          simp
      | succ m =>
        have hne : ¬ headK l = x + 1 := fun e => by
          cases l with
          | nil => simp at h
          | cons z l =>
            rw [headK_cons] at e
            obtain rfl : z = x := by omega
            simp only [List.getElem?_cons_succ] at h
            exact (List.nodup_cons.1 hn).1 (List.mem_of_getElem? h)
        rw [if_neg hne, ih hn h]
        simp
theorem kidW_mem {i : Nat} {m : Nat} {p : Int × Int} (hp : p ∈ kidW i l m) (hm : m < l.length) : (m = 0 ∧ p = (5 * (i : Int) + 2, l.getD 0 0 + 1)) ∨ (m ≠ 0 ∧ p = (5 * l.getD m 0 + 4, l.getD (m - 1) 0 + 1)) ∨ (m + 1 < l.length ∧ p = (5 * l.getD m 0 + 3, l.getD (m + 1) 0 + 1)) := by
  unfold kidW at hp
  rcases List.mem_append.1 hp with h | h
  · split at h
    · next e => subst e; simp only [List.mem_singleton] at h; exact .inl ⟨rfl, h⟩
    · next e => simp only [List.mem_singleton] at h; exact .inr (.inl ⟨e, h⟩)
  · split at h
    · next e => simp only [List.mem_singleton] at h; exact .inr (.inr ⟨e, h⟩)
    · simp at h
theorem slotsW_mem {p : Int × Int} : p ∈ (List.range 96).flatMap (slotW S) ↔ ∃ i : Nat, i < 96 ∧ (p = (5 * (i : Int), (S.cap i).word) ∨ p = (5 * (i : Int) + 1, S.par i + 1) ∨ ∃ m, m < (S.kids i).length ∧ p ∈ kidW i (S.kids i) m) := by
  simp only [List.mem_flatMap, List.mem_range, slotW, List.mem_append, List.mem_cons, List.not_mem_nil, or_false]
  constructor
  · rintro ⟨i, hi, (h | h) | ⟨m, hm, h⟩⟩
    · exact ⟨i, hi, .inl h⟩
    · exact ⟨i, hi, .inr (.inl h)⟩
    · exact ⟨i, hi, .inr (.inr ⟨m, hm, h⟩)⟩
  · rintro ⟨i, hi, h | h | ⟨m, hm, h⟩⟩
    · exact ⟨i, hi, .inl (.inl h)⟩
    · exact ⟨i, hi, .inl (.inr h)⟩
    · exact ⟨i, hi, .inr ⟨m, hm, h⟩⟩
theorem get_of {m : Nat} (h : m < l.length) : l[m]? = some (l.getD m 0) := by
  rw [List.getD_eq_getElem?_getD, List.getElem?_eq_getElem h]
  rfl
theorem slots_at {v : Int} (hj : 0 ≤ j ∧ j < 738) (h1 : ∀ p, p ∈ (List.range 96).flatMap (slotW S) → p.1 = j → p.2 = v) (h2 : (∃ p, p ∈ (List.range 96).flatMap (slotW S) ∧ p.1 = j) ∨ v = 0) : atL (applyW ((List.range 96).flatMap (slotW S)) zeros) j = v := by
  refine applyW_at _ _ (by rw [zeros_len]; exact hasB_yes.2 hj) h1 ?_
  rcases h2 with h | h
  · exact .inl h
  · exact .inr (by rw [zeros_at, h])
theorem kid_par (t : Tree S.par S.kids) {i : Nat} (hi : i < 96) {m : Nat} (hm : m < (S.kids i).length) : InS ((S.kids i).getD m 0) ∧ S.par ((S.kids i).getD m 0) = i :=
  (t.kid i _ ⟨by omega, by omega⟩).1 (List.mem_of_getElem? (get_of hm))
end
end Go.Proofs.Ytloeofhchfaieaa
/- The document's words of slots, word by word: of any state whose slots are a tree (layers 11 to 21), as mathematics. -/
namespace Go.Proofs.Ytloeofhchfaieaa
open Go.RowKit
/-- what Words puts for slots -/
def slotsL (S : RSt) : List Int := applyW ((List.range 96).flatMap (slotW S)) zeros
section
variable {S : RSt} {i j k x : Int} {l : List Int}
theorem slotsL_rep (t : Tree S.par S.kids) : Rep (slotsL S) S.par S.kids ∧ (∀ i, InS i → atL (slotsL S) (5 * i) = (S.cap i).word) ∧ ∀ j, 480 ≤ j → atL (slotsL S) j = 0 := by
  have hlen : (slotsL S).length = 738 := by unfold slotsL; rw [applyW_length, zeros_len]
  refine ⟨⟨hlen, fun i hi => ?_, fun i hi => ?_, fun i hi => ?_, fun i hi => ?_⟩, fun i hi => ?_, fun j hj => ?_⟩
  · obtain ⟨n, rfl⟩ : ∃ n : Nat, i = n := ⟨i.toNat, by have := hi.1; omega⟩
    have hn : n < 96 := by have := hi.2; omega
    unfold slotsL
    refine slots_at ⟨by omega, by omega⟩ (fun p hp e => ?_) (.inl ⟨(5 * (n : Int) + 1, S.par n + 1), slotsW_mem.2 ⟨n, hn, .inr (.inl rfl)⟩, rfl⟩)
    obtain ⟨i, hi2, rfl | rfl | ⟨m, hm, hk⟩⟩ := slotsW_mem.1 hp
    · simp only at e; omega
    · simp only at e ⊢
      obtain rfl : i = n := by omega
      rfl
    · rcases kidW_mem hk hm with ⟨-, rfl⟩ | ⟨-, rfl⟩ | ⟨-, rfl⟩ <;> (simp only at e; omega)
  · obtain ⟨n, rfl⟩ : ∃ n : Nat, i = n := ⟨i.toNat, by have := hi.1; omega⟩
    have hn : n < 96 := by have := hi.2; omega
    unfold slotsL
    refine slots_at ⟨by omega, by omega⟩ (fun p hp e => ?_) ?_
    · obtain ⟨i, hi2, rfl | rfl | ⟨m, hm, hk⟩⟩ := slotsW_mem.1 hp
      · simp only at e; omega
      · simp only at e; omega
      · rcases kidW_mem hk hm with ⟨rfl, rfl⟩ | ⟨-, rfl⟩ | ⟨-, rfl⟩
        · simp only at e ⊢
          obtain rfl : i = n := by omega
          cases hl : S.kids i with
          | nil => rw [hl] at hm; simp at hm
          | cons y l => simp [headK]
        · simp only at e; omega
        · simp only at e; omega
    · cases hl : S.kids n with
      | nil => exact .inr rfl
      | cons y l =>
        left
        refine ⟨(5 * (n : Int) + 2, (S.kids n).getD 0 0 + 1), slotsW_mem.2 ⟨n, hn, .inr (.inr ⟨0, by rw [hl]; simp, ?_⟩)⟩, rfl⟩
        simp [kidW]
  · have hi0 := hi.1
    have hi9 := hi.2
    unfold slotsL
    refine slots_at ⟨by omega, by omega⟩ (fun p hp e => ?_) ?_
    · obtain ⟨q, hq, rfl | rfl | ⟨m, hm, hk⟩⟩ := slotsW_mem.1 hp
      · simp only at e; omega
      · simp only at e; omega
      · have hkp := kid_par t hq hm
        rcases kidW_mem hk hm with ⟨-, rfl⟩ | ⟨-, rfl⟩ | ⟨hm1, rfl⟩
        · simp only at e; omega
        · simp only at e; omega
        · simp only at e ⊢
          have ei : (S.kids q).getD m 0 = i := by omega
          rw [ei] at hkp
          rw [nxt, hkp.2, if_neg (by omega), after_get (t.nodup q ⟨by omega, by omega⟩) (by rw [get_of hm, ei]), if_pos hm1]
    · by_cases hpi : S.par i = -1
      · exact .inr (by rw [nxt, if_pos hpi])
      · obtain ⟨hp, hm⟩ := t.mem hi hpi
        obtain ⟨q, hq⟩ : ∃ q : Nat, S.par i = q := ⟨(S.par i).toNat, by have := hp.1; omega⟩
        obtain ⟨m, hm⟩ := List.mem_iff_getElem?.1 hm
        have hml := (List.getElem?_eq_some_iff.1 hm).1
        have hq9 : q < 96 := by have := hp.2; omega
        by_cases h1 : m + 1 < (S.kids (S.par i)).length
        · left
          rw [hq] at hm hml h1
          have e1 : (S.kids q).getD m 0 = i := by rw [List.getD_eq_getElem?_getD, hm]; rfl
          refine ⟨(5 * (S.kids q).getD m 0 + 3, (S.kids q).getD (m + 1) 0 + 1), slotsW_mem.2 ⟨q, hq9, .inr (.inr ⟨m, hml, ?_⟩)⟩, by simp only [e1]⟩
          unfold kidW
          rw [if_pos h1]
          simp
        · exact .inr (by rw [nxt, if_neg hpi, after_get (t.nodup _ hp) hm, if_neg h1])
  · have hi0 := hi.1
    have hi9 := hi.2
    unfold slotsL
    refine slots_at ⟨by omega, by omega⟩ (fun p hp e => ?_) ?_
    · obtain ⟨q, hq, rfl | rfl | ⟨m, hm, hk⟩⟩ := slotsW_mem.1 hp
      · simp only at e; omega
      · simp only at e; omega
      · have hkp := kid_par t hq hm
        rcases kidW_mem hk hm with ⟨-, rfl⟩ | ⟨hm1, rfl⟩ | ⟨-, rfl⟩
        · simp only at e; omega
        · simp only at e ⊢
          have ei : (S.kids q).getD m 0 = i := by omega
          rw [ei] at hkp
          rw [prv, hkp.2, if_neg (by omega), before_get hi0 (t.nodup q ⟨by omega, by omega⟩) (by rw [get_of hm, ei]), if_neg hm1]
        · simp only at e; omega
    · by_cases hpi : S.par i = -1
      · exact .inr (by rw [prv, if_pos hpi])
      · obtain ⟨hp, hm⟩ := t.mem hi hpi
        obtain ⟨q, hq⟩ : ∃ q : Nat, S.par i = q := ⟨(S.par i).toNat, by have := hp.1; omega⟩
        obtain ⟨m, hm⟩ := List.mem_iff_getElem?.1 hm
        have hml := (List.getElem?_eq_some_iff.1 hm).1
        have hq9 : q < 96 := by have := hp.2; omega
        by_cases h1 : m = 0
        · exact .inr (by rw [prv, if_neg hpi, before_get hi0 (t.nodup _ hp) hm, if_pos h1])
        · left
          rw [hq] at hm hml
          have e1 : (S.kids q).getD m 0 = i := by rw [List.getD_eq_getElem?_getD, hm]; rfl
          refine ⟨(5 * (S.kids q).getD m 0 + 4, (S.kids q).getD (m - 1) 0 + 1), slotsW_mem.2 ⟨q, hq9, .inr (.inr ⟨m, hml, ?_⟩)⟩, by simp only [e1]⟩
          unfold kidW
          rw [if_neg h1]
          simp
  · obtain ⟨n, rfl⟩ : ∃ n : Nat, i = n := ⟨i.toNat, by have := hi.1; omega⟩
    have hn : n < 96 := by have := hi.2; omega
    unfold slotsL
    refine slots_at ⟨by omega, by omega⟩ (fun p hp e => ?_) (.inl ⟨(5 * (n : Int), (S.cap n).word), slotsW_mem.2 ⟨n, hn, .inl rfl⟩, rfl⟩)
    obtain ⟨i, hi2, rfl | rfl | ⟨m, hm, hk⟩⟩ := slotsW_mem.1 hp
    · simp only at e ⊢
      obtain rfl : i = n := by omega
      rfl
    · simp only at e; omega
    · rcases kidW_mem hk hm with ⟨-, rfl⟩ | ⟨-, rfl⟩ | ⟨-, rfl⟩ <;> (simp only at e; omega)
  · by_cases hb : j < 738
    · unfold slotsL
      refine slots_at ⟨by omega, hb⟩ (fun p hp e => ?_) (.inr rfl)
      obtain ⟨q, hq, rfl | rfl | ⟨m, hm, hk⟩⟩ := slotsW_mem.1 hp
      · simp only at e; omega
      · simp only at e; omega
      · have hkp := (kid_par t hq hm).1
        have h0 := hkp.1
        have h9 := hkp.2
        rcases kidW_mem hk hm with ⟨-, rfl⟩ | ⟨-, rfl⟩ | ⟨-, rfl⟩ <;> (simp only at e; omega)
    · exact atL_out (by rw [hlen]; omega)
end
end Go.Proofs.Ytloeofhchfaieaa
