/- The document's words of slots, word by word: of any state whose slots are a tree (layers 11 to 21), as mathematics. -/
import Derived.Test.YtihipcbhfjpgbaaCdtWords
namespace Go.Proofs.Ytihipcbhfjpgbaa
open Go.RowKit
/-- what Words puts for slots -/
def slotsL (S : RSt) : List Int := applyW ((List.range 96).flatMap (slotW S)) zeros
section
variable {S : RSt} {i j k x : Int} {l : List Int}
theorem slotsL_rep (t : Tree S.par S.kids) : Rep (slotsL S) S.par S.kids ∧ (∀ i, InS i → atL (slotsL S) (5 * i) = (S.cap i).word) ∧ ∀ j, 480 ≤ j → atL (slotsL S) j = 0 := by
  have hlen : (slotsL S).length = 738 := by unfold slotsL; rw [applyW_length, zeros_len]
  refine ⟨⟨hlen, fun i hi => ?_, fun i hi => ?_, fun i hi => ?_, fun i hi => ?_⟩, fun i hi => ?_, fun j hj => ?_⟩
  · obtain ⟨n, rfl⟩ : ∃ n : Nat, i = n := ⟨i.toNat, by have := hi.1; omega⟩
    have hn : n < 96 := by have := hi.2; omega
    unfold slotsL
    refine slots_at ⟨by omega, by omega⟩ (fun p hp e => ?_) (.inl ⟨(5 * (n : Int) + 1, S.par n + 1), slotsW_mem.2 ⟨n, hn, .inr (.inl rfl)⟩, rfl⟩)
    obtain ⟨i, hi2, rfl | rfl | ⟨m, hm, hk⟩⟩ := slotsW_mem.1 hp
    · simp only at e; omega
    · simp only at e ⊢
      obtain rfl : i = n := by omega
      rfl
    · rcases kidW_mem hk hm with ⟨-, rfl⟩ | ⟨-, rfl⟩ | ⟨-, rfl⟩ <;> (simp only at e; omega)
  · obtain ⟨n, rfl⟩ : ∃ n : Nat, i = n := ⟨i.toNat, by have := hi.1; omega⟩
    have hn : n < 96 := by have := hi.2; omega
    unfold slotsL
    refine slots_at ⟨by omega, by omega⟩ (fun p hp e => ?_) ?_
    · obtain ⟨i, hi2, rfl | rfl | ⟨m, hm, hk⟩⟩ := slotsW_mem.1 hp
      · simp only at e; omega
      · simp only at e; omega
      · rcases kidW_mem hk hm with ⟨rfl, rfl⟩ | ⟨-, rfl⟩ | ⟨-, rfl⟩
        · simp only at e ⊢
          obtain rfl : i = n := by omega
          cases hl : S.kids i with
          | nil => rw [hl] at hm; simp at hm
          | cons y l => simp [headK]
        · simp only at e; omega
        · simp only at e; omega
    · cases hl : S.kids n with
      | nil => exact .inr rfl
      | cons y l =>
        left
        refine ⟨(5 * (n : Int) + 2, (S.kids n).getD 0 0 + 1), slotsW_mem.2 ⟨n, hn, .inr (.inr ⟨0, by rw [hl]; simp, ?_⟩)⟩, rfl⟩
        simp [kidW]
  · have hi0 := hi.1
    have hi9 := hi.2
    unfold slotsL
    refine slots_at ⟨by omega, by omega⟩ (fun p hp e => ?_) ?_
    · obtain ⟨q, hq, rfl | rfl | ⟨m, hm, hk⟩⟩ := slotsW_mem.1 hp
      · simp only at e; omega
      · simp only at e; omega
      · have hkp := kid_par t hq hm
        rcases kidW_mem hk hm with ⟨-, rfl⟩ | ⟨-, rfl⟩ | ⟨hm1, rfl⟩
        · simp only at e; omega
        · simp only at e; omega
        · simp only at e ⊢
          have ei : (S.kids q).getD m 0 = i := by omega
          rw [ei] at hkp
          rw [nxt, hkp.2, if_neg (by omega), after_get (t.nodup q ⟨by omega, by omega⟩) (by rw [get_of hm, ei]), if_pos hm1]
    · by_cases hpi : S.par i = -1
      · exact .inr (by rw [nxt, if_pos hpi])
      · obtain ⟨hp, hm⟩ := t.mem hi hpi
        obtain ⟨q, hq⟩ : ∃ q : Nat, S.par i = q := ⟨(S.par i).toNat, by have := hp.1; omega⟩
        obtain ⟨m, hm⟩ := List.mem_iff_getElem?.1 hm
        have hml := (List.getElem?_eq_some_iff.1 hm).1
        have hq9 : q < 96 := by have := hp.2; omega
        by_cases h1 : m + 1 < (S.kids (S.par i)).length
        · left
          rw [hq] at hm hml h1
          have e1 : (S.kids q).getD m 0 = i := by rw [List.getD_eq_getElem?_getD, hm]; rfl
          refine ⟨(5 * (S.kids q).getD m 0 + 3, (S.kids q).getD (m + 1) 0 + 1), slotsW_mem.2 ⟨q, hq9, .inr (.inr ⟨m, hml, ?_⟩)⟩, by simp only [e1]⟩
          unfold kidW
          rw [if_pos h1]
          simp
        · exact .inr (by rw [nxt, if_neg hpi, after_get (t.nodup _ hp) hm, if_neg h1])
  · have hi0 := hi.1
    have hi9 := hi.2
    unfold slotsL
    refine slots_at ⟨by omega, by omega⟩ (fun p hp e => ?_) ?_
    · obtain ⟨q, hq, rfl | rfl | ⟨m, hm, hk⟩⟩ := slotsW_mem.1 hp
      · simp only at e; omega
      · simp only at e; omega
      · have hkp := kid_par t hq hm
        rcases kidW_mem hk hm with ⟨-, rfl⟩ | ⟨hm1, rfl⟩ | ⟨-, rfl⟩
        · simp only at e; omega
        · simp only at e ⊢
          have ei : (S.kids q).getD m 0 = i := by omega
          rw [ei] at hkp
          rw [prv, hkp.2, if_neg (by omega), before_get hi0 (t.nodup q ⟨by omega, by omega⟩) (by rw [get_of hm, ei]), if_neg hm1]
        · simp only at e; omega
    · by_cases hpi : S.par i = -1
      · exact .inr (by rw [prv, if_pos hpi])
      · obtain ⟨hp, hm⟩ := t.mem hi hpi
        obtain ⟨q, hq⟩ : ∃ q : Nat, S.par i = q := ⟨(S.par i).toNat, by have := hp.1; omega⟩
        obtain ⟨m, hm⟩ := List.mem_iff_getElem?.1 hm
        have hml := (List.getElem?_eq_some_iff.1 hm).1
        have hq9 : q < 96 := by have := hp.2; omega
        by_cases h1 : m = 0
        · exact .inr (by rw [prv, if_neg hpi, before_get hi0 (t.nodup _ hp) hm, if_pos h1])
        · left
          rw [hq] at hm hml
          have e1 : (S.kids q).getD m 0 = i := by rw [List.getD_eq_getElem?_getD, hm]; rfl
          refine ⟨(5 * (S.kids q).getD m 0 + 4, (S.kids q).getD (m - 1) 0 + 1), slotsW_mem.2 ⟨q, hq9, .inr (.inr ⟨m, hml, ?_⟩)⟩, by simp only [e1]⟩
          unfold kidW
          rw [if_neg h1]
          simp
  · obtain ⟨n, rfl⟩ : ∃ n : Nat, i = n := ⟨i.toNat, by have := hi.1; omega⟩
    have hn : n < 96 := by have := hi.2; omega
    unfold slotsL
    refine slots_at ⟨by omega, by omega⟩ (fun p hp e => ?_) (.inl ⟨(5 * (n : Int), (S.cap n).word), slotsW_mem.2 ⟨n, hn, .inl rfl⟩, rfl⟩)
    obtain ⟨i, hi2, rfl | rfl | ⟨m, hm, hk⟩⟩ := slotsW_mem.1 hp
    · simp only at e ⊢
      obtain rfl : i = n := by omega
      rfl
    · simp only at e; omega
    · rcases kidW_mem hk hm with ⟨-, rfl⟩ | ⟨-, rfl⟩ | ⟨-, rfl⟩ <;> (simp only at e; omega)
  · by_cases hb : j < 738
    · unfold slotsL
      refine slots_at ⟨by omega, hb⟩ (fun p hp e => ?_) (.inr rfl)
      obtain ⟨q, hq, rfl | rfl | ⟨m, hm, hk⟩⟩ := slotsW_mem.1 hp
      · simp only at e; omega
      · simp only at e; omega
      · have hkp := (kid_par t hq hm).1
        have h0 := hkp.1
        have h9 := hkp.2
        rcases kidW_mem hk hm with ⟨-, rfl⟩ | ⟨-, rfl⟩ | ⟨-, rfl⟩ <;> (simp only at e; omega)
    · exact atL_out (by rw [hlen]; omega)
end
end Go.Proofs.Ytihipcbhfjpgbaa
