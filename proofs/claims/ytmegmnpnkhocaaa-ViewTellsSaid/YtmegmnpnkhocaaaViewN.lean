/- Writing many words, as mathematics (layer 5). No dump is read here. -/
import Derived.Test.YtmegmnpnkhocaaaViewM
namespace Go.Proofs.Ytmegmnpnkhocaaa
open Go.RowKit
/-- all written, one behind the other -/
def putAll (ps : List (Int × Int)) (L : List Int) : List Int := ps.foldl (fun L p => setL L p.1 p.2) L
theorem putAll_nil (L : List Int) : putAll [] L = L := rfl
theorem putAll_snoc (ps : List (Int × Int)) (p : Int × Int) (L : List Int) : putAll (ps ++ [p]) L = setL (putAll ps L) p.1 p.2 := by simp [putAll]
theorem putAll_length (ps : List (Int × Int)) (L : List Int) : (putAll ps L).length = L.length := by
  unfold putAll
  induction ps generalizing L with
  | nil => rfl
  | cons p ps ih => rw [List.foldl_cons, ih, setL_length]
/-- what is read behind, where each that is written is what f says -/
theorem atL_putAll {f : Int → Int} {ps : List (Int × Int)} (hf : ∀ p, p ∈ ps → p.2 = f p.1) (L : List Int) (j : Int) :
    (j ∈ ps.map Prod.fst → hasB L.length j = true → atL (putAll ps L) j = f j) ∧ (j ∉ ps.map Prod.fst → atL (putAll ps L) j = atL L j) := by
  induction ps generalizing L with
  | nil => simp [putAll]
  | cons p ps ih =>
    have h1 := ih (fun q hq => hf q (List.mem_cons_of_mem _ hq)) (setL L p.1 p.2)
    rw [setL_length] at h1
    have e : putAll (p :: ps) L = putAll ps (setL L p.1 p.2) := rfl
    rw [e]
    constructor
    · intro hj hb
      by_cases hm : j ∈ ps.map Prod.fst
      · exact h1.1 hm hb
      · rw [h1.2 hm, atL_setL]
        have hjp : j = p.1 := by simpa [hm] using hj
        rw [if_pos ⟨by rw [← hjp]; exact hb, hjp⟩, hjp]
        exact hf p (by simp)
    · intro hj
      have hj' : j ≠ p.1 ∧ j ∉ ps.map Prod.fst := by simpa using hj
      rw [h1.2 hj'.2, atL_setL, if_neg (fun h => hj'.1 h.2)]
theorem rngF_mem {L : List Int} {lo : Int} {n : Nat} {p : Int × Int} : p ∈ rngF L lo n ↔ (lo ≤ p.1 ∧ p.1 < lo + n) ∧ p.2 = atL L p.1 := by
  obtain ⟨i, x⟩ := p
  simp only [rngF, List.mem_map, List.mem_range, Prod.mk.injEq]
  constructor
  · rintro ⟨j, hj, rfl, rfl⟩
    exact ⟨⟨by omega, by omega⟩, rfl⟩
  · rintro ⟨⟨h1, h2⟩, rfl⟩
    exact ⟨(i - lo).toNat, by omega, by omega, by congr 1; omega⟩
theorem chgL_mem {A B : List Int} {p : Int × Int} : p ∈ chgL A B ↔ (0 ≤ p.1 ∧ p.1 < (max A.length B.length : Nat)) ∧ p.2 = atL B p.1 ∧ p.2 ≠ atL A p.1 := by
  simp only [chgL, chg, List.mem_filter, rngF_mem, bne_iff_ne]
  constructor
  · rintro ⟨⟨⟨h1, h2⟩, h3⟩, h4⟩
    exact ⟨⟨h1, by omega⟩, h3, h4⟩
  · rintro ⟨⟨h1, h2⟩, h3, h4⟩
    exact ⟨⟨⟨h1, by omega⟩, h3⟩, h4⟩
theorem rngF_sorted (L : List Int) (lo : Int) (n : Nat) : (rngF L lo n).Pairwise fun p q => p.1 < q.1 := by
  unfold rngF
  rw [List.pairwise_map]
  exact List.Pairwise.imp (fun h => by simp; omega) List.pairwise_lt_range
theorem chgL_sorted (A B : List Int) : (chgL A B).Pairwise fun p q => p.1 < q.1 := List.Pairwise.filter _ (rngF_sorted _ _ _)
theorem chgL_lt {A B : List Int} {i j : Nat} {p q : Int × Int} (hij : i < j) (hp : (chgL A B)[i]? = some p) (hq : (chgL A B)[j]? = some q) : p.1 < q.1 := by
  have h := List.pairwise_iff_getElem.1 (chgL_sorted A B) i j (List.getElem?_eq_some_iff.1 hp).1 (List.getElem?_eq_some_iff.1 hq).1 hij
  rwa [(List.getElem?_eq_some_iff.1 hp).2, (List.getElem?_eq_some_iff.1 hq).2] at h
/-- one list, written over with what is unlike, is the other one -/
theorem becomes (A B : List Int) (j : Int) (hj : 0 ≤ j ∧ j < (max A.length B.length : Nat)) :
    atL (putAll (chgL A B) (putAll (rngF A 0 A.length) (List.replicate (max A.length B.length) 0))) j = atL B j := by
  have hb : ∀ L : List Int, L.length = max A.length B.length → hasB L.length j = true := fun L hL => hasB_yes.2 ⟨hj.1, by rw [hL]; exact hj.2⟩
  have e1 := atL_putAll (f := atL A) (ps := rngF A 0 A.length) (fun p hp => (rngF_mem.1 hp).2) (List.replicate (max A.length B.length) 0) j
  have e2 := atL_putAll (f := atL B) (ps := chgL A B) (fun p hp => (chgL_mem.1 hp).2.1) (putAll (rngF A 0 A.length) (List.replicate (max A.length B.length) 0)) j
  have zero : atL (List.replicate (max A.length B.length) (0 : Int)) j = 0 := by
    obtain ⟨k, rfl⟩ : ∃ k : Nat, j = k := ⟨j.toNat, by omega⟩
    exact atL_in (by rw [List.getElem?_replicate, if_pos (by omega)])
  have e3 : atL (putAll (rngF A 0 A.length) (List.replicate (max A.length B.length) 0)) j = atL A j := by
    by_cases hm : j ∈ (rngF A 0 A.length).map Prod.fst
    · exact e1.1 hm (hb _ (by simp))
    · rw [e1.2 hm, zero]
      have hge : (A.length : Int) ≤ j := Int.not_lt.1 fun h => hm (List.mem_map.2 ⟨(j, atL A j), rngF_mem.2 ⟨⟨hj.1, by simpa using h⟩, rfl⟩, rfl⟩)
      exact (atL_out (.inr hge)).symm
  by_cases hm : j ∈ (chgL A B).map Prod.fst
  · exact e2.1 hm (hb _ (by rw [putAll_length]; simp))
  · rw [e2.2 hm, e3]
    refine Classical.byContradiction fun hne => ?_
    exact hm (List.mem_map.2 ⟨(j, atL B j), chgL_mem.2 ⟨hj, rfl, fun h => hne h.symm⟩, rfl⟩)
end Go.Proofs.Ytmegmnpnkhocaaa
