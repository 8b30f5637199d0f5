/- What package cdt's calls come to on words that tell a tree (layer 10), as mathematics: the same tree linked, unlinked, replaced. No dump is read here. -/
import Derived.Test.YtihipcbhfjpgbaaJ6
namespace Go.Proofs.Ytihipcbhfjpgbaa
open Go.RowKit
/-- numbers without doubles, all below n: not more than n -/
theorem nodup_short : ∀ (n : Nat) (l : List Int), l.Nodup → (∀ x, x ∈ l → 0 ≤ x ∧ x < n) → l.length ≤ n := by
  intro n
  induction n with
  | zero =>
    intro l _ h
    cases l with
    | nil => simp
    | cons x l => have := h x (by simp); omega
  | succ n ih =>
    intro l hn h
    have h1 := ih (l.erase (n : Int)) (hn.erase _) (fun x hx => by
      have hm := (hn.mem_erase_iff).1 hx
      have := h x hm.2
      have := hm.1
      omega)
    rw [List.length_erase] at h1
    split at h1 <;> omega
section
variable {L L' : List Int} {P P' : Int → Int} {K K' : Int → List Int} {i j k p a b x : Int}
theorem Tree.short (t : Tree P K) (hi : InS i) : (K i).length ≤ 96 := nodup_short 96 _ (t.nodup i hi) (fun x hx => by have := t.kids hi x hx; exact ⟨this.1, this.2⟩)
theorem headK_rng {l : List Int} (h : ∀ x, x ∈ l → InS x) : 0 ≤ headK l ∧ headK l ≤ 96 := by
  cases l with
  | nil => rw [headK_nil]; omega
  | cons x l => have := h x (by simp); unfold InS at this; rw [headK_cons]; omega
theorem after_rng {l : List Int} (h : ∀ x, x ∈ l → InS x) : 0 ≤ after k l ∧ after k l ≤ 96 := by
  induction l with
  | nil => simp [after]
  | cons x l ih =>
    rw [after_cons]
    split
    · exact headK_rng (fun y hy => h y (by simp [hy]))
    · exact ih (fun y hy => h y (by simp [hy]))
theorem before_rng {l : List Int} (hk : 0 ≤ k) (h : ∀ x, x ∈ l → InS x) : 0 ≤ before k l ∧ before k l ≤ 96 := by
  induction l with
  | nil => simp [before]
  | cons x l ih =>
    rw [before_cons hk]
    have := h x (by simp)
    unfold InS at this
    split
    · omega
    · exact ih (fun y hy => h y (by simp [hy]))
theorem Tree.nxt_rng (t : Tree P K) (hi : InS i) : 0 ≤ nxt P K i ∧ nxt P K i ≤ 96 := by
  unfold nxt
  split
  · omega
  · next h => exact after_rng (t.kids (t.mem hi h).1)
theorem Tree.prv_rng (t : Tree P K) (hi : InS i) : 0 ≤ prv P K i ∧ prv P K i ≤ 96 := by
  unfold prv
  split
  · omega
  · next h => exact before_rng hi.1 (t.kids (t.mem hi h).1)
theorem Tree.par_rng (t : Tree P K) (hi : InS i) : -1 ≤ P i ∧ P i ≤ 95 := by
  rcases t.par i hi with h | ⟨⟨h1, h2⟩, -⟩ <;> omega
theorem told_of {f v : Int} (hi : InS i) (h0 : 0 ≤ f) (h5 : f < 5) (h : atL L (5 * i + f) = v) (hv : 0 ≤ v) (hv2 : v ≤ 96) : toldL L i f = v - 1 := by
  unfold toldL
  rw [if_pos (slotB_yes.2 ⟨hi.1, hi.2, h0, h5⟩), h, toldI, if_neg (by omega)]
theorem Rep.told1 (h : Rep L P K) (t : Tree P K) (hi : InS i) : toldL L i 1 = P i := by
  have := t.par_rng hi
  rw [told_of hi (by omega) (by omega) (h.p i hi) (by omega) (by omega)]
  omega
theorem Rep.told2 (h : Rep L P K) (t : Tree P K) (hi : InS i) : toldL L i 2 = headK (K i) - 1 := by
  have := headK_rng (t.kids hi)
  exact told_of hi (by omega) (by omega) (h.f i hi) (by omega) (by omega)
theorem Rep.told3 (h : Rep L P K) (t : Tree P K) (hi : InS i) : toldL L i 3 = nxt P K i - 1 := by
  have := t.nxt_rng hi
  exact told_of hi (by omega) (by omega) (h.n i hi) (by omega) (by omega)
theorem Rep.told4 (h : Rep L P K) (t : Tree P K) (hi : InS i) : toldL L i 4 = prv P K i - 1 := by
  have := t.prv_rng hi
  exact told_of hi (by omega) (by omega) (h.v i hi) (by omega) (by omega)
theorem Rep.place (h : Rep L P K) (t : Tree P K) (hi : InS i) : placeL L i = (P i, nxt P K i - 1, prv P K i - 1) := by
  unfold placeL
  rw [h.told1 t hi, h.told3 t hi, h.told4 t hi]
  split
  · next e => rw [e, nxt, if_pos e, prv, if_pos e]; rfl
  · rfl
theorem after_split {pre l : List Int} (hn : (pre ++ x :: l).Nodup) : after x (pre ++ x :: l) = headK l := by
  induction pre with
  | nil => rw [List.nil_append, after_cons, if_pos rfl]
  | cons y pre ih =>
    rw [List.cons_append] at hn ⊢
    obtain ⟨h1, h2⟩ := List.nodup_cons.1 hn
    rw [after_cons, if_neg (fun e => h1 (by simp [e])), ih h2]
/-- the kids are what the words' list tells -/
theorem Rep.kids_from (h : Rep L P K) (t : Tree P K) (hi : InS i) : ∀ (n : Nat) (l pre : List Int), K i = pre ++ l → l.length ≤ n → kidsN L n (headK l - 1) = l := by
  intro n
  induction n with
  | zero =>
    intro l pre _ hl
    cases l with
    | nil => rfl
    | cons x l => simp at hl
  | succ n ih =>
    intro l pre e hl
    rw [show kidsN L (n + 1) (headK l - 1) = if headK l - 1 = -1 then [] else (headK l - 1) :: kidsN L n (toldL L (headK l - 1) 3) from rfl]
    cases l with
    | nil => rw [headK_nil, if_pos (by omega)]
    | cons x l =>
      have hm : x ∈ K i := by rw [e]; simp
      have hx := (t.kid i x hi).1 hm
      have hx0 := hx.1.1
      have hi0 := hi.1
      have en : nxt P K x = headK l := by
        rw [nxt, hx.2, if_neg (by omega), e, after_split (by rw [← e]; exact t.nodup i hi)]
      rw [headK_cons, show x + 1 - 1 = x by omega, if_neg (by omega), h.told3 t hx.1, en, ih l (pre ++ [x]) (by rw [e]; simp) (by simpa using hl)]
theorem Rep.kids (h : Rep L P K) (t : Tree P K) (hi : InS i) : kidsL L i = K i := by
  unfold kidsL
  rw [h.told2 t hi]
  exact h.kids_from t hi 96 (K i) [] rfl (t.short hi)
theorem kids_out (hi : ¬ InS i) : kidsL L i = [] := by
  have e : slotB i 2 = false := slotB_no.2 (by unfold InS at hi; omega)
  unfold kidsL toldL
  rw [if_neg (by simp [e])]
  rfl
/-- words alike where the links are, and elsewhere: the same words -/
theorem Rep.same (h : Rep L P K) (h' : Rep L' P' K') (t : Tree P K) (hp : ∀ i, InS i → P i = P' i) (hk : ∀ i, InS i → K i = K' i) (he : ∀ j, (∀ i f, InS i → 1 ≤ f → f ≤ 4 → j ≠ 5 * i + f) → atL L j = atL L' j) : L = L' := by
  have hw : ∀ j, atL L j = atL L' j := fun j => by
    by_cases hj : ∃ i f, InS i ∧ 1 ≤ f ∧ f ≤ 4 ∧ j = 5 * i + f
    · obtain ⟨i, f, hi, h1, h4, rfl⟩ := hj
      have hkp : P i ≠ -1 → K (P i) = K' (P i) := fun hh => hk _ (t.mem hi hh).1
      obtain rfl | rfl | rfl | rfl : f = 1 ∨ f = 2 ∨ f = 3 ∨ f = 4 := by omega
      · rw [h.p i hi, h'.p i hi, hp i hi]
      · rw [h.f i hi, h'.f i hi, hk i hi]
      · rw [h.n i hi, h'.n i hi, nxt, nxt, ← hp i hi]
        split
        · rfl
        · next e => rw [hkp e]
      · rw [h.v i hi, h'.v i hi, prv, prv, ← hp i hi]
        split
        · rfl
        · next e => rw [hkp e]
    · exact he j (fun i f hi h1 h4 e => hj ⟨i, f, hi, h1, h4, e⟩)
  apply List.ext_getElem (by rw [h.len, h'.len])
  intro n h1 h2
  have := hw n
  rwa [atL_in (List.getElem?_eq_getElem h1), atL_in (List.getElem?_eq_getElem h2)] at this
/-- none of the links' words -/
def Far (j : Int) : Prop := ∀ i f, InS i → 1 ≤ f → f ≤ 4 → j ≠ 5 * i + f
theorem Rep.link_to (h : Rep L P K) (t : Tree P K) (hk : InS k) (hp : InS p) (hne : k ≠ p) (h0 : P k = -1) :
    linkA L k p = 0 ∧ Rep (linkL L k p) (setF P k p) (setF K p (k :: K p)) ∧ ∀ j, Far j → atL (linkL L k p) j = atL L j := by
  have e0 : linkA L k p = 0 := by
    have s1 : slotB k 0 = true := slotB_yes.2 ⟨hk.1, hk.2, by omega, by omega⟩
    have s2 : slotB p 0 = true := slotB_yes.2 ⟨hp.1, hp.2, by omega, by omega⟩
    rw [linkA, if_neg (by simp [s1, s2]), if_neg hne, if_neg (by rw [h.told1 t hk]; simp [h0])]
  have hl := h.len
  have hh := headK_rng (t.kids hp)
  have hkp := t.out h0 hp
  have hnk : headK (K p) ≠ k + 1 := fun e => hkp (headK_mem e hk.1)
  have hkr := hk
  have hpr := hp
  unfold InS at hkr hpr
  have ea : ∀ j, atL (linkL L k p) j = if (0 ≤ k ∧ k < 96) ∧ j = 5 * k + 4 then 0 else if (0 ≤ k ∧ k < 96) ∧ j = 5 * k + 3 then headK (K p) else if (0 ≤ k ∧ k < 96) ∧ j = 5 * k + 1 then p + 1 else if (0 ≤ p ∧ p < 96) ∧ j = 5 * p + 2 then k + 1 else if (0 ≤ headK (K p) - 1 ∧ headK (K p) - 1 < 96) ∧ j = 5 * (headK (K p) - 1) + 4 then k + 1 else atL L j := fun j => by
    unfold linkL standL
    rw [if_pos e0, h.told2 t hp]
    rw [atL_tellL (by simp only [tellL_len]; exact hl) (by omega) (by omega), atL_tellL (by simp only [tellL_len]; exact hl) (by omega) (by omega), atL_tellL (by simp only [tellL_len]; exact hl) (by omega) (by omega), atL_tellL (by simp only [tellL_len]; exact hl) (by omega) (by omega), atL_tellL hl (by omega) (by omega)]
    rw [show headK (K p) - 1 + 1 = headK (K p) by omega, show (-1 : Int) + 1 = 0 from rfl]
  have hlen : (linkL L k p).length = 738 := by
    unfold linkL standL
    rw [if_pos e0]
    simp only [tellL_len]
    exact hl
  generalize linkL L k p = M at ea hlen ⊢
  generalize hH : headK (K p) = H at *
  refine ⟨e0, Rep.link h t hk hp hne h0 hlen ?_ ?_ ?_ ?_ ?_ ?_, ?_⟩
  · rw [ea]; repeat' split
    all_goals omega
  · rw [ea]; repeat' split
    all_goals omega
  · rw [ea, hH]; repeat' split
    all_goals omega
  · rw [ea]; repeat' split
    all_goals omega
  · intro x hx hxs
    rw [hH] at hx
    unfold InS at hxs
    rw [ea]; repeat' split
    all_goals omega
  · intro j j1 j2 j3 j4 j5
    rw [hH] at j5
    have j6 : (0 ≤ H - 1 ∧ H - 1 < 96) → j ≠ 5 * (H - 1) + 4 := fun hx => j5 (H - 1) hx (by omega)
    rw [ea]; repeat' split
    all_goals omega
  · intro j hj
    have j1 := hj k 1 hk (by omega) (by omega)
    have j2 := hj p 2 hp (by omega) (by omega)
    have j3 := hj k 3 hk (by omega) (by omega)
    have j4 := hj k 4 hk (by omega) (by omega)
    have j6 : (0 ≤ H - 1 ∧ H - 1 < 96) → j ≠ 5 * (H - 1) + 4 := fun hx => hj (H - 1) 4 hx (by omega) (by omega)
    rw [ea]; repeat' split
    all_goals omega
end
end Go.Proofs.Ytihipcbhfjpgbaa
