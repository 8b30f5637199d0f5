/- What is derived from what, as mathematics (layer 10): lists of kids, parents, the words that tell them (Rep), and what linking, unlinking, replacing do to them. No dump is read here. -/
import Derived.Test.YtihipcbhfjpgbaaJ1
namespace Go.Proofs.Ytihipcbhfjpgbaa
open Go.RowKit
/-- changes of words, one behind the other -/
def applyW (W : List (Int × Int)) (L : List Int) : List Int := W.foldl (fun L p => setL L p.1 p.2) L
theorem applyW_cons (p : Int × Int) (W : List (Int × Int)) (L : List Int) : applyW (p :: W) L = applyW W (setL L p.1 p.2) := rfl
theorem applyW_append (A B : List (Int × Int)) (L : List Int) : applyW (A ++ B) L = applyW B (applyW A L) := by simp [applyW, List.foldl_append]
theorem applyW_length (W : List (Int × Int)) (L : List Int) : (applyW W L).length = L.length := by
  induction W generalizing L with
  | nil => rfl
  | cons p W ih => rw [applyW_cons, ih, setL_length]
/-- the last change of a word, where all changes of it agree -/
theorem applyW_at {j v : Int} (W : List (Int × Int)) : ∀ (L : List Int), hasB L.length j = true → (∀ p, p ∈ W → p.1 = j → p.2 = v) → ((∃ p, p ∈ W ∧ p.1 = j) ∨ atL L j = v) → atL (applyW W L) j = v := by
  induction W with
  | nil =>
    intro L _ _ h
    rcases h with ⟨p, hp, _⟩ | h
    · simp at hp
    · exact h
  | cons p W ih =>
    intro L hj h1 h2
    rw [applyW_cons]
    refine ih _ (by rw [setL_length]; exact hj) (fun q hq => h1 q (by simp [hq])) ?_
    by_cases hp : p.1 = j
    · right
      rw [atL_setL, if_pos ⟨by rw [hp]; exact hj, hp.symm⟩]
      exact h1 p (by simp) hp
    · rcases h2 with ⟨q, hq, hqj⟩ | h2
      · rcases List.mem_cons.1 hq with rfl | hq
        · exact absurd hqj hp
        · exact .inl ⟨q, hq, hqj⟩
      · right
        rw [atL_setL, if_neg (fun hh => hp hh.2.symm)]
        exact h2
/-- the one behind, one more than its number; 0: none -/
def after (k : Int) : List Int → Int
  | [] => 0
  | [_] => 0
  | x :: y :: l => if x = k then y + 1 else after k (y :: l)
/-- the one ahead -/
def before (k : Int) : List Int → Int
  | [] => 0
  | [_] => 0
  | x :: y :: l => if y = k then x + 1 else before k (y :: l)
def headK : List Int → Int
  | [] => 0
  | x :: _ => x + 1
section
variable {k x y a b : Int} {l : List Int}
theorem headK_nil : headK [] = 0 := rfl
theorem headK_cons : headK (x :: l) = x + 1 := rfl
theorem after_cons : after k (x :: l) = if x = k then headK l else after k l := by
  cases l with
  | nil => simp [after, headK]
  | cons y l => rfl
theorem before_cons (hk : 0 ≤ k) : before k (x :: l) = if headK l = k + 1 then x + 1 else before k l := by
  cases l with
  | nil =>
    have : ¬ (0 : Int) = k + 1 := by omega
    simp [before, headK, this]
  | cons y l =>
    have e : (y + 1 = k + 1) = (y = k) := by simp only [eq_iff_iff]; omega
    simp only [before, headK, e]
theorem headK_mem (h : headK l = a + 1) (h0 : 0 ≤ a) : a ∈ l := by
  cases l with
  | nil => simp [headK] at h; omega
  | cons x l => simp [headK] at h; subst h; simp
theorem before_not (hk : 0 ≤ k) (h : k ∉ l) : before k l = 0 := by
  induction l with
  | nil => rfl
  | cons x l ih =>
    rw [before_cons hk, if_neg (fun e => h (by simp [headK_mem e hk])), ih (fun hm => h (by simp [hm]))]
/-- what stands behind is one of them -/
theorem after_mem (h : after k l = a + 1) (h0 : 0 ≤ a) : a ∈ l := by
  induction l with
  | nil => simp [after] at h; omega
  | cons x l ih =>
    rw [after_cons] at h
    split at h
    · exact List.mem_cons_of_mem _ (headK_mem h h0)
    · exact List.mem_cons_of_mem _ (ih h)
theorem before_mem (hk : 0 ≤ k) (h : before k l = a + 1) (h0 : 0 ≤ a) : a ∈ l := by
  induction l with
  | nil => simp [before] at h; omega
  | cons x l ih =>
    rw [before_cons hk] at h
    split at h
    · have : a = x := by omega
      simp [this]
    · exact List.mem_cons_of_mem _ (ih h)
/-- the one behind has this one ahead -/
theorem after_before (hn : l.Nodup) (hk : 0 ≤ k) (ha : 0 ≤ a) (hm : k ∈ l) : after k l = a + 1 ↔ before a l = k + 1 := by
  induction l with
  | nil => simp at hm
  | cons x l ih =>
    obtain ⟨hx, hn⟩ := List.nodup_cons.1 hn
    rw [after_cons, before_cons ha]
    by_cases e : x = k
    · subst e
      rw [if_pos rfl]
      constructor
      · intro h; rw [if_pos h]
      · intro h
        split at h
        · assumption
        · exact absurd (before_mem ha h hk) hx
    · rw [if_neg e]
      have hm' : k ∈ l := by
        rcases List.mem_cons.1 hm with h | h
        · exact absurd h.symm e
        · exact h
      rw [ih hn hm']
      constructor
      · intro h
        rw [if_neg (fun hh => ?_)]
        · exact h
        · cases l with
          | nil => simp at hm'
          | cons y l =>
            simp [headK] at hh
            subst hh
            rw [before_cons ha] at h
            have hy := (List.nodup_cons.1 hn).1
            split at h
            · rename_i h1; exact hy (headK_mem h1 ha)
            · rw [before_not ha hy] at h; omega
      · intro h
        split at h
        · exact absurd (by omega : x = k) e
        · exact h
/-- who is taken out -/
theorem headK_erase : headK (l.erase x) = if headK l = x + 1 then after x l else headK l := by
  cases l with
  | nil => exact (ite_self _).symm
  | cons y l =>
    by_cases e : y = x
    · subst e
      simp [headK, after_cons]
    · have e' : ¬ (y + 1 = x + 1) := by omega
      rw [List.erase_cons_tail (by simpa using e)]
      simp [headK, e']
theorem after_erase (hn : l.Nodup) (h0 : 0 ≤ x) (hk : k ≠ x) (h : ∀ y, y ∈ l → 0 ≤ y) : after k (l.erase x) = if after k l = x + 1 then after x l else after k l := by
  induction l with
  | nil =>
    have : ¬ (0 : Int) = x + 1 := by omega
    simp [after, this]
  | cons y l ih =>
    obtain ⟨hy, hn⟩ := List.nodup_cons.1 hn
    by_cases e : y = x
    · subst e
      have e1 : after k (y :: l) = after k l := by rw [after_cons, if_neg (fun hh => hk hh.symm)]
      rw [List.erase_cons_head, e1]
      split
      · rename_i h1; exact absurd (after_mem h1 h0) hy
      · rfl
    · rw [List.erase_cons_tail (by simpa using e), after_cons, after_cons]
      by_cases e2 : y = k
      · subst e2
        simp only [if_true]
        rw [headK_erase]
        by_cases e3 : headK l = x + 1
        · rw [if_pos e3, if_pos e3, after_cons, if_neg e]
        · rw [if_neg e3, if_neg e3]
      · rw [if_neg e2, if_neg e2, ih hn (fun z hz => h z (by simp [hz])), after_cons, if_neg e]
theorem before_erase (hn : l.Nodup) (h0 : 0 ≤ x) (hk0 : 0 ≤ k) (hk : k ≠ x) (h : ∀ y, y ∈ l → 0 ≤ y) : before k (l.erase x) = if before k l = x + 1 then before x l else before k l := by
  induction l with
  | nil =>
    have : ¬ (0 : Int) = x + 1 := by omega
    simp [before, this]
  | cons y l ih =>
    obtain ⟨hy, hn⟩ := List.nodup_cons.1 hn
    have hp := h y (by simp)
    by_cases e : y = x
    · subst e
      rw [List.erase_cons_head, before_cons hk0]
      by_cases e3 : headK l = k + 1
      · rw [if_pos e3, if_pos rfl, before_cons h0, if_neg (fun hh => hk (by omega)), before_not h0 hy]
        cases l with
        | nil => rfl
        | cons z l =>
          simp [headK] at e3
          subst e3
          rw [before_cons hk0, before_not hk0 (List.nodup_cons.1 hn).1, if_neg]
          intro hh
          exact (List.nodup_cons.1 hn).1 (headK_mem hh hk0)
      · rw [if_neg e3]
        split
        · rename_i h1; exact absurd (before_mem hk0 h1 h0) hy
        · rfl
    · rw [List.erase_cons_tail (by simpa using e), before_cons hk0, before_cons hk0, before_cons h0, ih hn (fun z hz => h z (by simp [hz])), headK_erase]
      by_cases e3 : headK l = x + 1
      · rw [if_pos e3]
        have e4 : ¬ headK l = k + 1 := fun hh => hk (by omega)
        rw [if_neg e4, if_pos e3]
        have hx : x ∈ l := headK_mem e3 h0
        by_cases e5 : after x l = k + 1
        · rw [if_pos e5]
          have := (after_before hn h0 hk0 hx).1 e5
          rw [if_pos this]
        · rw [if_neg e5]
          have : ¬ before k l = x + 1 := fun hh => e5 ((after_before hn h0 hk0 hx).2 hh)
          rw [if_neg this, if_neg this]
      · rw [if_neg e3, if_neg e3]
        by_cases e4 : headK l = k + 1
        · rw [if_pos e4, if_pos e4, if_neg (fun hh => e (by omega))]
        · rw [if_neg e4, if_neg e4]
/-- one number for another one -/
def swapK (a b : Int) (x : Int) : Int := if x = a then b else x
theorem swap_self : swapK a b a = b := by simp [swapK]
theorem swap_ne (h : x ≠ a) : swapK a b x = x := by simp [swapK, h]
theorem swap_inj (hb : b ∉ l) (hx : x ∈ l) (hy : y ∈ l) (h : swapK a b x = swapK a b y) : x = y := by
  unfold swapK at h
  have h1 : x ≠ b := fun e => hb (e ▸ hx)
  have h2 : y ≠ b := fun e => hb (e ▸ hy)
  split at h <;> split at h <;> omega
theorem headK_swap (ha : 0 ≤ a) : headK (l.map (swapK a b)) = if headK l = a + 1 then b + 1 else headK l := by
  cases l with
  | nil =>
    have h : ¬ (0 : Int) = a + 1 := by omega
    rw [List.map_nil, headK_nil, if_neg h]
  | cons x l =>
    rw [List.map_cons, headK_cons, headK_cons]
    by_cases e : x = a
    · subst e; rw [swap_self, if_pos rfl]
    · have h : ¬ x + 1 = a + 1 := by omega
      rw [swap_ne e, if_neg h]
theorem after_swap (ha : 0 ≤ a) (hk : k ≠ a) (hk' : k ≠ b) : after k (l.map (swapK a b)) = if after k l = a + 1 then b + 1 else after k l := by
  induction l with
  | nil =>
    have h : ¬ (0 : Int) = a + 1 := by omega
    exact (if_neg h).symm
  | cons x l ih =>
    rw [List.map_cons, after_cons, after_cons, headK_swap ha, ih]
    by_cases e : x = a
    · have h1 : ¬ swapK a b x = k := by rw [e, swap_self]; exact fun h => hk' h.symm
      have h2 : ¬ x = k := fun h => hk (h ▸ e)
      rw [if_neg h1, if_neg h2]
    · rw [swap_ne e]
      by_cases e2 : x = k
      · rw [if_pos e2, if_pos e2]
      · rw [if_neg e2, if_neg e2]
theorem after_swap_self (ha : 0 ≤ a) (hn : l.Nodup) (hb : b ∉ l) : after b (l.map (swapK a b)) = after a l := by
  induction l with
  | nil => rfl
  | cons x l ih =>
    obtain ⟨hx, hn⟩ := List.nodup_cons.1 hn
    rw [List.map_cons, after_cons, after_cons, headK_swap ha, ih hn (fun h => hb (by simp [h]))]
    by_cases e : x = a
    · have h1 : swapK a b x = b := by rw [e, swap_self]
      rw [if_pos h1, if_pos e]
      rw [if_neg]
      intro h
      exact hx (e ▸ headK_mem h ha)
    · have h1 : ¬ swapK a b x = b := by rw [swap_ne e]; exact fun h => hb (by simp [h])
      rw [if_neg h1, if_neg e]
theorem before_swap (ha : 0 ≤ a) (h0 : 0 ≤ k) (hk : k ≠ a) (hk' : k ≠ b) : before k (l.map (swapK a b)) = if before k l = a + 1 then b + 1 else before k l := by
  induction l with
  | nil =>
    have h : ¬ (0 : Int) = a + 1 := by omega
    exact (if_neg h).symm
  | cons x l ih =>
    rw [List.map_cons, before_cons h0, before_cons h0, headK_swap ha, ih]
    by_cases e : headK l = a + 1
    · have h1 : ¬ headK l = k + 1 := by omega
      rw [if_pos e, if_neg h1, if_neg (by omega)]
    · rw [if_neg e]
      by_cases e2 : headK l = k + 1
      · rw [if_pos e2, if_pos e2]
        by_cases e3 : x = a
        · subst e3; rw [swap_self, if_pos rfl]
        · rw [swap_ne e3, if_neg (by omega)]
      · rw [if_neg e2, if_neg e2]
theorem before_swap_self (ha : 0 ≤ a) (hb0 : 0 ≤ b) (hn : l.Nodup) (hb : b ∉ l) : before b (l.map (swapK a b)) = before a l := by
  induction l with
  | nil => rfl
  | cons x l ih =>
    obtain ⟨hx, hn⟩ := List.nodup_cons.1 hn
    have hb' : b ∉ l := fun h => hb (by simp [h])
    rw [List.map_cons, before_cons hb0, before_cons ha, headK_swap ha, ih hn hb']
    by_cases e : headK l = a + 1
    · rw [if_pos e, if_pos rfl, if_pos e]
      have hm : a ∈ l := headK_mem e ha
      rw [swap_ne (fun h : x = a => hx (by rw [h]; exact hm))]
    · have h1 : ¬ headK l = b + 1 := fun h => hb' (headK_mem h hb0)
      rw [if_neg e, if_neg h1, if_neg e]
theorem swap_mem (hb : b ∉ l) : k ∈ l.map (swapK a b) ↔ (k = b ∧ a ∈ l) ∨ (k ≠ a ∧ k ∈ l) := by
  simp only [List.mem_map]
  constructor
  · rintro ⟨x, hx, rfl⟩
    by_cases e : x = a
    · subst e; exact .inl ⟨swap_self, hx⟩
    · rw [swap_ne e]; exact .inr ⟨e, hx⟩
  · rintro (⟨rfl, h⟩ | ⟨h1, h2⟩)
    · exact ⟨a, h, swap_self⟩
    · exact ⟨k, h2, swap_ne h1⟩
theorem swap_nodup (hn : l.Nodup) (hb : b ∉ l) : (l.map (swapK a b)).Nodup := by
  rw [List.nodup_iff_pairwise_ne, List.pairwise_map] at *
  induction l with
  | nil => exact List.Pairwise.nil
  | cons x l ih =>
    obtain ⟨h1, h2⟩ := List.pairwise_cons.1 hn
    have hb' : b ∉ l := fun h => hb (by simp [h])
    refine List.pairwise_cons.2 ⟨fun y hy h => h1 y hy (swap_inj hb (by simp) (by simp [hy]) h), ih h2 hb'⟩
end
/-- one place of a function is turned -/
def setF {α : Type} (f : Int → α) (i : Int) (v : α) : Int → α := fun j => if j = i then v else f j
theorem setF_self {α : Type} (f : Int → α) (i : Int) (v : α) : setF f i v i = v := by simp [setF]
theorem setF_ne {α : Type} {f : Int → α} {i j : Int} {v : α} (h : j ≠ i) : setF f i v j = f j := by simp [setF, h]
/-- is it a slot -/
def InS (i : Int) : Prop := 0 ≤ i ∧ i < 96
instance (i : Int) : Decidable (InS i) := by unfold InS; infer_instance
/-- parents and kids agree -/
structure Tree (P : Int → Int) (K : Int → List Int) : Prop where
  nodup : ∀ p, InS p → (K p).Nodup
  kid : ∀ p k, InS p → (k ∈ K p ↔ InS k ∧ P k = p)
  par : ∀ k, InS k → P k = -1 ∨ (InS (P k) ∧ P k ≠ k)
/-- the one behind a slot, among its parent's kids -/
def nxt (P : Int → Int) (K : Int → List Int) (i : Int) : Int := if P i = -1 then 0 else after i (K (P i))
def prv (P : Int → Int) (K : Int → List Int) (i : Int) : Int := if P i = -1 then 0 else before i (K (P i))
/-- words tell parents and kids -/
structure Rep (L : List Int) (P : Int → Int) (K : Int → List Int) : Prop where
  len : L.length = 738
  p : ∀ i, InS i → atL L (5 * i + 1) = P i + 1
  f : ∀ i, InS i → atL L (5 * i + 2) = headK (K i)
  n : ∀ i, InS i → atL L (5 * i + 3) = nxt P K i
  v : ∀ i, InS i → atL L (5 * i + 4) = prv P K i
section
variable {L L' : List Int} {P : Int → Int} {K : Int → List Int} {k p : Int}
theorem Tree.out (t : Tree P K) (h : P k = -1) {q : Int} (hq : InS q) : k ∉ K q := fun hm => by
  have := ((t.kid q k hq).1 hm).2
  unfold InS at hq
  omega
theorem Tree.mem (t : Tree P K) (hk : InS k) (h : P k ≠ -1) : InS (P k) ∧ k ∈ K (P k) := by
  rcases t.par k hk with h1 | ⟨h1, -⟩
  · exact absurd h1 h
  · exact ⟨h1, (t.kid _ k h1).2 ⟨hk, rfl⟩⟩
theorem Tree.kids (t : Tree P K) (hp : InS p) : ∀ x, x ∈ K p → InS x := fun x hx => ((t.kid p x hp).1 hx).1
theorem Tree.kids0 (t : Tree P K) (hp : InS p) : ∀ x, x ∈ K p → 0 ≤ x := fun x hx => (t.kids hp x hx).1
/-- linked -/
theorem Tree.link (t : Tree P K) (hk : InS k) (hp : InS p) (hne : k ≠ p) (h0 : P k = -1) : Tree (setF P k p) (setF K p (k :: K p)) where
  nodup := fun q hq => by
    by_cases e : q = p
    · subst e; rw [setF_self]; exact List.nodup_cons.2 ⟨t.out h0 hq, t.nodup q hq⟩
    · rw [setF_ne e]; exact t.nodup q hq
  kid := fun q x hq => by
    by_cases ex : x = k
    · subst ex
      rw [setF_self]
      by_cases e : q = p
      · subst e; rw [setF_self]; simp [hk]
      · rw [setF_ne e]
        constructor
        · intro h; exact absurd h (t.out h0 hq)
        · intro h; exact absurd h.2.symm e
    · rw [setF_ne ex]
      by_cases e : q = p
      · subst e; rw [setF_self, List.mem_cons]
        constructor
        · rintro (h | h)
          · exact absurd h ex
          · exact (t.kid q x hq).1 h
        · intro h; exact .inr ((t.kid q x hq).2 h)
      · rw [setF_ne e]; exact t.kid q x hq
  par := fun x hx => by
    by_cases ex : x = k
    · subst ex; rw [setF_self]; exact .inr ⟨hp, hne.symm⟩
    · rw [setF_ne ex]; exact t.par x hx
/-- what the words are, once linked -/
theorem Rep.link (h : Rep L P K) (t : Tree P K) (hk : InS k) (hp : InS p) (hne : k ≠ p) (h0 : P k = -1) (hl : L'.length = 738)
    (e1 : atL L' (5 * k + 1) = p + 1) (e2 : atL L' (5 * p + 2) = k + 1) (e3 : atL L' (5 * k + 3) = headK (K p)) (e4 : atL L' (5 * k + 4) = 0) (e5 : ∀ x, headK (K p) = x + 1 → InS x → atL L' (5 * x + 4) = k + 1)
    (e6 : ∀ j, j ≠ 5 * k + 1 → j ≠ 5 * p + 2 → j ≠ 5 * k + 3 → j ≠ 5 * k + 4 → (∀ x, InS x → headK (K p) = x + 1 → j ≠ 5 * x + 4) → atL L' j = atL L j) :
    Rep L' (setF P k p) (setF K p (k :: K p)) where
  len := hl
  p := fun i hi => by
    by_cases e : i = k
    · subst e; rw [setF_self, e1]
    · rw [setF_ne e, ← h.p i hi]
      exact e6 _ (by omega) (by omega) (by omega) (by omega) (fun x _ _ => by omega)
  f := fun i hi => by
    by_cases e : i = p
    · subst e; rw [setF_self, e2, headK_cons]
    · rw [setF_ne e, ← h.f i hi]
      exact e6 _ (by omega) (by omega) (by omega) (by omega) (fun x _ _ => by omega)
  n := fun i hi => by
    by_cases e : i = k
    · subst e
      have hp0 : ¬ p = -1 := by have := hp.1; omega
      rw [e3, nxt, setF_self, if_neg hp0, setF_self, after_cons, if_pos rfl]
    · have e7 : atL L' (5 * i + 3) = atL L (5 * i + 3) := e6 _ (by omega) (by omega) (by omega) (by omega) (fun x _ _ => by omega)
      rw [e7, h.n i hi, nxt, nxt, setF_ne e]
      by_cases e8 : P i = -1
      · rw [if_pos e8, if_pos e8]
      · rw [if_neg e8, if_neg e8]
        by_cases e9 : P i = p
        · rw [e9, setF_self, after_cons, if_neg (fun hh => e hh.symm)]
        · rw [setF_ne e9]
  v := fun i hi => by
    have hp0 : ¬ p = -1 := by have := hp.1; omega
    have hkp := t.out h0 hp
    by_cases e : i = k
    · subst e
      rw [e4, prv, setF_self, if_neg hp0, setF_self, before_cons hi.1, before_not hi.1 hkp]
      rw [if_neg (fun hh => hkp (headK_mem hh hi.1))]
    · by_cases e7 : headK (K p) = i + 1
      · have hm : i ∈ K p := headK_mem e7 hi.1
        have hpi := ((t.kid p i hp).1 hm).2
        rw [e5 i e7 hi, prv, setF_ne e, hpi, if_neg hp0, setF_self, before_cons hi.1, if_pos e7]
      · have e8 : atL L' (5 * i + 4) = atL L (5 * i + 4) := e6 _ (by omega) (by omega) (by omega) (by omega) (fun x _ hx => by omega)
        rw [e8, h.v i hi, prv, prv, setF_ne e]
        by_cases e9 : P i = -1
        · rw [if_pos e9, if_pos e9]
        · rw [if_neg e9, if_neg e9]
          by_cases e10 : P i = p
          · rw [e10, setF_self, before_cons hi.1, if_neg e7]
          · rw [setF_ne e10]
theorem before_pos {l : List Int} (hm : k ∈ l) (h : ∀ x, x ∈ l → 0 ≤ x) (hh : headK l ≠ k + 1) : 1 ≤ before k l := by
  have hk := h k hm
  induction l with
  | nil => simp at hm
  | cons y l ih =>
    have hy := h y (by simp)
    rw [before_cons hk]
    split
    · omega
    · next h2 =>
      rcases List.mem_cons.1 hm with e | hm2
      · subst e; exact absurd headK_cons hh
      · exact ih hm2 (fun z hz => h z (by simp [hz])) h2
/-- the first one has none ahead -/
theorem before_zero {l : List Int} (hn : l.Nodup) (hm : k ∈ l) (h : ∀ x, x ∈ l → 0 ≤ x) : before k l = 0 ↔ headK l = k + 1 := by
  have hk := h k hm
  constructor
  · intro h0
    by_cases hh : headK l = k + 1
    · exact hh
    · have := before_pos hm h hh; omega
  · intro hh
    cases l with
    | nil => simp at hm
    | cons x l =>
      obtain ⟨hx, hn⟩ := List.nodup_cons.1 hn
      rw [headK_cons] at hh
      obtain rfl : x = k := by omega
      rw [before_cons hk, if_neg (fun hh => hx (headK_mem hh hk)), before_not hk hx]
/-- unlinked -/
theorem Tree.unlink (t : Tree P K) (hk : InS k) (h0 : P k ≠ -1) : Tree (setF P k (-1)) (setF K (P k) ((K (P k)).erase k)) where
  nodup := fun q hq => by
    by_cases e : q = P k
    · subst e; rw [setF_self]; exact (t.nodup _ hq).erase _
    · rw [setF_ne e]; exact t.nodup q hq
  kid := fun q x hq => by
    by_cases e : q = P k
    · subst e
      rw [setF_self, (t.nodup _ hq).mem_erase_iff]
      by_cases ex : x = k
      · subst ex
        rw [setF_self]
        constructor
        · intro h; exact absurd rfl h.1
        · intro h; exact absurd h.2.symm h0
      · rw [setF_ne ex, t.kid _ x hq]
        constructor
        · intro h; exact h.2
        · intro h; exact ⟨ex, h⟩
    · rw [setF_ne e, t.kid q x hq]
      by_cases ex : x = k
      · subst ex
        rw [setF_self]
        constructor
        · intro h; exact absurd h.2.symm e
        · intro h; have := hq.1; omega
      · rw [setF_ne ex]
  par := fun x hx => by
    by_cases ex : x = k
    · subst ex; rw [setF_self]; exact .inl rfl
    · rw [setF_ne ex]; exact t.par x hx
theorem Rep.unlink (h : Rep L P K) (t : Tree P K) (hk : InS k) (h0 : P k ≠ -1) (hl : L'.length = 738)
    (e1 : atL L' (5 * k + 1) = 0) (e3 : atL L' (5 * k + 3) = 0) (e4 : atL L' (5 * k + 4) = 0) (e2 : prv P K k = 0 → atL L' (5 * P k + 2) = nxt P K k)
    (e5 : ∀ y, InS y → prv P K k = y + 1 → atL L' (5 * y + 3) = nxt P K k) (e6 : ∀ x, InS x → nxt P K k = x + 1 → atL L' (5 * x + 4) = prv P K k)
    (e7 : ∀ j, j ≠ 5 * k + 1 → j ≠ 5 * k + 3 → j ≠ 5 * k + 4 → (prv P K k = 0 → j ≠ 5 * P k + 2) → (∀ y, InS y → prv P K k = y + 1 → j ≠ 5 * y + 3) → (∀ x, InS x → nxt P K k = x + 1 → j ≠ 5 * x + 4) → atL L' j = atL L j) :
    Rep L' (setF P k (-1)) (setF K (P k) ((K (P k)).erase k)) := by
  obtain ⟨hp, hm⟩ := t.mem hk h0
  have hn := t.nodup _ hp
  have hpos := t.kids0 hp
  have ea : nxt P K k = after k (K (P k)) := by rw [nxt, if_neg h0]
  have eb : prv P K k = before k (K (P k)) := by rw [prv, if_neg h0]
  have hz := before_zero hn hm hpos
  rw [← eb] at hz
  exact {
    len := hl
    p := fun i hi => by
      by_cases e : i = k
      · subst e; rw [setF_self, e1]; rfl
      · rw [setF_ne e, ← h.p i hi]
        exact e7 _ (by omega) (by omega) (by omega) (fun _ => by omega) (fun _ _ _ => by omega) (fun _ _ _ => by omega)
    f := fun i hi => by
      by_cases e : i = P k
      · subst e
        rw [setF_self, headK_erase, ← ea]
        by_cases e8 : prv P K k = 0
        · rw [e2 e8, if_pos (hz.1 e8)]
        · rw [if_neg (fun hh => e8 (hz.2 hh)), ← h.f _ hi]
          exact e7 _ (by omega) (by omega) (by omega) (fun hh => absurd hh e8) (fun _ _ _ => by omega) (fun _ _ _ => by omega)
      · rw [setF_ne e, ← h.f i hi]
        exact e7 _ (by omega) (by omega) (by omega) (fun _ => by omega) (fun _ _ _ => by omega) (fun _ _ _ => by omega)
    n := fun i hi => by
      by_cases e : i = k
      · subst e; rw [e3, nxt, setF_self, if_pos rfl]
      · have e7' : ¬ prv P K k = i + 1 → atL L' (5 * i + 3) = atL L (5 * i + 3) := fun hh => e7 _ (by omega) (by omega) (by omega) (fun _ => by omega) (fun y hy hy' => by omega) (fun _ _ _ => by omega)
        rw [nxt, setF_ne e]
        by_cases e8 : P i = P k
        · rw [e8, if_neg h0, setF_self, after_erase hn hk.1 e hpos]
          have him : i ∈ K (P k) := (t.kid _ i hp).2 ⟨hi, e8⟩
          have hab := after_before hn hi.1 hk.1 him
          by_cases e9 : after i (K (P k)) = k + 1
          · rw [if_pos e9, ← ea]
            exact e5 i hi (by rw [eb]; exact hab.1 e9)
          · rw [if_neg e9, e7' (fun hh => e9 (hab.2 (by rw [← eb]; exact hh))), h.n i hi, nxt, e8, if_neg h0]
        · have e9 : ¬ prv P K k = i + 1 := fun hh => by
            rw [eb] at hh
            exact e8 ((t.kid _ i hp).1 (before_mem hk.1 hh hi.1)).2
          rw [e7' e9, h.n i hi, nxt, setF_ne e8]
    v := fun i hi => by
      by_cases e : i = k
      · subst e; rw [e4, prv, setF_self, if_pos rfl]
      · have e7' : ¬ nxt P K k = i + 1 → atL L' (5 * i + 4) = atL L (5 * i + 4) := fun hh => e7 _ (by omega) (by omega) (by omega) (fun _ => by omega) (fun _ _ _ => by omega) (fun x hx hx' => by omega)
        rw [prv, setF_ne e]
        by_cases e8 : P i = P k
        · rw [e8, if_neg h0, setF_self, before_erase hn hk.1 hi.1 e hpos]
          have hab := after_before hn hk.1 hi.1 hm
          by_cases e9 : before i (K (P k)) = k + 1
          · rw [if_pos e9, ← eb]
            exact e6 i hi (by rw [ea]; exact hab.2 e9)
          · rw [if_neg e9, e7' (fun hh => e9 (hab.1 (by rw [← ea]; exact hh))), h.v i hi, prv, e8, if_neg h0]
        · have e9 : ¬ nxt P K k = i + 1 := fun hh => by
            rw [ea] at hh
            exact e8 ((t.kid _ i hp).1 (after_mem hh hi.1)).2
          rw [e7' e9, h.v i hi, prv, setF_ne e8] }
end
/-- one slot stands for another one -/
def repP (P : Int → Int) (K : Int → List Int) (a b : Int) : Int → Int := fun x => if x ∈ K a then b else if x = a then -1 else if x = b then P a else P x
def repK (P : Int → Int) (K : Int → List Int) (a b : Int) : Int → List Int := fun q => if q = b then K a else if q = a then [] else if q = P a then (K q).map (swapK a b) else K q
section
variable {L L' : List Int} {P : Int → Int} {K : Int → List Int} {a b : Int}
theorem repP_kid {x : Int} (h : x ∈ K a) : repP P K a b x = b := if_pos h
theorem repP_a (h : a ∉ K a) : repP P K a b a = -1 := by rw [repP, if_neg h, if_pos rfl]
theorem repP_b (h : b ∉ K a) (hab : a ≠ b) : repP P K a b b = P a := by rw [repP, if_neg h, if_neg (fun e => hab e.symm), if_pos rfl]
theorem repP_else {x : Int} (h : x ∉ K a) (h1 : x ≠ a) (h2 : x ≠ b) : repP P K a b x = P x := by rw [repP, if_neg h, if_neg h1, if_neg h2]
theorem repK_b : repK P K a b b = K a := if_pos rfl
theorem repK_a (hab : a ≠ b) : repK P K a b a = [] := by rw [repK, if_neg hab, if_pos rfl]
theorem repK_p {q : Int} (h1 : q ≠ a) (h2 : q ≠ b) (h3 : q = P a) : repK P K a b q = (K q).map (swapK a b) := by rw [repK, if_neg h2, if_neg h1, if_pos h3]
theorem repK_else {q : Int} (h1 : q ≠ a) (h2 : q ≠ b) (h3 : q ≠ P a) : repK P K a b q = K q := by rw [repK, if_neg h2, if_neg h1, if_neg h3]
/-- what holds of two slots of which one takes the other one's place -/
structure Repl (P : Int → Int) (K : Int → List Int) (a b : Int) : Prop where
  tree : Tree P K
  ia : InS a
  ib : InS b
  ne : a ≠ b
  pb : P b = -1
  kb : K b = []
theorem Repl.aa (r : Repl P K a b) : a ∉ K a := fun h => by
  have h1 := ((r.tree.kid a a r.ia).1 h).2
  rcases r.tree.par a r.ia with h2 | ⟨-, h2⟩
  · have := r.ia.1; omega
  · exact h2 h1
theorem Repl.out (r : Repl P K a b) {q : Int} (hq : InS q) : b ∉ K q := r.tree.out r.pb hq
theorem Repl.pab (r : Repl P K a b) : P a ≠ b := fun h => by
  have := (r.tree.kid b a r.ib).2 ⟨r.ia, h⟩
  rw [r.kb] at this
  simp at this
theorem Repl.paa (r : Repl P K a b) : P a ≠ a := fun h => by
  rcases r.tree.par a r.ia with h2 | ⟨-, h2⟩
  · have := r.ia.1; omega
  · exact h2 h
theorem Repl.to (r : Repl P K a b) : Tree (repP P K a b) (repK P K a b) where
  nodup := fun q hq => by
    by_cases e1 : q = b
    · subst e1; rw [repK_b]; exact r.tree.nodup a r.ia
    by_cases e2 : q = a
    · subst e2; rw [repK_a r.ne]; exact List.nodup_nil
    by_cases e3 : q = P a
    · rw [repK_p e2 e1 e3]; exact swap_nodup (r.tree.nodup q hq) (r.out hq)
    · rw [repK_else e2 e1 e3]; exact r.tree.nodup q hq
  kid := fun q x hq => by
    have t := r.tree
    have hxa : x ∈ K a ↔ InS x ∧ P x = a := t.kid a x r.ia
    by_cases e1 : q = b
    · subst e1
      rw [repK_b]
      constructor
      · intro h; exact ⟨(hxa.1 h).1, repP_kid h⟩
      · rintro ⟨h1, h2⟩
        by_cases h : x ∈ K a
        · exact h
        exfalso
        by_cases ea : x = a
        · rw [ea, repP_a r.aa] at h2; have := hq.1; omega
        by_cases eb : x = q
        · rw [eb, repP_b (r.out r.ia) r.ne] at h2; exact r.pab h2
        · rw [repP_else h ea eb] at h2
          have := (t.kid q x hq).2 ⟨h1, h2⟩
          rw [r.kb] at this
          simp at this
    by_cases e2 : q = a
    · subst e2
      rw [repK_a r.ne]
      constructor
      · intro h; simp at h
      · rintro ⟨h1, h2⟩
        exfalso
        by_cases h : x ∈ K q
        · rw [repP_kid h] at h2; exact e1 h2.symm
        by_cases ea : x = q
        · rw [ea, repP_a r.aa] at h2; have := hq.1; omega
        by_cases eb : x = b
        · rw [eb, repP_b (r.out r.ia) r.ne] at h2; exact r.paa h2
        · rw [repP_else h ea eb] at h2; exact h (hxa.2 ⟨h1, h2⟩)
    by_cases e3 : q = P a
    · rw [repK_p e2 e1 e3, swap_mem (r.out hq)]
      constructor
      · rintro (⟨rfl, -⟩ | ⟨h1, h2⟩)
        · exact ⟨r.ib, by rw [repP_b (r.out r.ia) r.ne, e3]⟩
        · obtain ⟨h3, h4⟩ := (t.kid q x hq).1 h2
          refine ⟨h3, ?_⟩
          rw [repP_else (fun hm => e2 (h4.symm.trans (hxa.1 hm).2)) h1 (fun e : x = b => r.out hq (by rw [← e]; exact h2))]
          exact h4
      · rintro ⟨h1, h2⟩
        by_cases h : x ∈ K a
        · rw [repP_kid h] at h2; exact absurd h2.symm e1
        by_cases ea : x = a
        · rw [ea, repP_a r.aa] at h2; have := hq.1; omega
        by_cases eb : x = b
        · exact .inl ⟨eb, (t.kid q a hq).2 ⟨r.ia, e3.symm⟩⟩
        · rw [repP_else h ea eb] at h2
          exact .inr ⟨ea, (t.kid q x hq).2 ⟨h1, h2⟩⟩
    · rw [repK_else e2 e1 e3, t.kid q x hq]
      constructor
      · rintro ⟨h1, h2⟩
        refine ⟨h1, ?_⟩
        by_cases h : x ∈ K a
        · exact absurd (h2.symm.trans (hxa.1 h).2) e2
        by_cases ea : x = a
        · rw [ea] at h2; exact absurd h2.symm e3
        by_cases eb : x = b
        · rw [eb, r.pb] at h2; have := hq.1; omega
        · rw [repP_else h ea eb]; exact h2
      · rintro ⟨h1, h2⟩
        refine ⟨h1, ?_⟩
        by_cases h : x ∈ K a
        · rw [repP_kid h] at h2; exact absurd h2.symm e1
        by_cases ea : x = a
        · rw [ea, repP_a r.aa] at h2; have := hq.1; omega
        by_cases eb : x = b
        · rw [eb, repP_b (r.out r.ia) r.ne] at h2; exact absurd h2.symm e3
        · rw [repP_else h ea eb] at h2; exact h2
  par := fun x hx => by
    by_cases h : x ∈ K a
    · rw [repP_kid h]; exact .inr ⟨r.ib, fun e => r.out r.ia (by rw [e]; exact h)⟩
    by_cases ea : x = a
    · subst ea; rw [repP_a r.aa]; exact .inl rfl
    by_cases eb : x = b
    · subst eb
      rw [repP_b (r.out r.ia) r.ne]
      rcases r.tree.par a r.ia with h2 | ⟨h2, -⟩
      · exact .inl h2
      · exact .inr ⟨h2, r.pab⟩
    · rw [repP_else h ea eb]; exact r.tree.par x hx
theorem Rep.replace (h : Rep L P K) (r : Repl P K a b) (hl : L'.length = 738)
    (b1 : atL L' (5 * b + 1) = P a + 1) (b2 : atL L' (5 * b + 2) = headK (K a)) (b3 : atL L' (5 * b + 3) = nxt P K a) (b4 : atL L' (5 * b + 4) = prv P K a)
    (a1 : atL L' (5 * a + 1) = 0) (a2 : atL L' (5 * a + 2) = 0) (a3 : atL L' (5 * a + 3) = 0) (a4 : atL L' (5 * a + 4) = 0)
    (ep : P a ≠ -1 → prv P K a = 0 → atL L' (5 * P a + 2) = b + 1) (ey : ∀ y, InS y → prv P K a = y + 1 → atL L' (5 * y + 3) = b + 1) (ex : ∀ x, InS x → nxt P K a = x + 1 → atL L' (5 * x + 4) = b + 1) (ek : ∀ x, x ∈ K a → atL L' (5 * x + 1) = b + 1)
    (e7 : ∀ j, (∀ f, 1 ≤ f → f ≤ 4 → j ≠ 5 * a + f) → (∀ f, 1 ≤ f → f ≤ 4 → j ≠ 5 * b + f) → (P a ≠ -1 → prv P K a = 0 → j ≠ 5 * P a + 2) → (∀ y, InS y → prv P K a = y + 1 → j ≠ 5 * y + 3) → (∀ x, InS x → nxt P K a = x + 1 → j ≠ 5 * x + 4) → (∀ x, x ∈ K a → j ≠ 5 * x + 1) → atL L' j = atL L j) :
    Rep L' (repP P K a b) (repK P K a b) := by
  have t := r.tree
  have hkid := fun x (hx : x ∈ K a) => (t.kid a x r.ia).1 hx
  have ha0 := r.ia.1
  have hb0 := r.ib.1
  have hne := r.ne
  have hin : P a ≠ -1 → InS (P a) ∧ a ∈ K (P a) := fun hh => t.mem r.ia hh
  have hprv : ∀ i, InS i → prv P K a = i + 1 → P a ≠ -1 ∧ P i = P a ∧ before a (K (P a)) = i + 1 := fun i hi hh => by
    unfold prv at hh
    split at hh
    · have := hi.1; omega
    · next h0 => exact ⟨h0, ((t.kid _ i (hin h0).1).1 (before_mem ha0 hh hi.1)).2, hh⟩
  have hnxt : ∀ i, InS i → nxt P K a = i + 1 → P a ≠ -1 ∧ P i = P a ∧ after a (K (P a)) = i + 1 := fun i hi hh => by
    unfold nxt at hh
    split at hh
    · have := hi.1; omega
    · next h0 => exact ⟨h0, ((t.kid _ i (hin h0).1).1 (after_mem hh hi.1)).2, hh⟩
  have n7 : ∀ i, InS i → i ≠ a → i ≠ b → ¬ prv P K a = i + 1 → atL L' (5 * i + 3) = nxt P K i := fun i hi h1 h2 h3 => by
    rw [← h.n i hi]
    exact e7 _ (fun f _ _ => by omega) (fun f _ _ => by omega) (fun _ _ => by omega) (fun y _ hy => by omega) (fun _ _ _ => by omega) (fun _ _ => by omega)
  have v7 : ∀ i, InS i → i ≠ a → i ≠ b → ¬ nxt P K a = i + 1 → atL L' (5 * i + 4) = prv P K i := fun i hi h1 h2 h3 => by
    rw [← h.v i hi]
    exact e7 _ (fun f _ _ => by omega) (fun f _ _ => by omega) (fun _ _ => by omega) (fun _ _ _ => by omega) (fun x _ hx => by omega) (fun _ _ => by omega)
  have hdown : ∀ i, InS i → i ∉ K a → P i ≠ a := fun i hi hh e => hh ((t.kid a i r.ia).2 ⟨hi, e⟩)
  have hdownb : ∀ i, InS i → P i ≠ b := fun i hi e => by
    have := (t.kid b i r.ib).2 ⟨hi, e⟩
    rw [r.kb] at this
    simp at this
  exact {
    len := hl
    p := fun i hi => by
      by_cases h1 : i ∈ K a
      · rw [repP_kid h1]; exact ek i h1
      by_cases h2 : i = a
      · subst h2; rw [repP_a r.aa, a1]; rfl
      by_cases h3 : i = b
      · subst h3; rw [repP_b (r.out r.ia) r.ne, b1]
      · rw [repP_else h1 h2 h3, ← h.p i hi]
        exact e7 _ (fun f _ _ => by omega) (fun f _ _ => by omega) (fun _ _ => by omega) (fun _ _ _ => by omega) (fun _ _ _ => by omega) (fun x hx hh => h1 (by
          have : i = x := by omega
          rw [this]; exact hx))
    f := fun i hi => by
      by_cases h3 : i = b
      · subst h3; rw [repK_b, b2]
      by_cases h2 : i = a
      · subst h2; rw [repK_a r.ne, a2, headK_nil]
      have f7 : ¬ (P a ≠ -1 ∧ prv P K a = 0 ∧ i = P a) → atL L' (5 * i + 2) = headK (K i) := fun hh => by
        rw [← h.f i hi]
        exact e7 _ (fun f _ _ => by omega) (fun f _ _ => by omega) (fun h4 h5 => fun h6 => hh ⟨h4, h5, by omega⟩) (fun _ _ _ => by omega) (fun _ _ _ => by omega) (fun _ _ => by omega)
      by_cases h4 : i = P a
      · rw [repK_p h2 h3 h4, headK_swap ha0]
        have h5 : P a ≠ -1 := by have := hi.1; omega
        have hz := before_zero (t.nodup _ hi) (k := a) (by rw [h4]; exact (hin h5).2) (t.kids0 hi)
        have hp : prv P K a = before a (K i) := by rw [prv, if_neg h5, h4]
        by_cases h6 : headK (K i) = a + 1
        · rw [if_pos h6, h4]
          exact ep h5 (by rw [hp]; exact hz.2 h6)
        · rw [if_neg h6]
          exact f7 (fun hh => h6 (hz.1 (by rw [← hp]; exact hh.2.1)))
      · rw [repK_else h2 h3 h4]
        exact f7 (fun hh => h4 hh.2.2)
    n := fun i hi => by
      by_cases h1 : i ∈ K a
      · have hpi := (hkid i h1).2
        have hib : i ≠ b := fun e => r.out r.ia (by rw [← e]; exact h1)
        have hia : i ≠ a := fun e => r.aa (by have h9 := h1; rw [e] at h9; exact h9)
        have hb1 : ¬ b = -1 := by omega
        have ha1 : ¬ a = -1 := by omega
        rw [nxt, repP_kid h1, if_neg hb1, repK_b, n7 i hi hia hib (fun hh => r.paa ((hprv i hi hh).2.1 ▸ hpi)), nxt, hpi, if_neg ha1]
      by_cases h2 : i = a
      · subst h2; rw [nxt, repP_a r.aa, if_pos rfl, a3]
      by_cases h3 : i = b
      · subst h3
        rw [nxt, repP_b (r.out r.ia) r.ne, b3, nxt]
        by_cases h4 : P a = -1
        · rw [if_pos h4, if_pos h4]
        · rw [if_neg h4, if_neg h4, repK_p r.paa r.pab rfl, after_swap_self ha0 (t.nodup _ (hin h4).1) (r.out (hin h4).1)]
      rw [nxt, repP_else h1 h2 h3]
      by_cases h4 : P i = -1
      · have h5 : ¬ prv P K a = i + 1 := fun hh => by
          obtain ⟨q1, q2, -⟩ := hprv i hi hh
          exact q1 (q2 ▸ h4)
        rw [if_pos h4, n7 i hi h2 h3 h5, nxt, if_pos h4]
      rw [if_neg h4]
      have hpi := (t.mem hi h4)
      by_cases h5 : P i = P a
      · have h6 : P a ≠ -1 := fun e => h4 (h5.trans e)
        rw [repK_p (hdown i hi h1) (hdownb i hi) h5, after_swap ha0 h2 h3]
        have hab := after_before (t.nodup _ hpi.1) hi.1 ha0 hpi.2
        by_cases h7 : after i (K (P i)) = a + 1
        · rw [if_pos h7]
          exact ey i hi (by rw [prv, if_neg h6, ← h5]; exact hab.1 h7)
        · rw [if_neg h7, n7 i hi h2 h3 (fun hh => h7 (hab.2 (by rw [h5]; exact (hprv i hi hh).2.2))), nxt, if_neg h4]
      · rw [repK_else (hdown i hi h1) (hdownb i hi) h5, n7 i hi h2 h3 (fun hh => h5 (hprv i hi hh).2.1), nxt, if_neg h4]
    v := fun i hi => by
      by_cases h1 : i ∈ K a
      · have hpi := (hkid i h1).2
        have hib : i ≠ b := fun e => r.out r.ia (by rw [← e]; exact h1)
        have hia : i ≠ a := fun e => r.aa (by have h9 := h1; rw [e] at h9; exact h9)
        have hb1 : ¬ b = -1 := by omega
        have ha1 : ¬ a = -1 := by omega
        rw [prv, repP_kid h1, if_neg hb1, repK_b, v7 i hi hia hib (fun hh => r.paa ((hnxt i hi hh).2.1 ▸ hpi)), prv, hpi, if_neg ha1]
      by_cases h2 : i = a
      · subst h2; rw [prv, repP_a r.aa, if_pos rfl, a4]
      by_cases h3 : i = b
      · subst h3
        rw [prv, repP_b (r.out r.ia) r.ne, b4, prv]
        by_cases h4 : P a = -1
        · rw [if_pos h4, if_pos h4]
        · rw [if_neg h4, if_neg h4, repK_p r.paa r.pab rfl, before_swap_self ha0 hb0 (t.nodup _ (hin h4).1) (r.out (hin h4).1)]
      rw [prv, repP_else h1 h2 h3]
      by_cases h4 : P i = -1
      · have h5 : ¬ nxt P K a = i + 1 := fun hh => by
          obtain ⟨q1, q2, -⟩ := hnxt i hi hh
          exact q1 (q2 ▸ h4)
        rw [if_pos h4, v7 i hi h2 h3 h5, prv, if_pos h4]
      rw [if_neg h4]
      have hpi := (t.mem hi h4)
      by_cases h5 : P i = P a
      · have h6 : P a ≠ -1 := fun e => h4 (h5.trans e)
        rw [repK_p (hdown i hi h1) (hdownb i hi) h5, before_swap ha0 hi.1 h2 h3]
        have hma : a ∈ K (P i) := by rw [h5]; exact (hin h6).2
        have hab := after_before (t.nodup _ hpi.1) ha0 hi.1 hma
        by_cases h7 : before i (K (P i)) = a + 1
        · rw [if_pos h7]
          exact ex i hi (by rw [nxt, if_neg h6, ← h5]; exact hab.2 h7)
        · rw [if_neg h7, v7 i hi h2 h3 (fun hh => h7 (hab.1 (by rw [h5]; exact (hnxt i hi hh).2.2))), prv, if_neg h4]
      · rw [repK_else (hdown i hi h1) (hdownb i hi) h5, v7 i hi h2 h3 (fun hh => h5 (hnxt i hi hh).2.1), prv, if_neg h4] }
end
end Go.Proofs.Ytihipcbhfjpgbaa
