/- Words and the document's state, one and the same tree (layer 10), and what each call comes to on both: as mathematics. -/
import Derived.Test.YtlhcigpllkigdaaCdtWords
import Derived.Test.YtlhcigpllkigdaaJ7
namespace Go.Proofs.Ytlhcigpllkigdaa
open Go.RowKit
theorem slotOk_is {i : Int} : slotOk i = slotB i 0 := by
  cases h : slotOk i with
  | true => have := slotOk_yes.1 h; exact (slotB_yes.2 ⟨this.1, this.2, by omega, by omega⟩).symm
  | false => have := slotOk_no.1 h; exact (slotB_no.2 (.inl this)).symm
theorem slotOk_in {i : Int} : slotOk i = true ↔ InS i := slotOk_yes
theorem slotB_in {i : Int} : slotB i 0 = true ↔ InS i := by rw [← slotOk_is]; exact slotOk_yes
/-- words L tell the tree of state S, and nothing else -/
structure Cur (L : List Int) (S : RSt) : Prop where
  tree : Tree S.par S.kids
  rep : Rep L S.par S.kids
  far : ∀ j, Far j → atL L j = 0
  bare : S.Bare
  out : ∀ i, ¬ InS i → S.par i = -1 ∧ S.kids i = []
section
variable {L : List Int} {S : RSt} {i k p a b x : Int}
theorem Cur.words (c : Cur L S) : L = wordsL S := by
  obtain ⟨h1, h2⟩ := words_rep c.bare c.tree
  exact c.rep.same h1 c.tree (fun _ _ => rfl) (fun _ _ => rfl) (fun j hj => by rw [c.far j hj, h2 j hj])
theorem Cur.pars (c : Cur L S) : S.Pars := fun i => by
  by_cases hi : InS i
  · have := c.tree.par_rng hi; omega
  · rw [(c.out i hi).1]; omega
theorem Cur.short (c : Cur L S) : S.Short := fun i => by
  by_cases hi : InS i
  · have := c.tree.short hi; omega
  · rw [(c.out i hi).2]; simp
theorem Cur.kidsIn (c : Cur L S) : S.KidsIn := fun _ hi => c.tree.kids hi
theorem Cur.fit (c : Cur L S) : S.Fit where
  cap := fun i _ => by rw [c.bare.cap]; exact ⟨by decide, by decide, by decide, by decide, by decide, by decide, by decide, by decide, by decide, by decide, by decide, by decide⟩
  par := fun i hi => by have := c.tree.par_rng hi; omega
  kids := fun i hi => c.tree.kids hi
  ns := by rw [c.bare.ns]; exact ⟨by omega, by omega⟩
  no := by rw [c.bare.no]; exact ⟨by omega, by omega⟩
theorem Cur.hne (c : Cur L S) : ∀ i : Int, InS i → S.par i ≠ i := fun i hi e => by
  rcases c.tree.par i hi with h | ⟨-, h⟩
  · have := hi.1; omega
  · exact h e
theorem Cur.par (c : Cur L S) (i : Int) : toldL L i 1 = S.par i := by
  by_cases hi : InS i
  · exact c.rep.told1 c.tree hi
  · have e : slotB i 1 = false := slotB_no.2 (by unfold InS at hi; omega)
    unfold toldL
    rw [if_neg (by simp [e]), (c.out i hi).1]
theorem Cur.kids (c : Cur L S) (i : Int) : kidsL L i = S.kids i := by
  by_cases hi : InS i
  · exact c.rep.kids c.tree hi
  · rw [kids_out hi, (c.out i hi).2]
theorem Cur.leaf_from (c : Cur L S) : ∀ (n : Nat) (i : Int), InS i → leafN L n i = leafR S.kids n i := by
  intro n
  induction n with
  | zero => intro i _; rfl
  | succ n ih =>
    intro i hi
    rw [show leafN L (n + 1) i = if toldL L i 2 = -1 then i else leafN L n (toldL L i 2) from rfl, c.rep.told2 c.tree hi]
    cases h : S.kids i with
    | nil => rw [headK_nil, if_pos (by omega), leafR_nil h]
    | cons y l =>
      have hy := c.tree.kids hi y (by rw [h]; simp)
      have hy0 := hy.1
      rw [headK_cons, if_neg (by omega), leafR_cons h, show y + 1 - 1 = y by omega, ih y hy]
theorem Cur.leaf (c : Cur L S) (i : Int) : leafL L i = leafS S i := by
  unfold leafL leafS
  rw [slotOk_is]
  split
  · next h => exact c.leaf_from 96 i (slotB_in.1 h)
  · rfl
theorem Cur.link (c : Cur L S) (k p : Int) : linkA L k p = linkN S k p ∧ Cur (linkL L k p) (linkS S k p) := by
  have e1 : linkA L k p = linkN S k p := by
    unfold linkA linkN
    rw [slotOk_is, slotOk_is, c.par k]
    by_cases h1 : slotB k 0 = false ∨ slotB p 0 = false
    · rw [if_pos h1, if_pos h1]
    rw [if_neg h1, if_neg h1]
    have hk : slotB k 0 = true := by cases hh : slotB k 0 <;> simp_all
    have hr := c.tree.par_rng (slotB_in.1 hk)
    by_cases h2 : k = p
    · rw [if_pos h2, if_pos (.inl h2)]
    rw [if_neg h2]
    by_cases h3 : S.par k = -1
    · rw [if_neg (by simp [h3]), if_neg (by omega)]
    · rw [if_pos h3, if_pos (by omega)]
  refine ⟨e1, ?_⟩
  unfold linkS
  by_cases h0 : linkN S k p = 0
  · rw [if_pos h0]
    have h1 : ¬ (slotOk k = false ∨ slotOk p = false) := fun h => by rw [linkN, if_pos h] at h0; omega
    have h2 : ¬ (k = p ∨ 0 ≤ S.par k) := fun h => by rw [linkN, if_neg h1, if_pos h] at h0; omega
    have hk : InS k := slotOk_in.1 (by cases hh : slotOk k <;> simp_all)
    have hp : InS p := slotOk_in.1 (by cases hh : slotOk p <;> simp_all)
    have hr := c.tree.par_rng hk
    obtain ⟨-, q1, q2⟩ := c.rep.link_to c.tree hk hp (fun e => h2 (.inl e)) (by omega)
    exact { tree := c.tree.link hk hp (fun e => h2 (.inl e)) (by omega)
            rep := q1
            far := fun j hj => by rw [q2 j hj]; exact c.far j hj
            bare := ⟨c.bare.cap, c.bare.ob, c.bare.ns, c.bare.no⟩
            out := fun i hi => by
              have e1 : i ≠ k := fun e => hi (e ▸ hk)
              have e2 : i ≠ p := fun e => hi (e ▸ hp)
              show setF S.par k p i = -1 ∧ setF S.kids p (k :: S.kids p) i = []
              rw [setF_ne e1, setF_ne e2]
              exact c.out i hi }
  · rw [if_neg h0]
    have : linkL L k p = L := by unfold linkL; rw [if_neg (by rw [e1]; exact h0)]
    rw [this]
    exact c
theorem Cur.unlink (c : Cur L S) (k : Int) : unlinkA k = unlinkN k ∧ Cur (unlinkL L k) (unlinkS S k) := by
  refine ⟨by unfold unlinkA unlinkN; rw [slotOk_is], ?_⟩
  unfold unlinkS
  by_cases h1 : slotOk k = true
  · have hk := slotOk_in.1 h1
    have hr := c.tree.par_rng hk
    by_cases h2 : 0 ≤ S.par k
    · rw [if_pos ⟨h1, h2⟩]
      obtain ⟨q1, q2⟩ := c.rep.unlink_to c.tree hk (by omega)
      have hp := (c.tree.mem hk (by omega)).1
      exact { tree := c.tree.unlink hk (by omega)
              rep := q1
              far := fun j hj => by rw [q2 j hj]; exact c.far j hj
              bare := ⟨c.bare.cap, c.bare.ob, c.bare.ns, c.bare.no⟩
              out := fun i hi => by
                have e1 : i ≠ k := fun e => hi (e ▸ hk)
                have e2 : i ≠ S.par k := fun e => hi (e ▸ hp)
                show setF S.par k (-1) i = -1 ∧ setF S.kids (S.par k) ((S.kids (S.par k)).erase k) i = []
                rw [setF_ne e1, setF_ne e2]
                exact c.out i hi }
    · rw [if_neg (fun h => h2 h.2), unlink_none c.rep c.tree hk (by omega)]
      exact c
  · rw [if_neg (fun h => h1 h.1)]
    have : unlinkL L k = L := by unfold unlinkL; rw [if_neg (fun h => h1 (by rw [slotOk_is]; exact h.1))]
    rw [this]
    exact c
theorem parsTo_at : ∀ (l : List Int) (P : Int → Int), parsTo P l b x = if x ∈ l then b else P x := by
  intro l
  induction l with
  | nil => intro P; simp [parsTo]
  | cons y l ih =>
    intro P
    rw [show parsTo P (y :: l) b = parsTo (setF P y b) l b from rfl, ih]
    by_cases h : x ∈ l
    · rw [if_pos h, if_pos (by simp [h])]
    · rw [if_neg h]
      by_cases e : x = y
      · subst e; rw [setF_self, if_pos (by simp)]
      · rw [setF_ne e, if_neg (by simp [h, e])]
theorem Cur.replace (c : Cur L S) (a b : Int) : replaceA L a b = replaceN S a b ∧ Cur (replaceL L a b) (replaceS S a b) := by
  have e1 : replaceA L a b = replaceN S a b := by
    unfold replaceA replaceN
    rw [slotOk_is, slotOk_is, c.par b]
    by_cases h1 : slotB a 0 = false ∨ slotB b 0 = false
    · rw [if_pos h1, if_pos h1]
    rw [if_neg h1, if_neg h1]
    have hb : slotB b 0 = true := by cases hh : slotB b 0 <;> simp_all
    have hr := c.tree.par_rng (slotB_in.1 hb)
    rw [c.rep.told2 c.tree (slotB_in.1 hb)]
    by_cases h2 : a = b
    · rw [if_pos h2, if_pos (.inl h2)]
    rw [if_neg h2]
    by_cases h3 : S.par b = -1
    · rw [if_neg (by simp [h3])]
      cases hK : S.kids b with
      | nil => rw [headK_nil, if_neg (by omega), if_neg (by simp [h2]; omega)]
      | cons y l =>
        have hy := (c.tree.kids (slotB_in.1 hb) y (by rw [hK]; simp)).1
        rw [headK_cons, if_pos (by omega), if_pos (by simp)]
    · rw [if_pos h3, if_pos (by omega)]
  refine ⟨e1, ?_⟩
  unfold replaceS
  by_cases h0 : replaceN S a b = 0
  · rw [if_pos h0]
    have h1 : ¬ (slotOk a = false ∨ slotOk b = false) := fun h => by rw [replaceN, if_pos h] at h0; omega
    have h2 : ¬ (a = b ∨ 0 ≤ S.par b ∨ S.kids b ≠ []) := fun h => by rw [replaceN, if_neg h1, if_pos h] at h0; omega
    have ha : InS a := slotOk_in.1 (by cases hh : slotOk a <;> simp_all)
    have hb : InS b := slotOk_in.1 (by cases hh : slotOk b <;> simp_all)
    have hr := c.tree.par_rng hb
    have hra := c.tree.par_rng ha
    have hkb : S.kids b = [] := by
      by_cases e : S.kids b = []
      · exact e
      · exact absurd (.inr (.inr e)) h2
    have r : Repl S.par S.kids a b := ⟨c.tree, ha, hb, fun e => h2 (.inl e), by omega, hkb⟩
    obtain ⟨-, q1, q2⟩ := c.rep.replace_to r
    have hpa := r.paa
    have ek : kids1 S a b a = S.kids a := by
      unfold kids1
      split
      · rw [setF_ne (fun e => hpa e.symm)]
      · rfl
    have eP : (replaceOk S a b).par = repP S.par S.kids a b := by
      funext x
      show parsTo (setF (setF S.par b (S.par a)) a (-1)) (kids1 S a b a) b x = _
      rw [ek, parsTo_at, repP]
      by_cases h3 : x ∈ S.kids a
      · rw [if_pos h3, if_pos h3]
      rw [if_neg h3, if_neg h3]
      rfl
    have eK : (replaceOk S a b).kids = repK S.par S.kids a b := by
      funext q
      show setF (setF (kids1 S a b) b (kids1 S a b a)) a [] q = _
      rw [ek, repK]
      by_cases h3 : q = a
      · subst h3; rw [setF_self, if_neg r.ne, if_pos rfl]
      rw [setF_ne h3]
      by_cases h4 : q = b
      · subst h4; rw [setF_self, if_pos rfl]
      rw [setF_ne h4, if_neg h4, if_neg h3]
      unfold kids1
      by_cases h5 : 0 ≤ S.par a
      · rw [if_pos h5]
        by_cases h6 : q = S.par a
        · rw [if_pos h6, h6, setF_self]
        · rw [if_neg h6, setF_ne h6]
      · rw [if_neg h5]
        by_cases h6 : q = S.par a
        · have : ¬ InS q := fun h => by have := h.1; omega
          rw [if_pos h6, (c.out q this).2]
          rfl
        · rw [if_neg h6]
    exact { tree := by rw [eP, eK]; exact r.to
            rep := by rw [eP, eK]; exact q1
            far := fun j hj => by rw [q2 j hj]; exact c.far j hj
            bare := ⟨c.bare.cap, c.bare.ob, c.bare.ns, c.bare.no⟩
            out := fun i hi => by
              have e1 : i ≠ a := fun e => hi (e ▸ ha)
              have e2 : i ≠ b := fun e => hi (e ▸ hb)
              have e3 : i ∉ S.kids a := fun e => hi (c.tree.kids ha i e)
              rw [eP, eK, repP_else e3 e1 e2, repK, if_neg e2, if_neg e1]
              obtain ⟨o1, o2⟩ := c.out i hi
              rw [o2]
              exact ⟨o1, by split <;> rfl⟩ }
  · rw [if_neg h0]
    have : replaceL L a b = L := by unfold replaceL; rw [if_neg (by rw [e1]; exact h0)]
    rw [this]
    exact c
theorem Cur.new : Cur zeros RSt.new where
  tree := ⟨fun _ _ => List.nodup_nil, fun p k hp => by
    show k ∈ ([] : List Int) ↔ InS k ∧ (-1 : Int) = p
    constructor
    · intro h; simp at h
    · intro h; have := hp.1; omega, fun _ _ => .inl rfl⟩
  rep := ⟨zeros_len, fun _ _ => by rw [zeros_at]; rfl, fun _ _ => by rw [zeros_at]; rfl, fun _ _ => by rw [zeros_at]; rfl, fun _ _ => by rw [zeros_at]; rfl⟩
  far := fun j _ => zeros_at j
  bare := ⟨fun _ => rfl, fun _ => rfl, rfl, rfl⟩
  out := fun _ _ => ⟨rfl, rfl⟩
/-- errors are few -/
theorem linkN_rng : linkN S k p = 0 ∨ (1 ≤ linkN S k p ∧ linkN S k p ≤ 14) := by
  unfold linkN
  repeat' split
  all_goals omega
theorem unlinkN_rng : unlinkN k = 0 ∨ (1 ≤ unlinkN k ∧ unlinkN k ≤ 14) := by
  unfold unlinkN
  split <;> omega
theorem replaceN_rng : replaceN S a b = 0 ∨ (1 ≤ replaceN S a b ∧ replaceN S a b ≤ 14) := by
  unfold replaceN
  repeat' split
  all_goals omega
end
end Go.Proofs.Ytlhcigpllkigdaa
