/- Words and the document's state, one and the same, whatever its objects are (layers 12 to 22): what each call on slots comes to on both, as mathematics. -/
import Derived.Test.YtihipcbhfjpgbaaJ6
import Derived.Test.YtihipcbhfjpgbaaRefSpecM
import Derived.Test.YtihipcbhfjpgbaaCdtCur
import Derived.Test.YtihipcbhfjpgbaaJ1
import Derived.Test.YtihipcbhfjpgbaaMem
import Derived.Laws.BitsLemmas
import Derived.IntWalk
namespace Go.Proofs.Ytihipcbhfjpgbaa
open Go.RowKit
theorem far_cap {i : Int} (_h : InS i) : Far (5 * i) := fun k f _ h1 h2 => by omega
theorem far_obj {j : Int} (h : 480 ≤ j) : Far j := fun k f hk h1 h2 => by have := hk.2; omega
/-- a word that is no slot's, of a state -/
def restW (S : RSt) (j : Int) : Int := if j < 738 then putF 737 S.no j (putF 736 S.ns j (effs S j 0 32)) else 0
/-- words L are those of state S -/
structure Gur (L : List Int) (S : RSt) : Prop where
  tree : Tree S.par S.kids
  rep : Rep L S.par S.kids
  cap : ∀ i, InS i → atL L (5 * i) = (S.cap i).word
  rest : ∀ j, 480 ≤ j → atL L j = restW S j
  out : ∀ i, ¬ InS i → S.par i = -1 ∧ S.kids i = []
/-- who is in a queue is numbered from 0 on -/
def RSt.Queued (S : RSt) : Prop := ∀ i : Nat, i < 32 → ∀ t, t ∈ (S.ob i).queue → 0 ≤ t
theorem wordsG_low {S : RSt} (hq : S.Queued) {j : Int} (h0 : 0 ≤ j) (h1 : j < 480) : atL (wordsG S) j = atL (slotsL S) j := by
  rw [wordsG_at S ⟨h0, by omega⟩, putF_ne (by omega), putF_ne (by omega), effs_far (n := 0) (m := 32) (by omega) (fun i _ hi d => effF_far (fun f _ => by unfold ow; omega) (fun t ht => by have := hq i hi t ht; omega))]
  rfl
theorem wordsG_rep {S : RSt} (t : Tree S.par S.kids) (hq : S.Queued) : Rep (wordsG S) S.par S.kids := by
  obtain ⟨⟨-, h1, h2, h3, h4⟩, -, -⟩ := slotsL_rep t
  exact ⟨wordsG_len S, fun i hi => by rw [wordsG_low hq (by have := hi.1; omega) (by have := hi.2; omega), h1 i hi], fun i hi => by rw [wordsG_low hq (by have := hi.1; omega) (by have := hi.2; omega), h2 i hi],
    fun i hi => by rw [wordsG_low hq (by have := hi.1; omega) (by have := hi.2; omega), h3 i hi], fun i hi => by rw [wordsG_low hq (by have := hi.1; omega) (by have := hi.2; omega), h4 i hi]⟩
theorem wordsG_cap {S : RSt} (t : Tree S.par S.kids) (hq : S.Queued) {i : Int} (hi : InS i) : atL (wordsG S) (5 * i) = (S.cap i).word := by
  rw [wordsG_low hq (by have := hi.1; omega) (by have := hi.2; omega)]
  exact (slotsL_rep t).2.1 i hi
theorem wordsG_rest {S : RSt} (t : Tree S.par S.kids) {j : Int} (hj : 480 ≤ j) : atL (wordsG S) j = restW S j := by
  unfold restW
  by_cases h : j < 738
  · rw [if_pos h, wordsG_at S ⟨by omega, h⟩, (slotsL_rep t).2.2 j hj]
  · rw [if_neg h]
    exact atL_out (by rw [wordsG_len]; omega)
theorem Gur.of {S : RSt} (t : Tree S.par S.kids) (hq : S.Queued) (ho : ∀ i, ¬ InS i → S.par i = -1 ∧ S.kids i = []) : Gur (wordsG S) S := ⟨t, wordsG_rep t hq, fun _ hi => wordsG_cap t hq hi, fun _ hj => wordsG_rest t hj, ho⟩
section
variable {L : List Int} {S : RSt} {i k p a b x : Int}
theorem Gur.words (c : Gur L S) (hq : S.Queued) : L = wordsG S :=
  c.rep.same (wordsG_rep c.tree hq) c.tree (fun _ _ => rfl) (fun _ _ => rfl) (fun j hj => by
    by_cases h : 480 ≤ j
    · rw [c.rest j h, wordsG_rest c.tree h]
    · by_cases h0 : 0 ≤ j
      · by_cases e : j % 5 = 0
        · have hi : InS (j / 5) := ⟨by omega, by omega⟩
          have e5 : j = 5 * (j / 5) := by omega
          rw [e5, c.cap _ hi, wordsG_cap c.tree hq hi]
        · exact absurd (show j = 5 * (j / 5) + j % 5 by omega) (hj (j / 5) (j % 5) ⟨by omega, by omega⟩ (by omega) (by omega))
      · rw [atL_out (by omega), atL_out (by omega)])
theorem Gur.short (c : Gur L S) : S.Short := fun i => by
  by_cases hi : InS i
  · have := c.tree.short hi; omega
  · rw [(c.out i hi).2]; simp
theorem Gur.hne (c : Gur L S) : ∀ i : Int, InS i → S.par i ≠ i := fun i hi e => by
  rcases c.tree.par i hi with h | ⟨-, h⟩
  · have := hi.1; omega
  · exact h e
theorem Gur.par (c : Gur L S) (i : Int) : toldL L i 1 = S.par i := by
  by_cases hi : InS i
  · exact c.rep.told1 c.tree hi
  · have e : slotB i 1 = false := slotB_no.2 (by unfold InS at hi; omega)
    unfold toldL
    rw [if_neg (by simp [e]), (c.out i hi).1]
theorem Gur.kids (c : Gur L S) (i : Int) : kidsL L i = S.kids i := by
  by_cases hi : InS i
  · exact c.rep.kids c.tree hi
  · rw [kids_out hi, (c.out i hi).2]
theorem Gur.link (c : Gur L S) (k p : Int) : linkA L k p = linkN S k p ∧ Gur (linkL L k p) (linkS S k p) := by
  have e1 : linkA L k p = linkN S k p := by
    unfold linkA linkN
    rw [slotOk_is, slotOk_is, c.par k]
    by_cases h1 : slotB k 0 = false ∨ slotB p 0 = false
    · rw [if_pos h1, if_pos h1]
    rw [if_neg h1, if_neg h1]
    have hk : slotB k 0 = true := by cases hh : slotB k 0 <;> simp_all
    have hr := c.tree.par_rng (slotB_in.1 hk)
    by_cases h2 : k = p
    · rw [if_pos h2, if_pos (.inl h2)]
    rw [if_neg h2]
    by_cases h3 : S.par k = -1
    · rw [if_neg (by simp [h3]), if_neg (by omega)]
    · rw [if_pos h3, if_pos (by omega)]
  refine ⟨e1, ?_⟩
  unfold linkS
  by_cases h0 : linkN S k p = 0
  · rw [if_pos h0]
    have h1 : ¬ (slotOk k = false ∨ slotOk p = false) := fun h => by rw [linkN, if_pos h] at h0; omega
    have h2 : ¬ (k = p ∨ 0 ≤ S.par k) := fun h => by rw [linkN, if_neg h1, if_pos h] at h0; omega
    have hk : InS k := slotOk_in.1 (by cases hh : slotOk k <;> simp_all)
    have hp : InS p := slotOk_in.1 (by cases hh : slotOk p <;> simp_all)
    have hr := c.tree.par_rng hk
    obtain ⟨-, q1, q2⟩ := c.rep.link_to c.tree hk hp (fun e => h2 (.inl e)) (by omega)
    exact { tree := c.tree.link hk hp (fun e => h2 (.inl e)) (by omega)
            rep := q1
            cap := fun i hi => by rw [q2 _ (far_cap hi)]; exact c.cap i hi
            rest := fun j hj => by rw [q2 _ (far_obj hj)]; exact c.rest j hj
            out := fun i hi => by
              have e1 : i ≠ k := fun e => hi (e ▸ hk)
              have e2 : i ≠ p := fun e => hi (e ▸ hp)
              show setF S.par k p i = -1 ∧ setF S.kids p (k :: S.kids p) i = []
              rw [setF_ne e1, setF_ne e2]
              exact c.out i hi }
  · rw [if_neg h0]
    have : linkL L k p = L := by unfold linkL; rw [if_neg (by rw [e1]; exact h0)]
    rw [this]
    exact c
theorem Gur.unlink (c : Gur L S) (k : Int) : unlinkA k = unlinkN k ∧ Gur (unlinkL L k) (unlinkS S k) := by
  refine ⟨by unfold unlinkA unlinkN; rw [slotOk_is], ?_⟩
  unfold unlinkS
  by_cases h1 : slotOk k = true
  · have hk := slotOk_in.1 h1
    have hr := c.tree.par_rng hk
    by_cases h2 : 0 ≤ S.par k
    · rw [if_pos ⟨h1, h2⟩]
      obtain ⟨q1, q2⟩ := c.rep.unlink_to c.tree hk (by omega)
      have hp := (c.tree.mem hk (by omega)).1
      exact { tree := c.tree.unlink hk (by omega)
              rep := q1
              cap := fun i hi => by rw [q2 _ (far_cap hi)]; exact c.cap i hi
              rest := fun j hj => by rw [q2 _ (far_obj hj)]; exact c.rest j hj
              out := fun i hi => by
                have e1 : i ≠ k := fun e => hi (e ▸ hk)
                have e2 : i ≠ S.par k := fun e => hi (e ▸ hp)
                show setF S.par k (-1) i = -1 ∧ setF S.kids (S.par k) ((S.kids (S.par k)).erase k) i = []
                rw [setF_ne e1, setF_ne e2]
                exact c.out i hi }
    · rw [if_neg (fun h => h2 h.2), unlink_none c.rep c.tree hk (by omega)]
      exact c
  · rw [if_neg (fun h => h1 h.1)]
    have : unlinkL L k = L := by unfold unlinkL; rw [if_neg (fun h => h1 (by rw [slotOk_is]; exact h.1))]
    rw [this]
    exact c
theorem Gur.replace (c : Gur L S) (a b : Int) : replaceA L a b = replaceN S a b ∧ Gur (replaceL L a b) (replaceS S a b) := by
  have e1 : replaceA L a b = replaceN S a b := by
    unfold replaceA replaceN
    rw [slotOk_is, slotOk_is, c.par b]
    by_cases h1 : slotB a 0 = false ∨ slotB b 0 = false
    · rw [if_pos h1, if_pos h1]
    rw [if_neg h1, if_neg h1]
    have hb : slotB b 0 = true := by cases hh : slotB b 0 <;> simp_all
    have hr := c.tree.par_rng (slotB_in.1 hb)
    rw [c.rep.told2 c.tree (slotB_in.1 hb)]
    by_cases h2 : a = b
    · rw [if_pos h2, if_pos (.inl h2)]
    rw [if_neg h2]
    by_cases h3 : S.par b = -1
    · rw [if_neg (by simp [h3])]
      cases hK : S.kids b with
      | nil => rw [headK_nil, if_neg (by omega), if_neg (by simp [h2]; omega)]
      | cons y l =>
        have hy := (c.tree.kids (slotB_in.1 hb) y (by rw [hK]; simp)).1
        rw [headK_cons, if_pos (by omega), if_pos (by simp)]
    · rw [if_pos h3, if_pos (by omega)]
  refine ⟨e1, ?_⟩
  unfold replaceS
  by_cases h0 : replaceN S a b = 0
  · rw [if_pos h0]
    have h1 : ¬ (slotOk a = false ∨ slotOk b = false) := fun h => by rw [replaceN, if_pos h] at h0; omega
    have h2 : ¬ (a = b ∨ 0 ≤ S.par b ∨ S.kids b ≠ []) := fun h => by rw [replaceN, if_neg h1, if_pos h] at h0; omega
    have ha : InS a := slotOk_in.1 (by cases hh : slotOk a <;> simp_all)
    have hb : InS b := slotOk_in.1 (by cases hh : slotOk b <;> simp_all)
    have hr := c.tree.par_rng hb
    have hra := c.tree.par_rng ha
    have hkb : S.kids b = [] := by
      by_cases e : S.kids b = []
      · exact e
      · exact absurd (.inr (.inr e)) h2
    have r : Repl S.par S.kids a b := ⟨c.tree, ha, hb, fun e => h2 (.inl e), by omega, hkb⟩
    obtain ⟨-, q1, q2⟩ := c.rep.replace_to r
    have hpa := r.paa
    have ek : kids1 S a b a = S.kids a := by
      unfold kids1
      split
      · rw [setF_ne (fun e => hpa e.symm)]
      · rfl
    have eP : (replaceOk S a b).par = repP S.par S.kids a b := by
      funext x
      show parsTo (setF (setF S.par b (S.par a)) a (-1)) (kids1 S a b a) b x = _
      rw [ek, parsTo_at, repP]
      by_cases h3 : x ∈ S.kids a
      · rw [if_pos h3, if_pos h3]
      rw [if_neg h3, if_neg h3]
      rfl
    have eK : (replaceOk S a b).kids = repK S.par S.kids a b := by
      funext q
      show setF (setF (kids1 S a b) b (kids1 S a b a)) a [] q = _
      rw [ek, repK]
      by_cases h3 : q = a
      · subst h3; rw [setF_self, if_neg r.ne, if_pos rfl]
      rw [setF_ne h3]
      by_cases h4 : q = b
      · subst h4; rw [setF_self, if_pos rfl]
      rw [setF_ne h4, if_neg h4, if_neg h3]
      unfold kids1
      by_cases h5 : 0 ≤ S.par a
      · rw [if_pos h5]
        by_cases h6 : q = S.par a
        · rw [if_pos h6, h6, setF_self]
        · rw [if_neg h6, setF_ne h6]
      · rw [if_neg h5]
        by_cases h6 : q = S.par a
        · have : ¬ InS q := fun h => by have := h.1; omega
          rw [if_pos h6, (c.out q this).2]
          rfl
        · rw [if_neg h6]
    exact { tree := by rw [eP, eK]; exact r.to
            rep := by rw [eP, eK]; exact q1
            cap := fun i hi => by rw [q2 _ (far_cap hi)]; exact c.cap i hi
            rest := fun j hj => by rw [q2 _ (far_obj hj)]; exact c.rest j hj
            out := fun i hi => by
              have e1 : i ≠ a := fun e => hi (e ▸ ha)
              have e2 : i ≠ b := fun e => hi (e ▸ hb)
              have e3 : i ∉ S.kids a := fun e => hi (c.tree.kids ha i e)
              rw [eP, eK, repP_else e3 e1 e2, repK, if_neg e2, if_neg e1]
              obtain ⟨o1, o2⟩ := c.out i hi
              rw [o2]
              exact ⟨o1, by split <;> rfl⟩ }
  · rw [if_neg h0]
    have : replaceL L a b = L := by unfold replaceL; rw [if_neg (by rw [e1]; exact h0)]
    rw [this]
    exact c
/-- a slot's capability is put -/
theorem Gur.setCap (g : Gur L S) (hi : InS i) (c : Cp) : Gur (setL L (5 * i) c.word) (S.putC i c) := by
  have h0 := hi.1
  have h1 := hi.2
  have hl := g.rep.len
  have hb : hasB L.length (5 * i) = true := hasB_yes.2 (by rw [hl]; omega)
  have hne : ∀ j, j ≠ 5 * i → atL (setL L (5 * i) c.word) j = atL L j := fun j hj => by rw [atL_setL, if_neg (fun h => hj h.2)]
  refine ⟨g.tree, ⟨by rw [setL_length]; exact hl, fun k hk => ?_, fun k hk => ?_, fun k hk => ?_, fun k hk => ?_⟩, fun k hk => ?_, fun j hj => ?_, g.out⟩
  · rw [hne _ (by omega)]; exact g.rep.p k hk
  · rw [hne _ (by omega)]; exact g.rep.f k hk
  · rw [hne _ (by omega)]; exact g.rep.n k hk
  · rw [hne _ (by omega)]; exact g.rep.v k hk
  · by_cases e : k = i
    · subst e
      rw [atL_setL, if_pos ⟨hb, rfl⟩]
      simp [RSt.putC, setF]
    · rw [hne _ (by omega), g.cap k hk]
      simp [RSt.putC, setF, e]
  · rw [hne _ (by omega)]
    exact g.rest j hj
end
end Go.Proofs.Ytihipcbhfjpgbaa
