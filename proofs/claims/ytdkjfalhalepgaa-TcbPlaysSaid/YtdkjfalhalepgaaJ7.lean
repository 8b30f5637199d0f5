/- Words and the document's state, one and the same, whatever its objects are (layers 12 to 22): what each call on slots comes to on both, as mathematics. -/
import Derived.Test.YtdkjfalhalepgaaJ5
import Derived.Test.YtdkjfalhalepgaaJ6
import Derived.Test.YtdkjfalhalepgaaJ1
namespace Go.Proofs.Ytdkjfalhalepgaa
open Go.RowKit
theorem far_cap {i : Int} (_h : InS i) : Far (5 * i) := fun k f _ h1 h2 => by omega
theorem far_obj {j : Int} (h : 480 ≤ j) : Far j := fun k f hk h1 h2 => by have := hk.2; omega
/-- a word that is no slot's, of a state -/
def restW (S : RSt) (j : Int) : Int := if j < 738 then putF 737 S.no j (putF 736 S.ns j (effs S j 0 32)) else 0
/-- words L are those of state S -/
structure Gur (L : List Int) (S : RSt) : Prop where
  tree : Tree S.par S.kids
  rep : Rep L S.par S.kids
  cap : ∀ i, InS i → atL L (5 * i) = (S.cap i).word
  rest : ∀ j, 480 ≤ j → atL L j = restW S j
  out : ∀ i, ¬ InS i → S.par i = -1 ∧ S.kids i = []
/-- who is in a queue is numbered from 0 on -/
def RSt.Queued (S : RSt) : Prop := ∀ i : Nat, i < 32 → ∀ t, t ∈ (S.ob i).queue → 0 ≤ t
theorem wordsG_low {S : RSt} (hq : S.Queued) {j : Int} (h0 : 0 ≤ j) (h1 : j < 480) : atL (wordsG S) j = atL (slotsL S) j := by
  rw [wordsG_at S ⟨h0, by omega⟩, putF_ne (by omega), putF_ne (by omega), effs_far (n := 0) (m := 32) (by omega) (fun i _ hi d => effF_far (fun f _ => by unfold ow; omega) (fun t ht => by have := hq i hi t ht; omega))]
  rfl
theorem wordsG_rep {S : RSt} (t : Tree S.par S.kids) (hq : S.Queued) : Rep (wordsG S) S.par S.kids := by
  obtain ⟨⟨-, h1, h2, h3, h4⟩, -, -⟩ := slotsL_rep t
  exact ⟨wordsG_len S, fun i hi => by rw [wordsG_low hq (by have := hi.1; omega) (by have := hi.2; omega), h1 i hi], fun i hi => by rw [wordsG_low hq (by have := hi.1; omega) (by have := hi.2; omega), h2 i hi],
    fun i hi => by rw [wordsG_low hq (by have := hi.1; omega) (by have := hi.2; omega), h3 i hi], fun i hi => by rw [wordsG_low hq (by have := hi.1; omega) (by have := hi.2; omega), h4 i hi]⟩
theorem wordsG_cap {S : RSt} (t : Tree S.par S.kids) (hq : S.Queued) {i : Int} (hi : InS i) : atL (wordsG S) (5 * i) = (S.cap i).word := by
  rw [wordsG_low hq (by have := hi.1; omega) (by have := hi.2; omega)]
  exact (slotsL_rep t).2.1 i hi
theorem wordsG_rest {S : RSt} (t : Tree S.par S.kids) {j : Int} (hj : 480 ≤ j) : atL (wordsG S) j = restW S j := by
  unfold restW
  by_cases h : j < 738
  · rw [if_pos h, wordsG_at S ⟨by omega, h⟩, (slotsL_rep t).2.2 j hj]
  · rw [if_neg h]
    exact atL_out (by rw [wordsG_len]; omega)
theorem Gur.of {S : RSt} (t : Tree S.par S.kids) (hq : S.Queued) (ho : ∀ i, ¬ InS i → S.par i = -1 ∧ S.kids i = []) : Gur (wordsG S) S := ⟨t, wordsG_rep t hq, fun _ hi => wordsG_cap t hq hi, fun _ hj => wordsG_rest t hj, ho⟩
section
variable {L : List Int} {S : RSt} {i k p a b x : Int}
theorem Gur.words (c : Gur L S) (hq : S.Queued) : L = wordsG S :=
  c.rep.same (wordsG_rep c.tree hq) c.tree (fun _ _ => rfl) (fun _ _ => rfl) (fun j hj => by
    by_cases h : 480 ≤ j
    · rw [c.rest j h, wordsG_rest c.tree h]
    · by_cases h0 : 0 ≤ j
      · by_cases e : j % 5 = 0
        · have hi : InS (j / 5) := ⟨by omega, by omega⟩
          have e5 : j = 5 * (j / 5) := by omega
          rw [e5, c.cap _ hi, wordsG_cap c.tree hq hi]
        · exact absurd (show j = 5 * (j / 5) + j % 5 by omega) (hj (j / 5) (j % 5) ⟨by omega, by omega⟩ (by omega) (by omega))
      · rw [atL_out (by omega), atL_out (by omega)])
theorem Gur.short (c : Gur L S) : S.Short := fun i => by
  by_cases hi : InS i
  · have := c.tree.short hi; omega
  · rw [(c.out i hi).2]; simp
theorem Gur.hne (c : Gur L S) : ∀ i : Int, InS i → S.par i ≠ i := fun i hi e => by
  rcases c.tree.par i hi with h | ⟨-, h⟩
  · have := hi.1; omega
  · exact h e
theorem Gur.par (c : Gur L S) (i : Int) : toldL L i 1 = S.par i := by
  by_cases hi : InS i
  · exact c.rep.told1 c.tree hi
  · have e : slotB i 1 = false := slotB_no.2 (by unfold InS at hi; omega)
    unfold toldL
    rw [if_neg (by simp [e]), (c.out i hi).1]
theorem Gur.kids (c : Gur L S) (i : Int) : kidsL L i = S.kids i := by
  by_cases hi : InS i
  · exact c.rep.kids c.tree hi
  · rw [kids_out hi, (c.out i hi).2]
theorem Gur.link (c : Gur L S) (k p : Int) : linkA L k p = linkN S k p ∧ Gur (linkL L k p) (linkS S k p) := by
  have e1 : linkA L k p = linkN S k p := by
    unfold linkA linkN
    rw [slotOk_is, slotOk_is, c.par k]
    by_cases h1 : slotB k 0 = false ∨ slotB p 0 = false
    · rw [if_pos h1, if_pos h1]
    rw [if_neg h1, if_neg h1]
    have hk : slotB k 0 = true := by cases hh : slotB k 0 <;> simp_all
    have hr := c.tree.par_rng (slotB_in.1 hk)
    by_cases h2 : k = p
    · rw [if_pos h2, if_pos (.inl h2)]
    rw [if_neg h2]
    by_cases h3 : S.par k = -1
    · rw [if_neg (by simp [h3]), if_neg (by omega)]
    · rw [if_pos h3, if_pos (by omega)]
  refine ⟨e1, ?_⟩
  unfold linkS
  by_cases h0 : linkN S k p = 0
  · rw [if_pos h0]
    have h1 : ¬ (slotOk k = false ∨ slotOk p = false) := fun h => by rw [linkN, if_pos h] at h0; omega
    have h2 : ¬ (k = p ∨ 0 ≤ S.par k) := fun h => by rw [linkN, if_neg h1, if_pos h] at h0; omega
    have hk : InS k := slotOk_in.1 (by cases hh : slotOk k <;> simp_all)
    have hp : InS p := slotOk_in.1 (by cases hh : slotOk p <;> simp_all)
    have hr := c.tree.par_rng hk
    obtain ⟨-, q1, q2⟩ := c.rep.link_to c.tree hk hp (fun e => h2 (.inl e)) (by omega)
    exact { tree := c.tree.link hk hp (fun e => h2 (.inl e)) (by omega)
            rep := q1
            cap := fun i hi => by rw [q2 _ (far_cap hi)]; exact c.cap i hi
            rest := fun j hj => by rw [q2 _ (far_obj hj)]; exact c.rest j hj
            out := fun i hi => by
              have e1 : i ≠ k := fun e => hi (e ▸ hk)
              have e2 : i ≠ p := fun e => hi (e ▸ hp)
              show setF S.par k p i = -1 ∧ setF S.kids p (k :: S.kids p) i = []
              rw [setF_ne e1, setF_ne e2]
              exact c.out i hi }
  · rw [if_neg h0]
    have : linkL L k p = L := by unfold linkL; rw [if_neg (by rw [e1]; exact h0)]
    rw [this]
    exact c
theorem Gur.unlink (c : Gur L S) (k : Int) : unlinkA k = unlinkN k ∧ Gur (unlinkL L k) (unlinkS S k) := by
  refine ⟨by unfold unlinkA unlinkN; rw [slotOk_is], ?_⟩
  unfold unlinkS
  by_cases h1 : slotOk k = true
  · have hk := slotOk_in.1 h1
    have hr := c.tree.par_rng hk
    by_cases h2 : 0 ≤ S.par k
    · rw [if_pos ⟨h1, h2⟩]
      obtain ⟨q1, q2⟩ := c.rep.unlink_to c.tree hk (by omega)
      have hp := (c.tree.mem hk (by omega)).1
      exact { tree := c.tree.unlink hk (by omega)
              rep := q1
              cap := fun i hi => by rw [q2 _ (far_cap hi)]; exact c.cap i hi
              rest := fun j hj => by rw [q2 _ (far_obj hj)]; exact c.rest j hj
              out := fun i hi => by
                have e1 : i ≠ k := fun e => hi (e ▸ hk)
                have e2 : i ≠ S.par k := fun e => hi (e ▸ hp)
                show setF S.par k (-1) i = -1 ∧ setF S.kids (S.par k) ((S.kids (S.par k)).erase k) i = []
                rw [setF_ne e1, setF_ne e2]
                exact c.out i hi }
    · rw [if_neg (fun h => h2 h.2), unlink_none c.rep c.tree hk (by omega)]
      exact c
  · rw [if_neg (fun h => h1 h.1)]
    have : unlinkL L k = L := by unfold unlinkL; rw [if_neg (fun h => h1 (by rw [slotOk_is]; exact h.1))]
    rw [this]
    exact c
theorem Gur.replace (c : Gur L S) (a b : Int) : replaceA L a b = replaceN S a b ∧ Gur (replaceL L a b) (replaceS S a b) := by
  have e1 : replaceA L a b = replaceN S a b := by
    unfold replaceA replaceN
    rw [slotOk_is, slotOk_is, c.par b]
    by_cases h1 : slotB a 0 = false ∨ slotB b 0 = false
    · rw [if_pos h1, if_pos h1]
    rw [if_neg h1, if_neg h1]
    have hb : slotB b 0 = true := by cases hh : slotB b 0 <;> simp_all
    have hr := c.tree.par_rng (slotB_in.1 hb)
    rw [c.rep.told2 c.tree (slotB_in.1 hb)]
    by_cases h2 : a = b
    · rw [if_pos h2, if_pos (.inl h2)]
    rw [if_neg h2]
    by_cases h3 : S.par b = -1
    · rw [if_neg (by simp [h3])]
      cases hK : S.kids b with
      | nil => rw [headK_nil, if_neg (by omega), if_neg (by simp [h2]; omega)]
      | cons y l =>
        have hy := (c.tree.kids (slotB_in.1 hb) y (by rw [hK]; simp)).1
        rw [headK_cons, if_pos (by omega), if_pos (by simp)]
    · rw [if_pos h3, if_pos (by omega)]
  refine ⟨e1, ?_⟩
  unfold replaceS
  by_cases h0 : replaceN S a b = 0
  · rw [if_pos h0]
    have h1 : ¬ (slotOk a = false ∨ slotOk b = false) := fun h => by rw [replaceN, if_pos h] at h0; omega
    have h2 : ¬ (a = b ∨ 0 ≤ S.par b ∨ S.kids b ≠ []) := fun h => by rw [replaceN, if_neg h1, if_pos h] at h0; omega
    have ha : InS a := slotOk_in.1 (by cases hh : slotOk a <;> simp_all)
    have hb : InS b := slotOk_in.1 (by cases hh : slotOk b <;> simp_all)
    have hr := c.tree.par_rng hb
    have hra := c.tree.par_rng ha
    have hkb : S.kids b = [] := by
      by_cases e : S.kids b = []
      · exact e
      · exact absurd (.inr (.inr e)) h2
    have r : Repl S.par S.kids a b := ⟨c.tree, ha, hb, fun e => h2 (.inl e), by omega, hkb⟩
    obtain ⟨-, q1, q2⟩ := c.rep.replace_to r
    have hpa := r.paa
    have ek : kids1 S a b a = S.kids a := by
      unfold kids1
      split
      · rw [setF_ne (fun e => hpa e.symm)]
      · rfl
    have eP : (replaceOk S a b).par = repP S.par S.kids a b := by
      funext x
      show parsTo (setF (setF S.par b (S.par a)) a (-1)) (kids1 S a b a) b x = _
      rw [ek, parsTo_at, repP]
      by_cases h3 : x ∈ S.kids a
      · rw [if_pos h3, if_pos h3]
      rw [if_neg h3, if_neg h3]
      rfl
    have eK : (replaceOk S a b).kids = repK S.par S.kids a b := by
      funext q
      show setF (setF (kids1 S a b) b (kids1 S a b a)) a [] q = _
      rw [ek, repK]
      by_cases h3 : q = a
      · subst h3; rw [setF_self, if_neg r.ne, if_pos rfl]
      rw [setF_ne h3]
      by_cases h4 : q = b
      · subst h4; rw [setF_self, if_pos rfl]
      rw [setF_ne h4, if_neg h4, if_neg h3]
      unfold kids1
      by_cases h5 : 0 ≤ S.par a
      · rw [if_pos h5]
        by_cases h6 : q = S.par a
        · rw [if_pos h6, h6, setF_self]
        · rw [if_neg h6, setF_ne h6]
      · rw [if_neg h5]
        by_cases h6 : q = S.par a
        · have : ¬ InS q := fun h => by have := h.1; omega
          rw [if_pos h6, (c.out q this).2]
          rfl
        · rw [if_neg h6]
    exact { tree := by rw [eP, eK]; exact r.to
            rep := by rw [eP, eK]; exact q1
            cap := fun i hi => by rw [q2 _ (far_cap hi)]; exact c.cap i hi
            rest := fun j hj => by rw [q2 _ (far_obj hj)]; exact c.rest j hj
            out := fun i hi => by
              have e1 : i ≠ a := fun e => hi (e ▸ ha)
              have e2 : i ≠ b := fun e => hi (e ▸ hb)
              have e3 : i ∉ S.kids a := fun e => hi (c.tree.kids ha i e)
              rw [eP, eK, repP_else e3 e1 e2, repK, if_neg e2, if_neg e1]
              obtain ⟨o1, o2⟩ := c.out i hi
              rw [o2]
              exact ⟨o1, by split <;> rfl⟩ }
  · rw [if_neg h0]
    have : replaceL L a b = L := by unfold replaceL; rw [if_neg (by rw [e1]; exact h0)]
    rw [this]
    exact c
/-- a slot's capability is put -/
theorem Gur.setCap (g : Gur L S) (hi : InS i) (c : Cp) : Gur (setL L (5 * i) c.word) (S.putC i c) := by
  have h0 := hi.1
  have h1 := hi.2
  have hl := g.rep.len
  have hb : hasB L.length (5 * i) = true := hasB_yes.2 (by rw [hl]; omega)
  have hne : ∀ j, j ≠ 5 * i → atL (setL L (5 * i) c.word) j = atL L j := fun j hj => by rw [atL_setL, if_neg (fun h => hj h.2)]
  refine ⟨g.tree, ⟨by rw [setL_length]; exact hl, fun k hk => ?_, fun k hk => ?_, fun k hk => ?_, fun k hk => ?_⟩, fun k hk => ?_, fun j hj => ?_, g.out⟩
  · rw [hne _ (by omega)]; exact g.rep.p k hk
  · rw [hne _ (by omega)]; exact g.rep.f k hk
  · rw [hne _ (by omega)]; exact g.rep.n k hk
  · rw [hne _ (by omega)]; exact g.rep.v k hk
  · by_cases e : k = i
    · subst e
      rw [atL_setL, if_pos ⟨hb, rfl⟩]
      simp [RSt.putC, setF]
    · rw [hne _ (by omega), g.cap k hk]
      simp [RSt.putC, setF, e]
  · rw [hne _ (by omega)]
    exact g.rest j hj
end
end Go.Proofs.Ytdkjfalhalepgaa
/- A sound state of the document (layers 12 to 22), and its words: what calls on slots, capabilities come to, word for word; as mathematics. -/
namespace Go.Proofs.Ytdkjfalhalepgaa
open Go.RowKit
/-- a state is sound: its slots are a tree, its capabilities may be, its objects' numbers are not great -/
structure Sok (S : RSt) : Prop where
  tree : Tree S.par S.kids
  out : ∀ i, ¬ InS i → S.par i = -1 ∧ S.kids i = []
  may : ∀ i, (S.cap i).may
  obs : ∀ i : Nat, i < 32 → (S.ob i).FitO
  ns : U64 S.ns
  no : U64 S.no
theorem zero_may : Cp.zero.may := by decide
section
variable {S : RSt} {i k p a b x : Int} {c : Cp}
theorem Sok.queued (h : Sok S) : S.Queued := fun i hi t ht => ((h.obs i hi).qin t ht).1
theorem Sok.gur (h : Sok S) : Gur (wordsG S) S := Gur.of h.tree h.queued h.out
theorem Sok.short (h : Sok S) : S.Short := h.gur.short
theorem Sok.hne (h : Sok S) : ∀ i : Int, InS i → S.par i ≠ i := h.gur.hne
theorem Sok.fitG (h : Sok S) : S.FitG where
  fit := ⟨fun i _ => (h.may i).small, fun i hi => by have := h.tree.par_rng hi; omega, fun i hi => h.tree.kids hi, h.ns, h.no⟩
  short := h.short
  ob := h.obs
/-- linked -/
theorem Sok.link (h : Sok S) (k p : Int) : Sok (linkS S k p) ∧ linkA (wordsG S) k p = linkN S k p ∧ linkL (wordsG S) k p = wordsG (linkS S k p) := by
  obtain ⟨e, g⟩ := h.gur.link k p
  have ho : ∀ i, (linkS S k p).ob i = S.ob i := fun i => by unfold linkS; split <;> rfl
  have hc : ∀ i, (linkS S k p).cap i = S.cap i := fun i => by unfold linkS; split <;> rfl
  have s : Sok (linkS S k p) := ⟨g.tree, g.out, fun i => by rw [hc]; exact h.may i, fun i hi => by rw [ho]; exact h.obs i hi, by unfold linkS; split <;> exact h.ns, by unfold linkS; split <;> exact h.no⟩
  exact ⟨s, e, g.words s.queued⟩
theorem Sok.unlink (h : Sok S) (k : Int) : Sok (unlinkS S k) ∧ unlinkA k = unlinkN k ∧ unlinkL (wordsG S) k = wordsG (unlinkS S k) := by
  obtain ⟨e, g⟩ := h.gur.unlink k
  have ho : ∀ i, (unlinkS S k).ob i = S.ob i := fun i => by unfold unlinkS; split <;> rfl
  have hc : ∀ i, (unlinkS S k).cap i = S.cap i := fun i => by unfold unlinkS; split <;> rfl
  have s : Sok (unlinkS S k) := ⟨g.tree, g.out, fun i => by rw [hc]; exact h.may i, fun i hi => by rw [ho]; exact h.obs i hi, by unfold unlinkS; split <;> exact h.ns, by unfold unlinkS; split <;> exact h.no⟩
  exact ⟨s, e, g.words s.queued⟩
theorem Sok.replace (h : Sok S) (a b : Int) : Sok (replaceS S a b) ∧ replaceA (wordsG S) a b = replaceN S a b ∧ replaceL (wordsG S) a b = wordsG (replaceS S a b) := by
  obtain ⟨e, g⟩ := h.gur.replace a b
  have ho : ∀ i, (replaceS S a b).ob i = S.ob i := fun i => by unfold replaceS; split <;> rfl
  have hc : ∀ i, (replaceS S a b).cap i = S.cap i := fun i => by unfold replaceS; split <;> rfl
  have s : Sok (replaceS S a b) := ⟨g.tree, g.out, fun i => by rw [hc]; exact h.may i, fun i hi => by rw [ho]; exact h.obs i hi, by unfold replaceS; split <;> exact h.ns, by unfold replaceS; split <;> exact h.no⟩
  exact ⟨s, e, g.words s.queued⟩
/-- a capability is put -/
theorem Sok.putC (h : Sok S) (hi : InS i) (hc : c.may) : Sok (S.putC i c) ∧ setL (wordsG S) (5 * i) c.word = wordsG (S.putC i c) := by
  have g := h.gur.setCap hi c
  have s : Sok (S.putC i c) := ⟨h.tree, h.out, fun k => by
    by_cases e : k = i
    · simpa [RSt.putC, setF, e] using hc
    · simpa [RSt.putC, setF, e] using h.may k, h.obs, h.ns, h.no⟩
  exact ⟨s, g.words s.queued⟩
/-- below another one -/
theorem Sok.below (h : Sok S) (f t : Int) (hc : c.may) : Sok (belowS S f t c) := by
  unfold belowS
  split
  · next h0 =>
    have hi : InS t := by
      by_cases e : slotOk t = true
      · exact slotOk_in.1 e
      · rw [linkN, if_pos (.inl (by simpa using e))] at h0; omega
    exact ((h.link t f).1.putC hi hc).1
  · exact h
theorem Sok.del (h : Sok S) (i : Int) : Sok (delS S i) := by
  unfold delS
  split
  · next h0 =>
    have hi : InS i := by
      by_cases e : slotOk i = true
      · exact slotOk_in.1 e
      · rw [delN, if_pos (.inl (by simpa using e))] at h0; omega
    exact ((h.unlink i).1.putC hi zero_may).1
  · exact h
theorem Sok.one (h : Sok S) (i : Int) : Sok (oneS S i) := by
  unfold oneS
  split
  · exact h
  · split
    · exact h
    · exact h.del _
end
theorem fullC_may {kd o : Int} (hk : 1 ≤ kd ∧ kd ≤ 8) (ho : 0 ≤ o ∧ o ≤ 31) : (fullC kd o).may := by
  unfold Cp.may fullC
  simp only
  rw [if_neg (by omega)]
  refine ⟨⟨by omega, by omega⟩, ⟨by omega, by omega⟩, ho, ?_, ?_⟩
  · unfold mayBadge
    split <;> omega
  · unfold mayGuard
    split
    · exact ⟨by omega, by omega, by decide⟩
    · exact ⟨rfl, rfl⟩
theorem rootC_may {t : Int} (ho : 0 ≤ t ∧ t ≤ 31) : (rootC t).may := by
  unfold Cp.may rootC
  simp only
  rw [if_neg (by decide)]
  exact ⟨by decide, by decide, ho, by decide, by decide⟩
/-- the boot state is sound -/
def RSt.Kap (S : RSt) : Prop := ∀ i, (S.cap i).may
theorem RSt.Kap.putC {S : RSt} {i : Int} {c : Cp} (h : S.Kap) (hc : c.may) : (S.putC i c).Kap := fun j => by
  by_cases e : j = i
  · simpa [RSt.putC, setF, e] using hc
  · simpa [RSt.putC, setF, e] using h j
theorem RSt.Kap.putO {S : RSt} {i : Int} {x : RObj} (h : S.Kap) : (S.putO i x).Kap := h
theorem kindB_one (k : Nat) : 1 ≤ kindB k ∧ kindB k ≤ 8 := by
  unfold kindB
  split <;> decide
theorem bootT_kap {t : Nat} (ht : t ≤ 7) : ∀ k, k ≤ t → (bootT t k).Kap := by
  intro k
  induction k with
  | zero => intro _ i; exact zero_may
  | succ k ih => intro hk; exact ((ih (by omega)).putO (i := (k : Int)) (x := thrO t)).putC (fullC_may (by decide) ⟨by omega, by omega⟩)
theorem bootK_kap {t : Nat} (ht : t ≤ 7) : ∀ k, k ≤ 8 → (bootK t k).Kap := by
  intro k
  induction k with
  | zero => intro _; exact bootT_kap ht t (Nat.le_refl _)
  | succ k ih =>
    intro hk
    have h1 := (ih (by omega)).putO (i := ((t + k : Nat) : Int)) (x := RObj.fresh (kindB k))
    unfold bootK
    split
    · exact h1.putC (fullC_may (kindB_one k) ⟨by omega, by omega⟩)
    · exact h1
theorem boot_sok {t : Nat} (ht : t ≤ 7) : Sok (bootS t) := by
  have h := boot_plainly ht
  have hF := boot_fitG ht
  have h4 : (boot4 t).Kap := bootK_kap ht 8 (Nat.le_refl _)
  have h5 : (boot5 t).Kap := h4.putC (fullC_may (by decide) ⟨by omega, by omega⟩)
  have h6 : (boot6 t).Kap := h5.putC (rootC_may ⟨by omega, by omega⟩)
  exact ⟨h.tree, fun i _ => by rw [h.par, h.kids]; exact ⟨rfl, rfl⟩, h6, fun i _ => h.ob i, hF.fit.ns, hF.fit.no⟩
end Go.Proofs.Ytdkjfalhalepgaa
/- The document's words of objects without queues, field by field; words that are put into objects (layers 13, 18), as mathematics. -/
namespace Go.Proofs.Ytdkjfalhalepgaa
open Go.RowKit
/-- what field f of an object without a queue has -/
def fldW (x : RObj) (f : Nat) : Int := if f = 0 then x.kind else kindF 0 x (ow 0 f) 0
theorem ow_eq {i f k : Nat} : ow i f = ow i k ↔ f = k := by unfold ow; omega
theorem ow_ne {i j f k : Nat} (hf : f < 8) (hk : k < 8) (h : i ≠ j) : ow i f ≠ ow j k := by unfold ow; omega
theorem putF_ow {i f k : Nat} {v c : Int} : putF (ow i k) v (ow i f) c = if f = k then v else c := by
  unfold putF
  by_cases h : f = k
  · rw [if_pos (ow_eq.2 h), if_pos h]
  · rw [if_neg (fun e => h (ow_eq.1 e)), if_neg h]
theorem spaceF_fld {x : RObj} {i f : Nat} {c : Int} : ∀ n, spaceF i x (ow i f) c n = spaceF 0 x (ow 0 f) c n := by
  intro n
  induction n with
  | zero => rfl
  | succ n ih =>
    rw [show spaceF i x (ow i f) c (n + 1) = pageF i x n (ow i f) (spaceF i x (ow i f) c n) from rfl, show spaceF 0 x (ow 0 f) c (n + 1) = pageF 0 x n (ow 0 f) (spaceF 0 x (ow 0 f) c n) from rfl, ih]
    unfold pageF
    rw [putF_ow, putF_ow]
theorem kindF_fld {x : RObj} {i f : Nat} {c : Int} : kindF i x (ow i f) c = kindF 0 x (ow 0 f) c := by
  unfold kindF threadF
  simp only [putF_ow, ow_eq, spaceF_fld (i := i)]
section
variable {S S' : RSt} {L L' : List Int} {i f : Nat} {j : Int} {x : RObj}
theorem effF_bare (hq : x.queue = []) (hf : f < 8) : effF i x (ow i f) 0 = fldW x f := by
  unfold effF fldW
  rw [hq]
  show kindF i x (ow i f) (putF (ow i 0) x.kind (ow i f) 0) = _
  by_cases h : f = 0
  · subst h
    rw [if_pos rfl, putF_at, kindF_far (fun k h1 h7 => fun e => by have := (ow_eq (i := i)).1 e; omega)]
  · rw [if_neg h, putF_ne (fun e => h (ow_eq.1 e)), kindF_fld]
/-- no object has a queue -/
def RSt.NoQ (S : RSt) : Prop := ∀ i : Nat, i < 32 → (S.ob i).queue = []
theorem effs_bare (hb : S.NoQ) (hi : i < 32) (hf : f < 8) : effs S (ow i f) 0 32 = fldW (S.ob i) f := by
  have far : ∀ k : Nat, k < 32 → k ≠ i → ∀ d, effF k (S.ob k) (ow i f) d = d := fun k hk hne d =>
    effF_far (fun f' h' => ow_ne hf (by omega) (fun e => hne e.symm)) (fun t ht => by rw [hb k hk] at ht; simp at ht)
  rw [effs_far (n := i + 1) (by omega) (fun k h1 h2 d => far k h2 (by omega) d)]
  rw [show effs S (ow i f) 0 (i + 1) = effF i (S.ob i) (ow i f) (effs S (ow i f) 0 i) from rfl]
  rw [effs_far (n := 0) (by omega) (fun k h1 h2 d => far k (by omega) (by omega) d)]
  exact effF_bare (hb i hi) hf
theorem restW_fld (hb : S.NoQ) (hi : i < 32) (hf : f < 8) : restW S (ow i f) = fldW (S.ob i) f := by
  unfold restW
  rw [if_pos (by unfold ow; omega), putF_ne (by unfold ow; omega), putF_ne (by unfold ow; omega), effs_bare hb hi hf]
theorem restW_ns : restW S 736 = S.ns := by unfold restW; rw [if_pos (by decide), putF_ne (by decide), putF_at]
theorem restW_no : restW S 737 = S.no := by unfold restW; rw [if_pos (by decide), putF_at]
theorem restW_out (h : 738 ≤ j) : restW S j = 0 := if_neg (by omega)
/-- words of an object, of a state -/
theorem Sok.fld (h : Sok S) (hb : S.NoQ) (hi : i < 32) (hf : f < 8) : atL (wordsG S) (ow i f) = fldW (S.ob i) f := by
  rw [h.gur.rest _ (by unfold ow; omega), restW_fld hb hi hf]
theorem Sok.nsW (h : Sok S) : atL (wordsG S) 736 = S.ns := by rw [h.gur.rest _ (by decide), restW_ns]
theorem Sok.noW (h : Sok S) : atL (wordsG S) 737 = S.no := by rw [h.gur.rest _ (by decide), restW_no]
/-- words that differ from a state's in objects alone are those of a state that differs there alone -/
theorem Gur.objs (g : Gur L S) (hl : L'.length = 738) (low : ∀ j, j < 480 → atL L' j = atL L j) (hp : S'.par = S.par) (hk : S'.kids = S.kids) (hc : S'.cap = S.cap) (hb : S'.NoQ)
    (ho : ∀ i f : Nat, i < 32 → f < 8 → atL L' (ow i f) = fldW (S'.ob i) f) (hs : atL L' 736 = S'.ns) (hn : atL L' 737 = S'.no) : Gur L' S' where
  tree := by rw [hp, hk]; exact g.tree
  rep := by
    rw [hp, hk]
    obtain ⟨-, h1, h2, h3, h4⟩ := g.rep
    exact ⟨hl, fun i hi => by rw [low _ (by have := hi.2; omega), h1 i hi], fun i hi => by rw [low _ (by have := hi.2; omega), h2 i hi], fun i hi => by rw [low _ (by have := hi.2; omega), h3 i hi], fun i hi => by rw [low _ (by have := hi.2; omega), h4 i hi]⟩
  cap := fun i hi => by rw [low _ (by have := hi.2; omega), hc]; exact g.cap i hi
  rest := fun j hj => by
    by_cases h1 : j < 736
    · obtain ⟨k, hk'⟩ : ∃ k : Nat, j = k := ⟨j.toNat, by omega⟩
      have e : j = ow ((k - 480) / 8) ((k - 480) % 8) := by unfold ow; omega
      rw [e, ho _ _ (by omega) (by omega), restW_fld hb (by omega) (by omega)]
    · by_cases h2 : j = 736
      · rw [h2, hs, restW_ns]
      · by_cases h3 : j = 737
        · rw [h3, hn, restW_no]
        · rw [restW_out (by omega), atL_out (by rw [hl]; omega)]
  out := by rw [hp, hk]; exact g.out
end
end Go.Proofs.Ytdkjfalhalepgaa
/- Queues of objects in the words (layers 14 and up), as mathematics: who is behind whom; what one that is pushed, or dropped, makes of them. No dump is read here. -/
namespace Go.Proofs.Ytdkjfalhalepgaa
open Go.RowKit
/-- from p on, one behind the other, the last one has none behind it -/
def Ch (nx : Int → Int) : Int → List Int → Prop
  | p, [] => nx p = 0
  | p, t :: b => nx p = t + 1 ∧ Ch nx t b
def Sg (nx : Int → Int) : Int → List Int → Prop
  | _, [] => True
  | p, x :: a => nx p = x + 1 ∧ Sg nx x a
/-- the last one -/
def lst : Int → List Int → Int
  | p, [] => p
  | _, x :: a => lst x a
section
variable {nx nx' : Int → Int} {p t : Int} {a b l : List Int}
theorem lst_mem : ∀ (a : List Int) (p : Int), lst p a = p ∨ lst p a ∈ a := by
  intro a
  induction a with
  | nil => exact fun p => .inl rfl
  | cons x a ih =>
    intro p
    right
    show lst x a ∈ x :: a
    rcases ih x with h | h
    · rw [h]; exact List.mem_cons_self
    · exact List.mem_cons_of_mem _ h
theorem lst_app : ∀ (a : List Int) (p : Int), lst p (a ++ t :: b) = lst t b := by
  intro a
  induction a with
  | nil => exact fun _ => rfl
  | cons x a ih => exact fun _ => ih x
theorem Ch_append : ∀ (a : List Int) (p : Int), Ch nx p (a ++ l) ↔ Sg nx p a ∧ Ch nx (lst p a) l := by
  intro a
  induction a with
  | nil => exact fun p => ⟨fun h => ⟨trivial, h⟩, fun h => h.2⟩
  | cons x a ih =>
    intro p
    show (nx p = x + 1 ∧ Ch nx x (a ++ l)) ↔ (nx p = x + 1 ∧ Sg nx x a) ∧ Ch nx (lst x a) l
    rw [ih x, and_assoc]
theorem Ch_seg (h : Ch nx p a) : Sg nx p a ∧ nx (lst p a) = 0 := by
  have q := (Ch_append (nx := nx) (l := []) a p).1 (by rw [List.append_nil]; exact h)
  exact ⟨q.1, q.2⟩
theorem Ch_congr : ∀ (l : List Int) (p : Int), (∀ i, i = p ∨ i ∈ l → nx' i = nx i) → Ch nx p l → Ch nx' p l := by
  intro l
  induction l with
  | nil => exact fun p h hc => by show nx' p = 0; rw [h p (.inl rfl)]; exact hc
  | cons x l ih =>
    intro p h hc
    exact ⟨by rw [h p (.inl rfl)]; exact hc.1, ih x (fun i hi => h i (.inr (hi.elim (fun e => e ▸ List.mem_cons_self) (List.mem_cons_of_mem _)))) hc.2⟩
theorem Sg_upd : ∀ (a : List Int) (p : Int), (p :: a).Nodup → (∀ i, (i = p ∨ i ∈ a) → i ≠ lst p a → nx' i = nx i) → Sg nx p a → Sg nx' p a := by
  intro a
  induction a with
  | nil => exact fun _ _ _ _ => trivial
  | cons x a ih =>
    intro p hn h hc
    obtain ⟨h1, h2⟩ := List.nodup_cons.1 hn
    refine ⟨?_, ih x h2 (fun i hi => h i (.inr (hi.elim (fun e => e ▸ List.mem_cons_self) (List.mem_cons_of_mem _)))) hc.2⟩
    rw [h p (.inl rfl) (fun e => h1 ?_)]
    · exact hc.1
    · rcases lst_mem a x with q | q
      · rw [e]; show lst x a ∈ x :: a; rw [q]; exact List.mem_cons_self
      · rw [e]; exact List.mem_cons_of_mem _ q
/-- one is pushed -/
theorem Ch_push (hn : (p :: l).Nodup) (hp : t ≠ p) (ht : t ∉ l) (h : Ch nx p l) (h1 : nx' (lst p l) = t + 1) (h2 : nx' t = 0) (hx : ∀ i, i ≠ lst p l → i ≠ t → nx' i = nx i) : Ch nx' p (l ++ [t]) :=
  (Ch_append l p).2 ⟨Sg_upd l p hn (fun i hi hl => hx i hl (fun e => hi.elim (fun q => hp (e ▸ q)) (fun q => ht (e ▸ q)))) (Ch_seg h).1, h1, h2⟩
/-- one is dropped -/
theorem Ch_drop (hn : (p :: (a ++ t :: b)).Nodup) (h : Ch nx p (a ++ t :: b)) (h1 : nx' (lst p a) = nx t) (hx : ∀ i, i ≠ lst p a → i ≠ t → nx' i = nx i) : Ch nx' p (a ++ b) := by
  obtain ⟨hs, -, hc⟩ := (Ch_append a p).1 h
  rw [← List.cons_append] at hn
  obtain ⟨n1, n2, n3⟩ := List.nodup_append.1 hn
  have ht : ∀ i, i = p ∨ i ∈ a → i ≠ t := fun i hi => n3 i (List.mem_cons.2 hi) t List.mem_cons_self
  refine (Ch_append a p).2 ⟨Sg_upd a p n1 (fun i hi hl => hx i hl (ht i hi)) hs, ?_⟩
  have hb : ∀ i, i ∈ b → nx' i = nx i := fun i hi => hx i (fun e => by
    have := n3 (lst p a) (List.mem_cons.2 (lst_mem a p)) i (List.mem_cons_of_mem _ hi)
    exact this e.symm) (fun e => (List.nodup_cons.1 n2).1 (e ▸ hi))
  cases b with
  | nil => show nx' _ = 0; rw [h1]; exact hc
  | cons x b => exact ⟨by rw [h1]; exact hc.1, Ch_congr b x (fun i hi => hb i (hi.elim (fun e => e ▸ List.mem_cons_self) (List.mem_cons_of_mem _))) hc.2⟩
end
/-- the word of an object's field 2, of its field 3 -/
abbrev qw (i f : Int) : Int := 480 + 8 * i + f
def nxL (L : List Int) (i : Int) : Int := atL L (qw i 2)
/-- a queue's last one, as a word -/
def lsW (l : List Int) : Int := match l with
  | [] => 0
  | x :: a => lst x a + 1
def putQ (q : Int → List Int) (o : Int) (l : List Int) (i : Int) : List Int := if i = o then l else q i
/-- words L tell queues q, of objects Z; those that are in none, of objects Y, have none behind them -/
structure QW (L : List Int) (q : Int → List Int) (Z Y : Int → Prop) : Prop where
  len : L.length = 738
  zr : ∀ o, Z o → 0 ≤ o ∧ o < 32
  own : ∀ o, q o ≠ [] → Z o
  rng : ∀ o t, t ∈ q o → 0 ≤ t ∧ t < 32
  nd : ∀ o, (q o).Nodup
  one : ∀ o p t, t ∈ q o → t ∈ q p → o = p
  top : ∀ o p, Z o → o ∉ q p
  ch : ∀ o, Z o → Ch (nxL L) o (q o)
  ls : ∀ o, Z o → atL L (qw o 3) = lsW (q o)
  free : ∀ t, Y t → ¬ Z t → (∀ o, t ∉ q o) → nxL L t = 0
section
variable {L L' : List Int} {q : Int → List Int} {Z Y : Int → Prop} {o t i : Int} {a b : List Int}
theorem QW.nd1 (h : QW L q Z Y) (ho : Z o) : (o :: q o).Nodup := List.nodup_cons.2 ⟨h.top o o ho, h.nd o⟩
theorem lsW_app : lsW (a ++ [t]) = t + 1 := by
  cases a with
  | nil => rfl
  | cons x a => show lst x (a ++ [t]) + 1 = _; rw [lst_app]; rfl
theorem lsW_drop (hb : b ≠ []) : lsW (a ++ t :: b) = lsW (a ++ b) := by
  obtain ⟨x, c, rfl⟩ : ∃ x c, b = x :: c := by cases b with
    | nil => exact absurd rfl hb
    | cons x c => exact ⟨x, c, rfl⟩
  cases a with
  | nil => rfl
  | cons y a => show lst y (a ++ t :: x :: c) + 1 = lst y (a ++ x :: c) + 1; rw [lst_app, lst_app]; rfl
/-- who is in a queue, or has one -/
theorem QW.lst_rng (h : QW L q Z Y) (ho : Z o) (hq : q o = a ++ b) : (0 ≤ lst o a ∧ lst o a < 32) ∧ (lst o a = o ∨ lst o a ∈ q o) := by
  rcases lst_mem a o with e | e
  · rw [e]; exact ⟨h.zr o ho, .inl rfl⟩
  · have : lst o a ∈ q o := by rw [hq]; exact List.mem_append_left _ e
    exact ⟨h.rng o _ this, .inr this⟩
/-- one is pushed -/
theorem QW.push (h : QW L q Z Y) (ho : Z o) (ht : 0 ≤ t ∧ t < 32) (hz : ¬ Z t) (hf : ∀ p, t ∉ q p) (hl : L'.length = 738)
    (hx : ∀ j, atL L' j = if j = qw t 2 then 0 else if j = qw (lst o (q o)) 2 then t + 1 else if j = qw o 3 then t + 1 else atL L j) : QW L' (putQ q o (q o ++ [t])) Z Y := by
  obtain ⟨lr, lm⟩ := h.lst_rng (b := []) ho (List.append_nil _).symm
  have hto : t ≠ o := fun e => hz (e ▸ ho)
  have hlt : lst o (q o) ≠ t := fun e => lm.elim (fun q => hto (e ▸ q)) (fun q => hf o (e ▸ q))
  have n1 : nxL L' (lst o (q o)) = t + 1 := by unfold nxL; rw [hx, if_neg (by unfold qw; omega), if_pos rfl]
  have n2 : nxL L' t = 0 := by unfold nxL; rw [hx, if_pos rfl]
  have n3 : ∀ i, i ≠ lst o (q o) → i ≠ t → nxL L' i = nxL L i := fun i h1 h2 => by
    unfold nxL
    rw [hx, if_neg (by unfold qw; omega), if_neg (by unfold qw; omega), if_neg (by unfold qw; omega)]
  have n4 : ∀ i, i ≠ o → atL L' (qw i 3) = atL L (qw i 3) := fun i h1 => by rw [hx, if_neg (by unfold qw; omega), if_neg (by unfold qw; omega), if_neg (by unfold qw; omega)]
  have n5 : atL L' (qw o 3) = t + 1 := by rw [hx, if_neg (by unfold qw; omega), if_neg (by unfold qw; omega), if_pos rfl]
  have pq : ∀ p x, x ∈ putQ q o (q o ++ [t]) p → x ∈ q p ∨ (x = t ∧ p = o) := fun p x hp => by
    unfold putQ at hp
    split at hp
    · next e =>
      subst e
      rcases List.mem_append.1 hp with e | e
      · exact .inl e
      · exact .inr ⟨List.mem_singleton.1 e, rfl⟩
    · exact .inl hp
  have pm : ∀ p x, x ∈ q p → x ∈ putQ q o (q o ++ [t]) p := fun p x hp => by
    unfold putQ
    split
    · next e => subst e; exact List.mem_append_left _ hp
    · exact hp
  refine ⟨hl, h.zr, fun p hp => ?_, fun p x hp => ?_, fun p => ?_, fun p p' x hp hp' => ?_, fun p p' hp hp' => ?_, fun p hp => ?_, fun p hp => ?_, fun x hy hzx hfx => ?_⟩
  · by_cases e : p = o
    · exact e ▸ ho
    · exact h.own p (by unfold putQ at hp; rwa [if_neg e] at hp)
  · rcases pq p x hp with e | ⟨rfl, -⟩
    · exact h.rng p x e
    · exact ht
  · unfold putQ
    split
    · exact List.nodup_append.2 ⟨h.nd o, by simp, fun x hx y hy e => hf o (by rw [← List.mem_singleton.1 hy, ← e]; exact hx)⟩
    · exact h.nd p
  · rcases pq p x hp with e | ⟨e1, e2⟩ <;> rcases pq p' x hp' with e' | ⟨e1', e2'⟩
    · exact h.one p p' x e e'
    · exact absurd (e1' ▸ e) (hf p)
    · exact absurd (e1 ▸ e') (hf p')
    · rw [e2, e2']
  · rcases pq p' p hp' with e | ⟨e1, -⟩
    · exact h.top p p' hp e
    · exact hz (e1 ▸ hp)
  · by_cases e : p = o
    · subst e
      unfold putQ
      rw [if_pos rfl]
      exact Ch_push (h.nd1 ho) hto (hf p) (h.ch p ho) n1 n2 n3
    · unfold putQ
      rw [if_neg e]
      refine Ch_congr _ _ (fun i hi => n3 i (fun q => ?_) (fun q => ?_)) (h.ch p hp)
      · rcases lm with lm | lm
        · rw [lm] at q
          exact hi.elim (fun q' => e (q'.symm.trans q)) (fun q' => h.top o p ho (q ▸ q'))
        · exact hi.elim (fun q' => h.top p o hp (q' ▸ q ▸ lm)) (fun q' => e (h.one p o i q' (q ▸ lm)))
      · exact hi.elim (fun q' => hz (q ▸ q' ▸ hp)) (fun q' => hf p (q ▸ q'))
  · by_cases e : p = o
    · subst e
      unfold putQ
      rw [n5, if_pos rfl, lsW_app]
    · unfold putQ
      rw [n4 p e, if_neg e]
      exact h.ls p hp
  · by_cases e : x = t
    · rw [e]; exact n2
    · rw [n3 x (fun q' => ?_) e]
      · exact h.free x hy hzx (fun p hp => hfx p (pm p x hp))
      · rcases lm with lm | lm
        · exact hzx (by rw [q', lm]; exact ho)
        · exact hfx o (pm o x (q' ▸ lm))
/-- one is dropped -/
theorem QW.drop (h : QW L q Z Y) (ho : Z o) (hq : q o = a ++ t :: b) (hl : L'.length = 738)
    (hx : ∀ j, atL L' j = if j = qw t 2 then 0 else if j = qw (lst o a) 2 then atL L (qw t 2) else if j = qw o 3 then lsW (a ++ b) else atL L j) : QW L' (putQ q o (a ++ b)) Z Y := by
  obtain ⟨lr, lm⟩ := h.lst_rng ho hq
  have htq : t ∈ q o := by rw [hq]; simp
  have ht := h.rng o t htq
  have hz : ¬ Z t := fun hz => h.top t o hz htq
  have hto : t ≠ o := fun e => hz (e ▸ ho)
  have hnd := h.nd1 ho
  rw [hq] at hnd
  have hlt : lst o a ≠ t := by
    rw [← List.cons_append] at hnd
    exact (List.nodup_append.1 hnd).2.2 (lst o a) (List.mem_cons.2 (lst_mem a o)) t List.mem_cons_self
  have n1 : nxL L' (lst o a) = nxL L t := by unfold nxL; rw [hx, if_neg (by unfold qw; omega), if_pos rfl]
  have n2 : nxL L' t = 0 := by unfold nxL; rw [hx, if_pos rfl]
  have n3 : ∀ i, i ≠ lst o a → i ≠ t → nxL L' i = nxL L i := fun i h1 h2 => by
    unfold nxL
    rw [hx, if_neg (by unfold qw; omega), if_neg (by unfold qw; omega), if_neg (by unfold qw; omega)]
  have n4 : ∀ i, i ≠ o → atL L' (qw i 3) = atL L (qw i 3) := fun i h1 => by rw [hx, if_neg (by unfold qw; omega), if_neg (by unfold qw; omega), if_neg (by unfold qw; omega)]
  have n5 : atL L' (qw o 3) = lsW (a ++ b) := by rw [hx, if_neg (by unfold qw; omega), if_neg (by unfold qw; omega), if_pos rfl]
  have sub : ∀ x, x ∈ a ++ b → x ∈ q o := fun x hx => by
    rw [hq]
    rcases List.mem_append.1 hx with e | e
    · exact List.mem_append_left _ e
    · exact List.mem_append_right _ (List.mem_cons_of_mem _ e)
  have pq : ∀ p x, x ∈ putQ q o (a ++ b) p → x ∈ q p := fun p x hp => by
    unfold putQ at hp
    split at hp
    · next e => subst e; exact sub x hp
    · exact hp
  have pm : ∀ p x, x ∈ q p → x ≠ t → x ∈ putQ q o (a ++ b) p := fun p x hp hne => by
    unfold putQ
    split
    · next e =>
      subst e
      rw [hq] at hp
      rcases List.mem_append.1 hp with e | e
      · exact List.mem_append_left _ e
      · exact List.mem_append_right _ ((List.mem_cons.1 e).resolve_left hne)
    · exact hp
  refine ⟨hl, h.zr, fun p hp => ?_, fun p x hp => h.rng p x (pq p x hp), fun p => ?_, fun p p' x hp hp' => h.one p p' x (pq p x hp) (pq p' x hp'), fun p p' hp hp' => h.top p p' hp (pq p' p hp'), fun p hp => ?_, fun p hp => ?_, fun x hy hzx hfx => ?_⟩
  · by_cases e : p = o
    · exact e ▸ ho
    · exact h.own p (by unfold putQ at hp; rwa [if_neg e] at hp)
  · unfold putQ
    split
    · have := h.nd o
      rw [hq] at this
      exact List.Nodup.sublist (List.Sublist.append_left (List.sublist_cons_self t b) a) this
    · exact h.nd p
  · by_cases e : p = o
    · subst e
      unfold putQ
      rw [if_pos rfl]
      have hc := h.ch p ho
      rw [hq] at hc
      exact Ch_drop hnd hc n1 n3
    · unfold putQ
      rw [if_neg e]
      refine Ch_congr _ _ (fun i hi => n3 i (fun q' => ?_) (fun q' => ?_)) (h.ch p hp)
      · rcases lm with lm | lm
        · rw [lm] at q'
          exact hi.elim (fun q'' => e (q''.symm.trans q')) (fun q'' => h.top o p ho (q' ▸ q''))
        · exact hi.elim (fun q'' => h.top p o hp (q'' ▸ q' ▸ lm)) (fun q'' => e (h.one p o i q'' (q' ▸ lm)))
      · exact hi.elim (fun q'' => hz (q' ▸ q'' ▸ hp)) (fun q'' => e (h.one p o i q'' (q' ▸ htq)))
  · by_cases e : p = o
    · subst e
      unfold putQ
      rw [n5, if_pos rfl]
    · unfold putQ
      rw [n4 p e, if_neg e]
      exact h.ls p hp
  · by_cases e : x = t
    · rw [e]; exact n2
    · rw [n3 x (fun q' => ?_) e]
      · exact h.free x hy hzx (fun p hp => hfx p (pm p x hp e))
      · rcases lm with lm | lm
        · exact hzx (by rw [q', lm]; exact ho)
        · exact hfx o (pm o x (q' ▸ lm) e)
/-- who is behind one, as the code reads it -/
theorem refL_some {f : Int} (ho : 0 ≤ o ∧ o < 32) (hf : 0 ≤ f ∧ f < 8) (ht : 0 ≤ t ∧ t < 32) (h : atL L (480 + 8 * o + f) = t + 1) : refL L o f = (t, true) := by
  unfold refL fieldL
  rw [if_pos (objB_yes.2 ⟨ho.1, ho.2, hf.1, hf.2⟩), h]
  have e : numI (t + 1) = t + 1 := if_neg (by omega)
  rw [e, if_pos (belowB_yes.2 ⟨by omega, by omega⟩), Int.add_sub_cancel]
theorem refL_none {f : Int} (h : atL L (480 + 8 * o + f) = 0) : refL L o f = (0, false) := by
  unfold refL fieldL
  rw [h]
  have e : numI 0 = 0 := rfl
  rw [e, if_neg]
  split <;> decide
end
end Go.Proofs.Ytdkjfalhalepgaa
