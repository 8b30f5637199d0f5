/- A sound state of the document (layers 12 to 22), and its words: what calls on slots, capabilities come to, word for word; as mathematics. -/
import Derived.Test.YtlhcigpllkigdaaGur
import Derived.Test.YtlhcigpllkigdaaJ9
namespace Go.Proofs.Ytlhcigpllkigdaa
open Go.RowKit
/-- a state is sound: its slots are a tree, its capabilities may be, its objects' numbers are not great -/
structure Sok (S : RSt) : Prop where
  tree : Tree S.par S.kids
  out : ∀ i, ¬ InS i → S.par i = -1 ∧ S.kids i = []
  may : ∀ i, (S.cap i).may
  obs : ∀ i : Nat, i < 32 → (S.ob i).FitO
  ns : U64 S.ns
  no : U64 S.no
theorem zero_may : Cp.zero.may := by decide
section
variable {S : RSt} {i k p a b x : Int} {c : Cp}
theorem Sok.queued (h : Sok S) : S.Queued := fun i hi t ht => ((h.obs i hi).qin t ht).1
theorem Sok.gur (h : Sok S) : Gur (wordsG S) S := Gur.of h.tree h.queued h.out
theorem Sok.pars (h : Sok S) : S.Pars := h.gur.pars
theorem Sok.short (h : Sok S) : S.Short := h.gur.short
theorem Sok.kidsIn (h : Sok S) : S.KidsIn := h.gur.kidsIn
theorem Sok.hne (h : Sok S) : ∀ i : Int, InS i → S.par i ≠ i := h.gur.hne
theorem Sok.fitG (h : Sok S) : S.FitG where
  fit := ⟨fun i _ => (h.may i).small, fun i hi => by have := h.tree.par_rng hi; omega, fun i hi => h.tree.kids hi, h.ns, h.no⟩
  short := h.short
  ob := h.obs
/-- a slot's capability is what its word tells -/
theorem Sok.cap_in (h : Sok S) (hi : InS i) : capL (wordsG S) i = S.cap i := by
  unfold capL
  rw [if_pos (slotB_in.2 hi), h.gur.cap i hi, getC, Cp.of_word (h.may i).small, if_pos (h.may i)]
theorem cap_out {L : List Int} (hi : ¬ InS i) : capL L i = Cp.zero := by
  unfold capL
  rw [if_neg (fun e => hi (slotB_in.1 e))]
/-- linked -/
theorem Sok.link (h : Sok S) (k p : Int) : Sok (linkS S k p) ∧ linkA (wordsG S) k p = linkN S k p ∧ linkL (wordsG S) k p = wordsG (linkS S k p) := by
  obtain ⟨e, g⟩ := h.gur.link k p
  have ho : ∀ i, (linkS S k p).ob i = S.ob i := fun i => by unfold linkS; split <;> rfl
  have hc : ∀ i, (linkS S k p).cap i = S.cap i := fun i => by unfold linkS; split <;> rfl
  have s : Sok (linkS S k p) := ⟨g.tree, g.out, fun i => by rw [hc]; exact h.may i, fun i hi => by rw [ho]; exact h.obs i hi, by unfold linkS; split <;> exact h.ns, by unfold linkS; split <;> exact h.no⟩
  exact ⟨s, e, g.words s.queued⟩
theorem Sok.unlink (h : Sok S) (k : Int) : Sok (unlinkS S k) ∧ unlinkA k = unlinkN k ∧ unlinkL (wordsG S) k = wordsG (unlinkS S k) := by
  obtain ⟨e, g⟩ := h.gur.unlink k
  have ho : ∀ i, (unlinkS S k).ob i = S.ob i := fun i => by unfold unlinkS; split <;> rfl
  have hc : ∀ i, (unlinkS S k).cap i = S.cap i := fun i => by unfold unlinkS; split <;> rfl
  have s : Sok (unlinkS S k) := ⟨g.tree, g.out, fun i => by rw [hc]; exact h.may i, fun i hi => by rw [ho]; exact h.obs i hi, by unfold unlinkS; split <;> exact h.ns, by unfold unlinkS; split <;> exact h.no⟩
  exact ⟨s, e, g.words s.queued⟩
theorem Sok.replace (h : Sok S) (a b : Int) : Sok (replaceS S a b) ∧ replaceA (wordsG S) a b = replaceN S a b ∧ replaceL (wordsG S) a b = wordsG (replaceS S a b) := by
  obtain ⟨e, g⟩ := h.gur.replace a b
  have ho : ∀ i, (replaceS S a b).ob i = S.ob i := fun i => by unfold replaceS; split <;> rfl
  have hc : ∀ i, (replaceS S a b).cap i = S.cap i := fun i => by unfold replaceS; split <;> rfl
  have s : Sok (replaceS S a b) := ⟨g.tree, g.out, fun i => by rw [hc]; exact h.may i, fun i hi => by rw [ho]; exact h.obs i hi, by unfold replaceS; split <;> exact h.ns, by unfold replaceS; split <;> exact h.no⟩
  exact ⟨s, e, g.words s.queued⟩
/-- a capability is put -/
theorem Sok.putC (h : Sok S) (hi : InS i) (hc : c.may) : Sok (S.putC i c) ∧ setL (wordsG S) (5 * i) c.word = wordsG (S.putC i c) := by
  have g := h.gur.setCap hi c
  have s : Sok (S.putC i c) := ⟨h.tree, h.out, fun k => by
    by_cases e : k = i
    · simpa [RSt.putC, setF, e] using hc
    · simpa [RSt.putC, setF, e] using h.may k, h.obs, h.ns, h.no⟩
  exact ⟨s, g.words s.queued⟩
theorem Cp.mutate_may {c : Cp} {g n : Int} (h : (c.mutate g n).2 = 0) : (c.mutate g n).1.may := by
  unfold Cp.mutate at h ⊢
  split at h
  · simp at h
  · next h1 =>
    rw [if_neg h1]
    split at h
    · simp at h
    · next h2 =>
      rw [if_neg h2]
      split at h
      · simp at h
      · next h3 => rw [if_neg h3]; exact Decidable.not_not.1 h3
/-- below another one -/
theorem Sok.below (h : Sok S) (f t : Int) (hc : c.may) : Sok (belowS S f t c) := by
  unfold belowS
  split
  · next h0 =>
    have hi : InS t := by
      by_cases e : slotOk t = true
      · exact slotOk_in.1 e
      · rw [linkN, if_pos (.inl (by simpa using e))] at h0; omega
    exact ((h.link t f).1.putC hi hc).1
  · exact h
theorem derC_may {m b : Int} {mint : Bool} (h : (derC c m b mint).2 = 0) : (derC c m b mint).1.may := by
  unfold derC at h ⊢
  split
  · next e => rw [if_pos e] at h; exact (Cp.mint_ok h).mayX
  · next e => rw [if_neg e] at h; exact (Cp.derive_ok h).mayX
theorem Sok.der (h : Sok S) (f t m b : Int) (mint : Bool) : Sok (derS S f t m b mint) := by
  unfold derS
  split
  · exact h
  · split
    · exact h
    · next e => exact h.below f t (derC_may (by simpa using e))
theorem movC_may {gd n : Int} {mu : Bool} (hc : c.may) (h : (movC c gd n mu).2 = 0) : (movC c gd n mu).1.may := by
  unfold movC at h ⊢
  split
  · next e => rw [if_pos e] at h; exact Cp.mutate_may h
  · exact hc
theorem Sok.over (h : Sok S) (f t : Int) (hc : c.may) : Sok (overS S f t c) := by
  unfold overS
  split
  · next h0 =>
    have hi : InS t ∧ InS f := by
      by_cases e : slotOk f = false ∨ slotOk t = false
      · rw [replaceN, if_pos e] at h0; omega
      · exact ⟨slotOk_in.1 (by cases hh : slotOk t <;> simp_all), slotOk_in.1 (by cases hh : slotOk f <;> simp_all)⟩
    exact (((h.replace f t).1.putC hi.1 hc).1.putC hi.2 zero_may).1
  · exact h
theorem Sok.mov (h : Sok S) (f t gd n : Int) (mu : Bool) : Sok (movS S f t gd n mu) := by
  unfold movS
  split
  · exact h
  · split
    · exact h
    · next e => exact h.over f t (movC_may (h.may f) (by simpa using e))
theorem Sok.del (h : Sok S) (i : Int) : Sok (delS S i) := by
  unfold delS
  split
  · next h0 =>
    have hi : InS i := by
      by_cases e : slotOk i = true
      · exact slotOk_in.1 e
      · rw [delN, if_pos (.inl (by simpa using e))] at h0; omega
    exact ((h.unlink i).1.putC hi zero_may).1
  · exact h
theorem Sok.one (h : Sok S) (i : Int) : Sok (oneS S i) := by
  unfold oneS
  split
  · exact h
  · split
    · exact h
    · exact h.del _
end
theorem fullC_may {kd o : Int} (hk : 1 ≤ kd ∧ kd ≤ 8) (ho : 0 ≤ o ∧ o ≤ 31) : (fullC kd o).may := by
  unfold Cp.may fullC
  simp only
  rw [if_neg (by omega)]
  refine ⟨⟨by omega, by omega⟩, ⟨by omega, by omega⟩, ho, ?_, ?_⟩
  · unfold mayBadge
    split <;> omega
  · unfold mayGuard
    split
    · exact ⟨by omega, by omega, by decide⟩
    · exact ⟨rfl, rfl⟩
theorem rootC_may {t : Int} (ho : 0 ≤ t ∧ t ≤ 31) : (rootC t).may := by
  unfold Cp.may rootC
  simp only
  rw [if_neg (by decide)]
  exact ⟨by decide, by decide, ho, by decide, by decide⟩
/-- the boot state is sound -/
def RSt.Kap (S : RSt) : Prop := ∀ i, (S.cap i).may
theorem RSt.Kap.putC {S : RSt} {i : Int} {c : Cp} (h : S.Kap) (hc : c.may) : (S.putC i c).Kap := fun j => by
  by_cases e : j = i
  · simpa [RSt.putC, setF, e] using hc
  · simpa [RSt.putC, setF, e] using h j
theorem RSt.Kap.putO {S : RSt} {i : Int} {x : RObj} (h : S.Kap) : (S.putO i x).Kap := h
theorem kindB_one (k : Nat) : 1 ≤ kindB k ∧ kindB k ≤ 8 := by
  unfold kindB
  split <;> decide
theorem bootT_kap {t : Nat} (ht : t ≤ 7) : ∀ k, k ≤ t → (bootT t k).Kap := by
  intro k
  induction k with
  | zero => intro _ i; exact zero_may
  | succ k ih => intro hk; exact ((ih (by omega)).putO (i := (k : Int)) (x := thrO t)).putC (fullC_may (by decide) ⟨by omega, by omega⟩)
theorem bootK_kap {t : Nat} (ht : t ≤ 7) : ∀ k, k ≤ 8 → (bootK t k).Kap := by
  intro k
  induction k with
  | zero => intro _; exact bootT_kap ht t (Nat.le_refl _)
  | succ k ih =>
    intro hk
    have h1 := (ih (by omega)).putO (i := ((t + k : Nat) : Int)) (x := RObj.fresh (kindB k))
    unfold bootK
    split
    · exact h1.putC (fullC_may (kindB_one k) ⟨by omega, by omega⟩)
    · exact h1
theorem boot_sok {t : Nat} (ht : t ≤ 7) : Sok (bootS t) := by
  have h := boot_plainly ht
  have hF := boot_fitG ht
  have h4 : (boot4 t).Kap := bootK_kap ht 8 (Nat.le_refl _)
  have h5 : (boot5 t).Kap := h4.putC (fullC_may (by decide) ⟨by omega, by omega⟩)
  have h6 : (boot6 t).Kap := h5.putC (rootC_may ⟨by omega, by omega⟩)
  exact ⟨h.tree, fun i _ => by rw [h.par, h.kids]; exact ⟨rfl, rfl⟩, h6, fun i _ => h.ob i, hF.fit.ns, hF.fit.no⟩
end Go.Proofs.Ytlhcigpllkigdaa
/- What calls on a view come to on the words of a sound state (layers 12 to 21), as mathematics: one after the other, to be put together as the code does. -/
namespace Go.Proofs.Ytlhcigpllkigdaa
open Go.RowKit
section
variable {S : RSt} {i k p a b n : Int} {c : Cp}
theorem Sok.capP (h : Sok S) (i : Int) : (Go.Proofs.Ytlhcigpllkigdaa.capP i).run machP (wordsG S) = (if slotOk i = true then S.cap i else Cp.zero, wordsG S) := by
  rw [capP_plain]
  by_cases hi : InS i
  · rw [h.cap_in hi, if_pos (slotOk_in.2 hi)]
  · rw [cap_out hi, if_neg (fun e => hi (slotOk_in.1 e))]
theorem Sok.linkP (h : Sok S) (k p : Int) : (Go.Proofs.Ytlhcigpllkigdaa.linkP k p).run machP (wordsG S) = (linkN S k p, wordsG (linkS S k p)) := by
  obtain ⟨-, e1, e2⟩ := h.link k p
  rw [linkP_plain, e1, e2]
theorem Sok.unlinkP (h : Sok S) (k : Int) : (Go.Proofs.Ytlhcigpllkigdaa.unlinkP k).run machP (wordsG S) = (unlinkN k, wordsG (unlinkS S k)) := by
  obtain ⟨-, e1, e2⟩ := h.unlink k
  rw [unlinkP_plain, e1, e2]
theorem Sok.replaceP (h : Sok S) (a b : Int) : (Go.Proofs.Ytlhcigpllkigdaa.replaceP a b).run machP (wordsG S) = (replaceN S a b, wordsG (replaceS S a b)) := by
  obtain ⟨-, e1, e2⟩ := h.replace a b
  rw [replaceP_plain, e1, e2]
theorem Sok.kidsP (h : Sok S) (i : Int) : (Go.Proofs.Ytlhcigpllkigdaa.kidsP i).run machP (wordsG S) = (S.kids i, wordsG S) := by rw [kidsP_plain, h.gur.kids i]
theorem Sok.leafP (h : Sok S) (i : Int) : (Go.Proofs.Ytlhcigpllkigdaa.leafP i).run machP (wordsG S) = (leafS S i, wordsG S) := by rw [leafP_plain, h.gur.leaf i]
theorem Sok.parP (h : Sok S) (i : Int) : (toldP i 1).run machP (wordsG S) = (S.par i, wordsG S) := by rw [toldP_plain, h.gur.par i]
theorem Sok.csetP (h : Sok S) (hi : InS i) (hc : c.may) : (Go.Proofs.Ytlhcigpllkigdaa.csetP i c).run machP (wordsG S) = (0, wordsG (S.putC i c)) := by
  unfold Go.Proofs.Ytlhcigpllkigdaa.csetP
  rw [if_pos (slotB_in.2 hi), if_pos hc, Vp.run_wrP, Vp.run_ret, slotI_yes (slotB_in.2 hi), Int.add_zero, (h.putC hi hc).2]
end
end Go.Proofs.Ytlhcigpllkigdaa
