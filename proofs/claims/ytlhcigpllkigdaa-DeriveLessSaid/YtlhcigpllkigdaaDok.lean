/- A sound state of layer 12: none without a capability is linked, none is below itself; as mathematics. -/
import Derived.Test.YtlhcigpllkigdaaJ11
namespace Go.Proofs.Ytlhcigpllkigdaa
open Go.RowKit
/-- slots are ranked, each below its parent behind it -/
structure Rank (P : Int → Int) (r : Int → Nat) : Prop where
  lt : ∀ i, InS i → r i < 96
  inj : ∀ i j, InS i → InS j → r i = r j → i = j
  up : ∀ k, InS k → P k ≠ -1 → r (P k) < r k
structure Dok (S : RSt) : Prop where
  sok : Sok S
  bare : ∀ i, InS i → (S.cap i).kind = 0 → S.par i = -1 ∧ S.kids i = []
  rank : ∃ r, Rank S.par r
section
variable {S : RSt} {i f t m b gd n : Int} {c : Cp} {r : Int → Nat} {mint mu : Bool}
/-- a leaf has no kids -/
theorem leafR_bare (h : Tree S.par S.kids) (hr : Rank S.par r) : ∀ (n : Nat) (i : Int), InS i → 96 ≤ n + r i → S.kids (leafR S.kids n i) = [] ∧ InS (leafR S.kids n i) := by
  intro n
  induction n with
  | zero => intro i hi h96; have := hr.lt i hi; omega
  | succ n ih =>
    intro i hi h96
    cases hk : S.kids i with
    | nil => rw [leafR_nil hk]; exact ⟨hk, hi⟩
    | cons y l =>
      have hm : y ∈ S.kids i := by rw [hk]; simp
      have hy := h.kids hi y hm
      have hp : S.par y = i := ((h.kid i y hi).1 hm).2
      rw [leafR_cons hk]
      have := hr.up y hy (by rw [hp]; have := hi.1; omega)
      rw [hp] at this
      exact ih y hy (by omega)
/-- a leaf that isn't its own has a parent -/
theorem leafR_par (h : Tree S.par S.kids) : ∀ (n : Nat) (i : Int), InS i → leafR S.kids n i = i ∨ S.par (leafR S.kids n i) ≠ -1 := by
  intro n
  induction n with
  | zero => intro i _; exact .inl rfl
  | succ n ih =>
    intro i hi
    cases hk : S.kids i with
    | nil => exact .inl (leafR_nil hk)
    | cons y l =>
      have hm : y ∈ S.kids i := by rw [hk]; simp
      have hp : S.par y = i := ((h.kid i y hi).1 hm).2
      rw [leafR_cons hk]
      rcases ih y (h.kids hi y hm) with e | e
      · rw [e, hp]
        exact .inr (by have := hi.1; omega)
      · exact .inr e
theorem Dok.leaf (h : Dok S) (hi : InS i) : S.kids (leafS S i) = [] ∧ InS (leafS S i) := by
  obtain ⟨r, hr⟩ := h.rank
  unfold leafS
  rw [if_pos (slotOk_in.2 hi)]
  exact leafR_bare h.sok.tree hr 96 i hi (by omega)
theorem Dok.leaf_out (hi : ¬ InS i) : leafS S i = -1 := by
  unfold leafS
  rw [if_neg (fun e => hi (slotOk_in.1 e))]
/-- One deletes, if there is one to delete -/
theorem Dok.leaf_par (h : Dok S) (hi : InS i) (hl : leafS S i ≠ i) : S.par (leafS S i) ≠ -1 := by
  have e : leafS S i = leafR S.kids 96 i := by unfold leafS; rw [if_pos (slotOk_in.2 hi)]
  rcases leafR_par h.sok.tree 96 i hi with q | q
  · rw [← e] at q; exact absurd q hl
  · rw [e]; exact q
theorem Dok.leaf_cap (h : Dok S) (hi : InS i) (hl : leafS S i ≠ i) : (S.cap (leafS S i)).kind ≠ 0 :=
  fun e => h.leaf_par hi hl (h.bare _ (h.leaf hi).2 e).1
theorem Dok.oneA (h : Dok S) (i : Int) : oneA S i = if ¬ InS i then (false, 2) else if leafS S i = i then (false, 0) else (true, 0) := by
  unfold Go.Proofs.Ytlhcigpllkigdaa.oneA
  by_cases hi : InS i
  · obtain ⟨h1, h2⟩ := h.leaf hi
    have h0 := h2.1
    rw [if_neg (show ¬ leafS S i < 0 by omega), if_neg (show ¬ ¬ InS i from fun e => e hi)]
    split
    · rfl
    · next hl =>
      have : delN S (leafS S i) = 0 := by
        unfold delN
        rw [if_neg (by rw [slotOk_in.2 h2]; simp [h.leaf_cap hi hl]), if_neg (fun e => e h1)]
      rw [this]
  · rw [Dok.leaf_out hi, if_pos (by decide), if_pos hi]
/-- a slot that is linked comes behind all -/
theorem Rank.link (h : Rank S.par r) (ht : InS t) (hf : InS f) (hne : t ≠ f) (hk : ∀ k, InS k → S.par k ≠ t) (hin : ∀ k, InS k → S.par k ≠ -1 → InS (S.par k)) : ∃ r', Rank (setF S.par t f) r' := by
  refine ⟨fun k => if k = t then 95 else if r t < r k then r k - 1 else r k, fun k hk' => ?_, fun a b ha hb e => ?_, fun k hk' hp => ?_⟩
  · show (if k = t then 95 else if r t < r k then r k - 1 else r k) < 96
    have := h.lt k hk'
    split
    · omega
    · split <;> omega
  · have h1 := h.lt a ha
    have h2 := h.lt b hb
    have h3 := h.lt t ht
    have e' : (if a = t then 95 else if r t < r a then r a - 1 else r a) = (if b = t then 95 else if r t < r b then r b - 1 else r b) := e
    by_cases ea : a = t
    · by_cases eb : b = t
      · rw [ea, eb]
      · rw [if_pos ea, if_neg eb] at e'
        have : r b ≠ r t := fun q => eb (h.inj b t hb ht q)
        split at e' <;> omega
    · by_cases eb : b = t
      · rw [if_neg ea, if_pos eb] at e'
        have : r a ≠ r t := fun q => ea (h.inj a t ha ht q)
        split at e' <;> omega
      · rw [if_neg ea, if_neg eb] at e'
        have n1 : r a ≠ r t := fun q => ea (h.inj a t ha ht q)
        have n2 : r b ≠ r t := fun q => eb (h.inj b t hb ht q)
        refine h.inj a b ha hb ?_
        split at e' <;> split at e' <;> omega
  · show (if setF S.par t f k = t then 95 else if r t < r (setF S.par t f k) then r (setF S.par t f k) - 1 else r (setF S.par t f k)) < (if k = t then 95 else if r t < r k then r k - 1 else r k)
    by_cases ek : k = t
    · subst ek
      rw [setF_self, if_neg (fun e => hne e.symm), if_pos rfl]
      have h1 := h.lt f hf
      have h2 := h.lt k ht
      have n1 : r f ≠ r k := fun q => hne (h.inj f k hf ht q).symm
      split <;> omega
    · rw [setF_ne ek] at hp ⊢
      have hu := h.up k hk' hp
      rw [if_neg (hk k hk'), if_neg ek]
      have n1 : r k ≠ r t := fun q => ek (h.inj k t hk' ht q)
      have n2 : r (S.par k) ≠ r t := fun q => hk k hk' (h.inj _ t (hin k hk' hp) ht q)
      generalize r (S.par k) = x at *
      generalize r k = y at *
      generalize r t = z at *
      split <;> split <;> omega
theorem Rank.unlink (h : Rank S.par r) (k : Int) : Rank (setF S.par k (-1)) r := ⟨h.lt, h.inj, fun j hj hp => by
  by_cases e : j = k
  · rw [e, setF_self] at hp; exact absurd rfl hp
  · rw [setF_ne e] at hp ⊢; exact h.up j hj hp⟩
theorem Sok.repl (h : Sok S) (h0 : replaceN S f t = 0) : Repl S.par S.kids f t := by
  have h1 : ¬ (slotOk f = false ∨ slotOk t = false) := fun e => by rw [replaceN, if_pos e] at h0; omega
  have h2 : ¬ (f = t ∨ 0 ≤ S.par t ∨ S.kids t ≠ []) := fun e => by rw [replaceN, if_neg h1, if_pos e] at h0; omega
  have ha : InS f := slotOk_in.1 (by cases hh : slotOk f <;> simp_all)
  have hb : InS t := slotOk_in.1 (by cases hh : slotOk t <;> simp_all)
  have hr := h.tree.par_rng hb
  refine ⟨h.tree, ha, hb, fun e => h2 (.inl e), ?_, ?_⟩
  · by_cases e : 0 ≤ S.par t
    · exact absurd (.inr (.inl e)) h2
    · omega
  · by_cases e : S.kids t = []
    · exact e
    · exact absurd (.inr (.inr e)) h2
/-- what Replace leaves of parents and kids -/
theorem Sok.replPK (h : Sok S) (h0 : replaceN S f t = 0) : (replaceS S f t).par = repP S.par S.kids f t ∧ (replaceS S f t).kids = repK S.par S.kids f t := by
  have r := h.repl h0
  have hpa := r.paa
  have hra := h.tree.par_rng r.ia
  have ek : kids1 S f t f = S.kids f := by
    unfold kids1
    split
    · rw [setF_ne (fun e => hpa e.symm)]
    · rfl
  unfold replaceS
  rw [if_pos h0]
  constructor
  · funext x
    show parsTo (setF (setF S.par t (S.par f)) f (-1)) (kids1 S f t f) t x = _
    rw [ek, parsTo_at, repP]
    by_cases h3 : x ∈ S.kids f
    · rw [if_pos h3, if_pos h3]
    rw [if_neg h3, if_neg h3]
    rfl
  · funext q
    show setF (setF (kids1 S f t) t (kids1 S f t f)) f [] q = _
    rw [ek, repK]
    by_cases h3 : q = f
    · subst h3; rw [setF_self, if_neg r.ne, if_pos rfl]
    rw [setF_ne h3]
    by_cases h4 : q = t
    · subst h4; rw [setF_self, if_pos rfl]
    rw [setF_ne h4, if_neg h4, if_neg h3]
    unfold kids1
    by_cases h5 : 0 ≤ S.par f
    · rw [if_pos h5]
      by_cases h6 : q = S.par f
      · rw [if_pos h6, h6, setF_self]
      · rw [if_neg h6, setF_ne h6]
    · rw [if_neg h5]
      by_cases h6 : q = S.par f
      · have : ¬ InS q := fun h => by have := h.1; omega
        rw [if_pos h6, (h.out q this).2]
        rfl
      · rw [if_neg h6]
theorem Rank.replace (h : Rank S.par r) (q : Repl S.par S.kids f t) : ∃ r', Rank (repP S.par S.kids f t) r' := by
  have hfk := q.aa
  have htk := q.out q.ia
  have hne := q.ne
  have hpa := q.paa
  have hpb := q.pab
  refine ⟨fun k => if k = f then r t else if k = t then r f else r k, fun k hk => ?_, fun a b ha hb e => ?_, fun k hk hp => ?_⟩
  · show (if k = f then r t else if k = t then r f else r k) < 96
    have h1 := h.lt k hk
    have h2 := h.lt f q.ia
    have h3 := h.lt t q.ib
    split
    · exact h3
    · split
      · exact h2
      · exact h1
  · have e' : (if a = f then r t else if a = t then r f else r a) = (if b = f then r t else if b = t then r f else r b) := e
    have nf : ∀ x, InS x → x ≠ f → r x ≠ r f := fun x hx n e => n (h.inj x f hx q.ia e)
    have nt : ∀ x, InS x → x ≠ t → r x ≠ r t := fun x hx n e => n (h.inj x t hx q.ib e)
    have nft : r f ≠ r t := nt f q.ia hne
    by_cases a1 : a = f
    · by_cases b1 : b = f
      · rw [a1, b1]
      · rw [if_pos a1, if_neg b1] at e'
        by_cases b2 : b = t
        · rw [if_pos b2] at e'; exact absurd e'.symm nft
        · rw [if_neg b2] at e'; exact absurd e'.symm (nt b hb b2)
    · rw [if_neg a1] at e'
      by_cases a2 : a = t
      · rw [if_pos a2] at e'
        by_cases b1 : b = f
        · rw [if_pos b1] at e'; exact absurd e' nft
        · rw [if_neg b1] at e'
          by_cases b2 : b = t
          · rw [a2, b2]
          · rw [if_neg b2] at e'; exact absurd e'.symm (nf b hb b1)
      · rw [if_neg a2] at e'
        by_cases b1 : b = f
        · rw [if_pos b1] at e'; exact absurd e' (nt a ha a2)
        · rw [if_neg b1] at e'
          by_cases b2 : b = t
          · rw [if_pos b2] at e'; exact absurd e' (nf a ha a1)
          · rw [if_neg b2] at e'; exact h.inj a b ha hb e'
  · show (if repP S.par S.kids f t k = f then r t else if repP S.par S.kids f t k = t then r f else r (repP S.par S.kids f t k)) < (if k = f then r t else if k = t then r f else r k)
    by_cases h1 : k ∈ S.kids f
    · have hpk : S.par k = f := ((q.tree.kid f k q.ia).1 h1).2
      have k1 : k ≠ f := fun e => hfk (e ▸ h1)
      have k2 : k ≠ t := fun e => htk (e ▸ h1)
      rw [repP_kid h1, if_neg (fun e => hne e.symm), if_pos rfl, if_neg k1, if_neg k2]
      have := h.up k hk (by rw [hpk]; have := q.ia.1; omega)
      rwa [hpk] at this
    · by_cases k1 : k = f
      · subst k1
        rw [repP_a h1] at hp
        exact absurd rfl hp
      · by_cases k2 : k = t
        · subst k2
          rw [repP_b h1 hne] at hp ⊢
          rw [if_neg hpa, if_neg hpb, if_neg k1, if_pos rfl]
          exact h.up f q.ia hp
        · rw [repP_else h1 k1 k2] at hp ⊢
          have e1 : S.par k ≠ f := fun e => h1 ((q.tree.kid f k q.ia).2 ⟨hk, e⟩)
          have e2 : S.par k ≠ t := fun e => by
            have := (q.tree.kid t k q.ib).2 ⟨hk, e⟩
            rw [q.kb] at this
            simp at this
          rw [if_neg e1, if_neg e2, if_neg k1, if_neg k2]
          exact h.up k hk hp
theorem derC_kind {m b : Int} {mint : Bool} (h : (derC c m b mint).2 = 0) : (derC c m b mint).1.kind ≠ 0 := by
  unfold derC at h ⊢
  split
  · next e =>
    rw [if_pos e] at h
    have q := Cp.mint_ok h
    rw [q.eq]
    have := q.kind
    show c.kind ≠ 0
    omega
  · next e =>
    rw [if_neg e] at h
    have q := Cp.derive_ok h
    rw [q.eq]
    exact q.kind
theorem movC_kind (hc : c.kind ≠ 0) (h : (movC c gd n mu).2 = 0) : (movC c gd n mu).1.kind ≠ 0 := by
  unfold movC at h ⊢
  split
  · next e =>
    rw [if_pos e] at h
    unfold Cp.mutate at h ⊢
    split at h
    · simp at h
    · next h1 =>
      rw [if_neg h1]
      split at h
      · simp at h
      · next h2 =>
        rw [if_neg h2]
        split at h
        · simp at h
        · next h3 => rw [if_neg h3]; exact hc
  · exact hc
/-- below another one -/
theorem Dok.below (h : Dok S) (he : endsN S f t = 0) (hc : c.may) (hk : c.kind ≠ 0) : linkN S t f = 0 ∧ Dok (belowS S f t c) := by
  obtain ⟨hf, ht, kf, kt⟩ := endsN_ok he
  have hne : t ≠ f := fun e => kf (e ▸ kt)
  obtain ⟨bp, bk⟩ := h.bare t ht kt
  have hL : linkN S t f = 0 := by
    unfold linkN
    rw [if_neg (by rw [slotOk_in.2 ht, slotOk_in.2 hf]; simp), if_neg (by rw [bp]; omega)]
  refine ⟨hL, h.sok.below f t hc, fun i hi hz => ?_, ?_⟩
  · unfold belowS at hz ⊢
    rw [if_pos hL] at hz ⊢
    have et : i ≠ t := fun e => by
      have : ((linkS S t f).putC t c).cap i = c := by rw [e]; simp [RSt.putC, setF]
      rw [this] at hz
      exact hk hz
    have ec : ((linkS S t f).putC t c).cap i = S.cap i := by
      show setF (linkS S t f).cap t c i = _
      rw [setF_ne et]
      unfold linkS
      rw [if_pos hL]
    rw [ec] at hz
    have ef : i ≠ f := fun e => kf (e ▸ hz)
    obtain ⟨q1, q2⟩ := h.bare i hi hz
    show (linkS S t f).par i = -1 ∧ (linkS S t f).kids i = []
    unfold linkS
    rw [if_pos hL]
    show setF S.par t f i = -1 ∧ setF S.kids f (t :: S.kids f) i = []
    rw [setF_ne et, setF_ne ef]
    exact ⟨q1, q2⟩
  · obtain ⟨r, hr⟩ := h.rank
    have e : (belowS S f t c).par = setF S.par t f := by
      unfold belowS
      rw [if_pos hL]
      show (linkS S t f).par = _
      unfold linkS
      rw [if_pos hL]
    rw [e]
    exact hr.link ht hf hne (fun k hk' e => by
      have := (h.sok.tree.kid t k ht).2 ⟨hk', e⟩
      rw [bk] at this
      simp at this) (fun k hk' e => by
      rcases h.sok.tree.par k hk' with q | ⟨q, -⟩
      · exact absurd q e
      · exact q)
theorem Dok.der (h : Dok S) (f t m b : Int) (mint : Bool) : Dok (derS S f t m b mint) := by
  unfold derS
  split
  · exact h
  · next e0 =>
    split
    · exact h
    · next e1 => exact (h.below (by simpa using e0) (derC_may (by simpa using e1)) (derC_kind (by simpa using e1))).2
theorem Dok.over (h : Dok S) (he : endsN S f t = 0) (hc : c.may) (hk : c.kind ≠ 0) : replaceN S f t = 0 ∧ Dok (overS S f t c) := by
  obtain ⟨hf, ht, kf, kt⟩ := endsN_ok he
  have hne : f ≠ t := fun e => kf (e ▸ kt)
  obtain ⟨bp, bk⟩ := h.bare t ht kt
  have hR : replaceN S f t = 0 := by
    unfold replaceN
    rw [if_neg (by rw [slotOk_in.2 ht, slotOk_in.2 hf]; simp), if_neg (by rw [bp, bk]; simp [hne])]
  have q := h.sok.repl hR
  obtain ⟨eP, eK⟩ := h.sok.replPK hR
  have hO : overS S f t c = ((replaceS S f t).putC t c).putC f Cp.zero := by unfold overS; rw [if_pos hR]
  refine ⟨hR, h.sok.over f t hc, fun i hi hz => ?_, ?_⟩
  · rw [hO] at hz ⊢
    show (replaceS S f t).par i = -1 ∧ (replaceS S f t).kids i = []
    rw [eP, eK]
    by_cases e1 : i = f
    · subst e1
      exact ⟨repP_a q.aa, repK_a hne⟩
    · have e2 : i ≠ t := fun e => by
        have : (((replaceS S f t).putC t c).putC f Cp.zero).cap i = c := by
          show setF (setF (replaceS S f t).cap t c) f Cp.zero i = c
          rw [setF_ne e1, e, setF_self]
        rw [this] at hz
        exact hk hz
      have ec : (((replaceS S f t).putC t c).putC f Cp.zero).cap i = S.cap i := by
        show setF (setF (replaceS S f t).cap t c) f Cp.zero i = _
        rw [setF_ne e1, setF_ne e2]
        unfold replaceS
        rw [if_pos hR]
        rfl
      rw [ec] at hz
      obtain ⟨q1, q2⟩ := h.bare i hi hz
      have n1 : i ∉ S.kids f := fun hm => by
        have := ((q.tree.kid f i hf).1 hm).2
        have := hf.1
        omega
      rw [repP_else n1 e1 e2]
      refine ⟨q1, ?_⟩
      by_cases e3 : i = S.par f
      · rw [repK_p e1 e2 e3, q2]
        rfl
      · rw [repK_else e1 e2 e3]
        exact q2
  · obtain ⟨r, hr⟩ := h.rank
    have e : (overS S f t c).par = repP S.par S.kids f t := by
      rw [hO]
      exact eP
    rw [e]
    exact hr.replace q
theorem Dok.mov (h : Dok S) (f t gd n : Int) (mu : Bool) : Dok (movS S f t gd n mu) := by
  unfold movS
  split
  · exact h
  · next e0 =>
    split
    · exact h
    · next e1 => exact (h.over (by simpa using e0) (movC_may (h.sok.may f) (by simpa using e1)) (movC_kind (endsN_ok (by simpa using e0)).2.2.1 (by simpa using e1))).2
theorem Dok.del (h : Dok S) (i : Int) : Dok (delS S i) := by
  unfold delS
  split
  · next h0 =>
    have hi : InS i := by
      by_cases e : slotOk i = true
      · exact slotOk_in.1 e
      · rw [delN, if_pos (.inl (by simpa using e))] at h0; omega
    have hk : S.kids i = [] := by
      by_cases e : S.kids i = []
      · exact e
      · exact absurd h0 (by
          unfold delN
          split
          · decide
          · first | decide | (rw [if_pos e]; decide))
    have hr := h.sok.tree.par_rng hi
    refine ⟨((h.sok.unlink i).1.putC hi zero_may).1, fun j hj hz => ?_, ?_⟩
    · show (unlinkS S i).par j = -1 ∧ (unlinkS S i).kids j = []
      by_cases e : j = i
      · subst e
        unfold unlinkS
        by_cases hp : 0 ≤ S.par j
        · rw [if_pos ⟨slotOk_in.2 hi, hp⟩]
          show setF S.par j (-1) j = -1 ∧ setF S.kids (S.par j) ((S.kids (S.par j)).erase j) j = []
          rw [setF_self]
          refine ⟨rfl, ?_⟩
          by_cases e2 : j = S.par j
          · exact absurd e2.symm (h.sok.hne j hi)
          · rw [setF_ne e2]; exact hk
        · rw [if_neg (fun e => hp e.2)]
          exact ⟨by omega, hk⟩
      · have ec : ((unlinkS S i).putC i Cp.zero).cap j = S.cap j := by
          show setF (unlinkS S i).cap i Cp.zero j = _
          rw [setF_ne e]
          unfold unlinkS
          split <;> rfl
        rw [ec] at hz
        obtain ⟨q1, q2⟩ := h.bare j hj hz
        unfold unlinkS
        split
        · next hp =>
          show setF S.par i (-1) j = -1 ∧ setF S.kids (S.par i) ((S.kids (S.par i)).erase i) j = []
          rw [setF_ne e]
          refine ⟨q1, ?_⟩
          by_cases e2 : j = S.par i
          · rw [e2, setF_self, ← e2, q2]
            rfl
          · rw [setF_ne e2]; exact q2
        · exact ⟨q1, q2⟩
    · obtain ⟨r, hr'⟩ := h.rank
      show ∃ r, Rank (unlinkS S i).par r
      unfold unlinkS
      split
      · exact ⟨r, hr'.unlink i⟩
      · exact ⟨r, hr'⟩
  · exact h
theorem Dok.one (h : Dok S) (i : Int) : Dok (oneS S i) := by
  unfold oneS
  split
  · exact h
  · split
    · exact h
    · exact h.del _
end
/-- the boot state is so -/
theorem boot_dok {t : Nat} (ht : t ≤ 7) : Dok (bootS t) where
  sok := boot_sok ht
  bare := fun i _ _ => by rw [(boot_plainly ht).par, (boot_plainly ht).kids]; exact ⟨rfl, rfl⟩
  rank := ⟨fun i => i.toNat, fun i hi => by have := hi.1; have := hi.2; show i.toNat < 96; omega, fun i j hi hj e => by
    have h1 := hi.1
    have h2 := hj.1
    have e' : i.toNat = j.toNat := e
    omega, fun k _ hp => by rw [(boot_plainly ht).par] at hp; exact absurd rfl hp⟩
end Go.Proofs.Ytlhcigpllkigdaa
