/- Threads that wait, and are owed replies (layers 15 to 22): what is sound of a state; what blocks, unblocks, links keep; as mathematics. No dump is read here. -/
import Derived.Test.YtloeofhchfaieaaWok
namespace Go.Proofs.Ytloeofhchfaieaa
open Go.RowKit
def RSt.Thr (S : RSt) (i : Int) : Prop := (0 ≤ i ∧ i < 32) ∧ (S.ob i).kind = 5
/-- a state of one that is in a queue -/
def blk (s : Int) : Prop := s = 2 ∨ s = 3 ∨ s = 5 ∨ s = 6
instance (s : Int) : Decidable (blk s) := by unfold blk; infer_instance
/-- who waits fits to an Endpoint's F1, to a notification -/
def fits (k wt s : Int) : Prop := (k = 3 ∧ ((wt = 1 ∧ (s = 2 ∨ s = 6)) ∨ (wt = 2 ∧ s = 3))) ∨ (k = 4 ∧ s = 5)
/-- queues are sound: who is in one is blocked on it; an Endpoint knows who waits -/
structure EI (S : RSt) : Prop where
  qf : S.QFit
  on : ∀ i, S.Thr i → ∀ o, 0 ≤ o → ((S.ob i).on = o ↔ i ∈ (S.ob o).queue)
  cls : ∀ i, S.Thr i → (0 ≤ (S.ob i).on ↔ blk (S.ob i).state)
  one1 : ∀ i, S.Thr i → -1 ≤ (S.ob i).on
  fit : ∀ o t, t ∈ (S.ob o).queue → fits (S.ob o).kind (S.ob o).wait (S.ob t).state
  wt : ∀ o, (0 ≤ o ∧ o < 32) → (S.ob o).kind = 3 → ((S.ob o).queue = [] ↔ (S.ob o).wait = 0) ∧ 0 ≤ (S.ob o).wait ∧ (S.ob o).wait ≤ 2
/-- who owes a reply, and who is owed one -/
structure EII (S : RSt) : Prop where
  a : ∀ s c, S.Thr s → (S.ob s).owes = c → 0 ≤ c → S.Thr c ∧ (S.ob c).owing = s
  b : ∀ c s, S.Thr c → (S.ob c).owing = s → 0 ≤ s → S.Thr s ∧ (S.ob s).owes = c
  r : ∀ c, S.Thr c → ((S.ob c).state = 4 ↔ 0 ≤ (S.ob c).owing)
  lo : ∀ c, S.Thr c → -1 ≤ (S.ob c).owing ∧ -1 ≤ (S.ob c).owes
section
variable {S S' : RSt} {o r t : Int} {p b : List Int}
theorem Thr_same (hk : ∀ i, (S'.ob i).kind = (S.ob i).kind) (i : Int) : S'.Thr i ↔ S.Thr i := by unfold RSt.Thr; rw [hk]
theorem EI.none (h : EI S) (ht : S.Thr t) (hs : ¬ blk (S.ob t).state) : (S.ob t).on = -1 ∧ ∀ o, t ∉ (S.ob o).queue := by
  have h1 := h.one1 t ht
  have h2 : ¬ 0 ≤ (S.ob t).on := fun e => hs ((h.cls t ht).1 e)
  refine ⟨by omega, fun o hm => ?_⟩
  have ho := (h.qf.own o (fun e => by rw [e] at hm; simp at hm)).1.1
  have := (h.on t ht o ho).2 hm
  omega
theorem EI.thr (h : EI S) (hm : t ∈ (S.ob o).queue) : S.Thr t := ⟨(h.qf.mem o t hm).1, (h.qf.mem o t hm).2.1⟩
/-- one leaves a queue -/
theorem EI.unblock (h : EI S) (hk : ∀ i, (S'.ob i).kind = (S.ob i).kind) (hq : (S.ob o).queue = p ++ r :: b) (hq1 : (S'.ob o).queue = p ++ b) (hq2 : ∀ i, i ≠ o → (S'.ob i).queue = (S.ob i).queue)
    (ho1 : (S'.ob r).on = -1) (ho2 : ∀ i, S.Thr i → i ≠ r → (S'.ob i).on = (S.ob i).on) (hs1 : ¬ blk (S'.ob r).state) (hs2 : ∀ i, S.Thr i → i ≠ r → (S'.ob i).state = (S.ob i).state ∨ (¬ blk (S.ob i).state ∧ ¬ blk (S'.ob i).state))
    (hw1 : (S.ob o).kind = 3 → (S'.ob o).wait = if p ++ b = [] then 0 else (S.ob o).wait) (hw2 : ∀ i, (S.ob i).kind = 3 → i ≠ o → (S'.ob i).wait = (S.ob i).wait) (hg : ∀ i, S.Thr i → i ≠ r → blk (S.ob i).state → (S'.ob i).owing = (S.ob i).owing) : EI S' := by
  have hT := Thr_same hk
  have hrm : r ∈ (S.ob o).queue := by rw [hq]; simp
  have hnd := h.qf.nd o
  rw [hq] at hnd
  have hrn : r ∉ p ++ b := fun hm => by
    have := (List.nodup_append.1 hnd)
    rcases List.mem_append.1 hm with e | e
    · exact this.2.2 r e r List.mem_cons_self rfl
    · exact (List.nodup_cons.1 this.2.1).1 e
  have hsub : ∀ x, x ∈ p ++ b ↔ x ∈ (S.ob o).queue ∧ x ≠ r := fun x => by
    rw [hq, List.mem_append, List.mem_append, List.mem_cons]
    constructor
    · intro e
      refine ⟨e.imp id .inr, fun e2 => hrn (by rw [← e2]; exact List.mem_append.2 e)⟩
    · rintro ⟨e | e | e, hne⟩
      · exact .inl e
      · exact absurd e hne
      · exact .inr e
  have hq' : ∀ i x, x ∈ (S'.ob i).queue ↔ x ∈ (S.ob i).queue ∧ x ≠ r := fun i x => by
    by_cases e : i = o
    · rw [e, hq1]; exact hsub x
    · rw [hq2 i e]
      exact ⟨fun hm => ⟨hm, fun e2 => e (h.qf.one i o r (e2 ▸ hm) hrm)⟩, fun hm => hm.1⟩
  have hst : ∀ i x, x ∈ (S'.ob i).queue → (S'.ob x).state = (S.ob x).state := fun i x hx => by
    obtain ⟨h1, h2⟩ := (hq' i x).1 hx
    have hx' := h.thr h1
    rcases hs2 x hx' h2 with e | ⟨e, -⟩
    · exact e
    · exact absurd h1 ((h.none hx' e).2 i)
  refine ⟨⟨fun i hi => ?_, fun i x hx => ?_, fun i => ?_, fun i j x h1 h2 => ?_⟩, fun i hi x hx => ?_, fun i hi => ?_, fun i hi => ?_, fun i x hx => ?_, fun i hi hk3 => ?_⟩
  · have : (S.ob i).queue ≠ [] := fun e => hi (List.eq_nil_iff_forall_not_mem.2 fun x hx => by have := ((hq' i x).1 hx).1; rw [e] at this; simp at this)
    obtain ⟨h1, h2⟩ := h.qf.own i this
    exact ⟨h1, by unfold RObj.isQ at h2 ⊢; rw [hk]; exact h2⟩
  · obtain ⟨h1, h2⟩ := (hq' i x).1 hx
    obtain ⟨q1, q2, q3⟩ := h.qf.mem i x h1
    have hb : blk (S.ob x).state := by
      have := (h.on x (h.thr h1) i (h.qf.own i (fun e => by rw [e] at h1; simp at h1)).1.1).2 h1
      refine (h.cls x (h.thr h1)).1 ?_
      have := (h.qf.own i (fun e => by rw [e] at h1; simp at h1)).1.1
      omega
    exact ⟨q1, by rw [hk]; exact q2, by rw [hg x (h.thr h1) h2 hb]; exact q3⟩
  · by_cases e : i = o
    · rw [e, hq1]
      exact List.Nodup.sublist (List.Sublist.append_left (List.sublist_cons_self r b) p) hnd
    · rw [hq2 i e]; exact h.qf.nd i
  · exact h.qf.one i j x ((hq' i x).1 h1).1 ((hq' j x).1 h2).1
  · have hi' := (hT i).1 hi
    rw [hq']
    by_cases e : i = r
    · subst e
      rw [ho1]
      exact ⟨fun e2 => by omega, fun e2 => absurd rfl e2.2⟩
    · rw [ho2 i hi' e, h.on i hi' x hx]
      exact ⟨fun e2 => ⟨e2, e⟩, fun e2 => e2.1⟩
  · have hi' := (hT i).1 hi
    by_cases e : i = r
    · subst e
      rw [ho1]
      exact ⟨fun e2 => by omega, fun e2 => absurd e2 hs1⟩
    · rw [ho2 i hi' e, h.cls i hi']
      rcases hs2 i hi' e with e1 | ⟨e1, e2⟩
      · rw [e1]
      · exact ⟨fun e3 => absurd e3 e1, fun e3 => absurd e3 e2⟩
  · have hi' := (hT i).1 hi
    by_cases e : i = r
    · subst e; rw [ho1]; omega
    · rw [ho2 i hi' e]; exact h.one1 i hi'
  · have h1 := ((hq' i x).1 hx).1
    have h2 := h.fit i x h1
    rw [hk, hst i x hx]
    by_cases e : i = o
    · subst e
      have hne : p ++ b ≠ [] := fun e => by rw [hq1, e] at hx; simp at hx
      by_cases e3 : (S.ob i).kind = 3
      · rw [hw1 e3, if_neg hne]; exact h2
      · unfold fits at h2 ⊢
        exact .inr (h2.resolve_left (fun z => e3 z.1))
    · by_cases e3 : (S.ob i).kind = 3
      · rw [hw2 i e3 e]; exact h2
      · unfold fits at h2 ⊢
        exact .inr (h2.resolve_left (fun z => e3 z.1))
  · rw [hk] at hk3
    obtain ⟨h1, h2⟩ := h.wt i hi hk3
    by_cases e : i = o
    · subst e
      rw [hq1, hw1 hk3]
      by_cases e2 : p ++ b = []
      · rw [if_pos e2]
        exact ⟨⟨fun _ => rfl, fun _ => e2⟩, by omega, by omega⟩
      · rw [if_neg e2]
        exact ⟨⟨fun e3 => absurd e3 e2, fun e3 => by have := h1.2 e3; rw [hq] at this; simp at this⟩, h2⟩
    · rw [hq2 i e, hw2 i hk3 e]
      exact ⟨h1, h2⟩
/-- one is pushed -/
theorem EI.block (h : EI S) (hk : ∀ i, (S'.ob i).kind = (S.ob i).kind) (ho : S.zs o) (ht : S.Thr t) (hb : ¬ blk (S.ob t).state) (hgt : (S'.ob t).owing = -1) (hq1 : (S'.ob o).queue = (S.ob o).queue ++ [t]) (hq2 : ∀ i, i ≠ o → (S'.ob i).queue = (S.ob i).queue)
    (ho1 : (S'.ob t).on = o) (ho2 : ∀ i, S.Thr i → i ≠ t → (S'.ob i).on = (S.ob i).on) (hs1 : fits (S.ob o).kind (S'.ob o).wait (S'.ob t).state) (hs2 : ∀ i, S.Thr i → i ≠ t → (S'.ob i).state = (S.ob i).state)
    (hw1 : (S.ob o).kind = 3 → (S.ob o).wait = 0 ∨ (S'.ob o).wait = (S.ob o).wait) (hw2 : ∀ i, (S.ob i).kind = 3 → i ≠ o → (S'.ob i).wait = (S.ob i).wait) (hg : ∀ i, S.Thr i → i ≠ t → (S'.ob i).owing = (S.ob i).owing) : EI S' := by
  have hT := Thr_same hk
  obtain ⟨hton, hno⟩ := h.none ht hb
  have hbt : blk (S'.ob t).state := by unfold fits at hs1; unfold blk; omega
  have hq' : ∀ i x, x ∈ (S'.ob i).queue ↔ x ∈ (S.ob i).queue ∨ (i = o ∧ x = t) := fun i x => by
    by_cases e : i = o
    · subst e
      rw [hq1, List.mem_append, List.mem_singleton]
      exact ⟨fun z => z.imp id (fun e => ⟨rfl, e⟩), fun z => z.imp id (fun e => e.2)⟩
    · rw [hq2 i e]
      exact ⟨.inl, fun z => z.resolve_right (fun z => e z.1)⟩
  refine ⟨⟨fun i hi => ?_, fun i x hx => ?_, fun i => ?_, fun i j x h1 h2 => ?_⟩, fun i hi x hx => ?_, fun i hi => ?_, fun i hi => ?_, fun i x hx => ?_, fun i hi hk3 => ?_⟩
  · by_cases e : i = o
    · subst e
      exact ⟨ho.1, by have := ho.2; unfold RObj.isQ at this ⊢; rw [hk]; exact this⟩
    · rw [hq2 i e] at hi
      obtain ⟨h1, h2⟩ := h.qf.own i hi
      exact ⟨h1, by unfold RObj.isQ at h2 ⊢; rw [hk]; exact h2⟩
  · rcases (hq' i x).1 hx with h1 | ⟨-, rfl⟩
    · obtain ⟨q1, q2, q3⟩ := h.qf.mem i x h1
      have hne : x ≠ t := fun e => hno i (e ▸ h1)
      exact ⟨q1, by rw [hk]; exact q2, by rw [hg x (h.thr h1) hne]; exact q3⟩
    · exact ⟨ht.1, by rw [hk]; exact ht.2, hgt⟩
  · by_cases e : i = o
    · rw [e, hq1]
      exact List.nodup_append.2 ⟨h.qf.nd o, by simp, fun x hx y hy e => hno o (by rw [← List.mem_singleton.1 hy, ← e]; exact hx)⟩
    · rw [hq2 i e]; exact h.qf.nd i
  · rcases (hq' i x).1 h1 with e1 | ⟨e1, e2⟩ <;> rcases (hq' j x).1 h2 with e3 | ⟨e3, e4⟩
    · exact h.qf.one i j x e1 e3
    · exact absurd (e4 ▸ e1) (hno i)
    · exact absurd (e2 ▸ e3) (hno j)
    · rw [e1, e3]
  · have hi' := (hT i).1 hi
    rw [hq']
    by_cases e : i = t
    · subst e
      rw [ho1]
      exact ⟨fun e2 => .inr ⟨e2.symm, rfl⟩, fun e2 => e2.elim (fun z => absurd z (hno x)) (fun z => z.1.symm)⟩
    · rw [ho2 i hi' e, h.on i hi' x hx]
      exact ⟨.inl, fun z => z.resolve_right (fun z => e z.2)⟩
  · have hi' := (hT i).1 hi
    by_cases e : i = t
    · subst e
      rw [ho1]
      exact ⟨fun _ => hbt, fun _ => ho.1.1⟩
    · rw [ho2 i hi' e, hs2 i hi' e]
      exact h.cls i hi'
  · have hi' := (hT i).1 hi
    by_cases e : i = t
    · subst e; rw [ho1]; have := ho.1.1; omega
    · rw [ho2 i hi' e]; exact h.one1 i hi'
  · rw [hk]
    rcases (hq' i x).1 hx with h1 | ⟨rfl, rfl⟩
    · have h2 := h.fit i x h1
      have hne : x ≠ t := fun e => hno i (e ▸ h1)
      rw [hs2 x (h.thr h1) hne]
      by_cases e3 : (S.ob i).kind = 3
      · by_cases e : i = o
        · subst e
          rcases hw1 e3 with hw | hw
          · have := ((h.wt i ho.1 e3).1.2 hw)
            rw [this] at h1
            simp at h1
          · rw [hw]; exact h2
        · rw [hw2 i e3 e]; exact h2
      · unfold fits at h2 ⊢
        exact .inr (h2.resolve_left (fun z => e3 z.1))
    · exact hs1
  · rw [hk] at hk3
    obtain ⟨h1, h2⟩ := h.wt i hi hk3
    by_cases e : i = o
    · subst e
      have hw : (S'.ob i).wait = 1 ∨ (S'.ob i).wait = 2 := by unfold fits at hs1; omega
      rw [hq1]
      exact ⟨⟨fun e2 => by simp at e2, fun e2 => by omega⟩, by omega, by omega⟩
    · rw [hq2 i e, hw2 i hk3 e]
      exact ⟨h1, h2⟩
/-- nothing of queues is changed -/
theorem EI.quiet (h : EI S) (hk : ∀ i, (S'.ob i).kind = (S.ob i).kind) (hq : ∀ i, (S'.ob i).queue = (S.ob i).queue) (ho : ∀ i, S.Thr i → (S'.ob i).on = (S.ob i).on)
    (hs : ∀ i, S.Thr i → (S'.ob i).state = (S.ob i).state ∨ (¬ blk (S.ob i).state ∧ ¬ blk (S'.ob i).state)) (hw : ∀ i, (S.ob i).kind = 3 → (S'.ob i).wait = (S.ob i).wait) (hg : ∀ i, S.Thr i → blk (S.ob i).state → (S'.ob i).owing = (S.ob i).owing) : EI S' := by
  have hT := Thr_same hk
  have hst : ∀ i x, x ∈ (S.ob i).queue → blk (S.ob x).state ∧ (S'.ob x).state = (S.ob x).state := fun i x h1 => by
    have hb : blk (S.ob x).state := by
      have := (h.on x (h.thr h1) i (h.qf.own i (fun e => by rw [e] at h1; simp at h1)).1.1).2 h1
      refine (h.cls x (h.thr h1)).1 ?_
      have := (h.qf.own i (fun e => by rw [e] at h1; simp at h1)).1.1
      omega
    exact ⟨hb, (hs x (h.thr h1)).resolve_right (fun z => z.1 hb)⟩
  refine ⟨⟨fun i hi => ?_, fun i x hx => ?_, fun i => ?_, fun i j x h1 h2 => ?_⟩, fun i hi x hx => ?_, fun i hi => ?_, fun i hi => ?_, fun i x hx => ?_, fun i hi hk3 => ?_⟩
  · rw [hq] at hi
    obtain ⟨h1, h2⟩ := h.qf.own i hi
    exact ⟨h1, by unfold RObj.isQ at h2 ⊢; rw [hk]; exact h2⟩
  · rw [hq] at hx
    obtain ⟨q1, q2, q3⟩ := h.qf.mem i x hx
    exact ⟨q1, by rw [hk]; exact q2, by rw [hg x (h.thr hx) (hst i x hx).1]; exact q3⟩
  · rw [hq]; exact h.qf.nd i
  · rw [hq] at h1 h2; exact h.qf.one i j x h1 h2
  · rw [hq, ho i ((hT i).1 hi)]; exact h.on i ((hT i).1 hi) x hx
  · have hi' := (hT i).1 hi
    rw [ho i hi', h.cls i hi']
    rcases hs i hi' with e1 | ⟨e1, e2⟩
    · rw [e1]
    · exact ⟨fun e3 => absurd e3 e1, fun e3 => absurd e3 e2⟩
  · rw [ho i ((hT i).1 hi)]; exact h.one1 i ((hT i).1 hi)
  · rw [hq] at hx
    have h2 := h.fit i x hx
    rw [hk, (hst i x hx).2]
    by_cases e3 : (S.ob i).kind = 3
    · rw [hw i e3]; exact h2
    · unfold fits at h2 ⊢
      exact .inr (h2.resolve_left (fun z => e3 z.1))
  · rw [hk] at hk3
    rw [hq, hw i hk3]
    exact h.wt i hi hk3
end
end Go.Proofs.Ytloeofhchfaieaa
