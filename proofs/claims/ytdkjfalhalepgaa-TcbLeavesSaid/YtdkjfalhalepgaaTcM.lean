/- Threads (layer 17): stopped, started, given a priority and a root, on the document's state; a sound state stays sound; as mathematics. No dump is read here. -/
import Derived.Test.YtdkjfalhalepgaaEpS
namespace Go.Proofs.Ytdkjfalhalepgaa
open Go.RowKit
def outS (S : RSt) (o t : Int) : RSt := if (S.ob o).kind = 3 then restS (queueS S o ((S.ob o).queue.erase t)) o else queueS S o ((S.ob o).queue.erase t)
def cancelS (S : RSt) (t : Int) : RSt :=
  stopS (if (S.ob t).state = 4 then owingS (if 0 ≤ (S.ob t).owing then owesS S (S.ob t).owing (-1) else S) t (-1)
    else if 0 ≤ (S.ob t).on then outS S (S.ob t).on t else S) t
section
variable {S S' : RSt} {ep t r b w c s n : Int} {l : List Int}
theorem erase_mid {p q : List Int} (hn : (p ++ t :: q).Nodup) : (p ++ t :: q).erase t = p ++ q := by
  have h := List.nodup_append.1 hn
  rw [List.erase_append_right _ (fun e => h.2.2 t e t (by simp) rfl), List.erase_cons_head]
theorem Eok.qlen32 (h : Eok S) (o : Int) : (S.ob o).queue.length ≤ 500 := by
  have := (Wok.of h.sok h.ei.qf).few o
  have e : S.qs o = (S.ob o).queue := rfl
  rw [e] at this
  omega
/-- one that is owed a reply is stopped -/
theorem Eok.stopR (h : Eok S) (ht : S.Thr t) (hc : (S.ob t).owes = c) (h0 : ¬ c < 0) : Eok (stopS (owingS (owesS S t (-1)) c (-1)) c) := by
  obtain ⟨hct, hco⟩ := h.eii.a t c ht hc (by omega)
  have hc4 : (S.ob c).state = 4 := (h.eii.r c hct).2 (by rw [hco]; exact ht.1.1)
  have hcn := h.ei.none hct (blk_no1 (.inr (.inl hc4)))
  have hk : ∀ i, ((stopS (owingS (owesS S t (-1)) c (-1)) c).ob i).kind = (S.ob i).kind := fun i => by simp only [stopS_kind, owingS_kind, owesS_kind]
  have hT := Thr_same hk
  refine ⟨((h.sok.owesS (⟨by decide, by decide⟩ : m40' (-1))).owingS (⟨by decide, by decide⟩ : m40' (-1))).stopS, ?_, ⟨fun s' c' hs' h1' h2 => ?_, fun c' s' hc' h1' h2 => ?_, fun c' hc' => ?_, fun c' hc' => ?_⟩, fun t' ht' => ?_, fun t' ht' h3 => ?_⟩
  · refine h.ei.quiet hk (fun i => ?_) (fun i hi => ?_) (fun i hi => ?_) (fun i _ => ?_) (fun i _ hb => ?_)
    · simp only [stopS_queue, owingS_queue, owesS_queue]
    · simp only [stopS_on, owingS_on, owesS_on]
      split
      · next e => rw [e]; exact hcn.1.symm
      · rfl
    · simp only [stopS_state, owingS_state, owesS_state]
      split
      · next e => rw [e]; exact .inr ⟨blk_no1 (.inr (.inl hc4)), blk_no1 (.inr (.inr rfl))⟩
      · exact .inl rfl
    · simp only [stopS_wait, owingS_wait, owesS_wait]
    · simp only [stopS_owing, owingS_owing, owesS_owing]
      split
      · next e => rw [e] at hb; exact absurd hb (blk_no1 (.inr (.inl hc4)))
      · rfl
  · have hs'' := (hT s').1 hs'
    simp only [stopS_owing, stopS_owes, owingS_owing, owingS_owes, owesS_owing, owesS_owes] at h1' ⊢
    by_cases e : s' = t
    · rw [if_pos e] at h1'; omega
    · rw [if_neg e] at h1'
      obtain ⟨q1, q2⟩ := h.eii.a s' c' hs'' h1' h2
      have hne : c' ≠ c := fun e2 => by rw [e2, hco] at q2; exact e q2.symm
      rw [if_neg hne]
      exact ⟨(hT c').2 q1, q2⟩
  · have hc'' := (hT c').1 hc'
    simp only [stopS_owing, stopS_owes, owingS_owing, owingS_owes, owesS_owing, owesS_owes] at h1' ⊢
    by_cases e : c' = c
    · rw [if_pos e] at h1'; omega
    · rw [if_neg e] at h1'
      obtain ⟨q1, q2⟩ := h.eii.b c' s' hc'' h1' h2
      have hne : s' ≠ t := fun e2 => by rw [e2, hc] at q2; exact e q2.symm
      rw [if_neg hne]
      exact ⟨(hT s').2 q1, q2⟩
  · have hc'' := (hT c').1 hc'
    simp only [stopS_state, stopS_owing, owingS_state, owingS_owing, owesS_state, owesS_owing]
    by_cases e : c' = c
    · rw [if_pos e, if_pos e]
      omega
    · rw [if_neg e, if_neg e]
      exact h.eii.r c' hc''
  · have hc'' := (hT c').1 hc'
    simp only [stopS_owing, stopS_owes, owingS_owing, owingS_owes, owesS_owing, owesS_owes]
    have := h.eii.lo c' hc''
    split <;> split <;> omega
  · simp only [stopS_prio, owingS_prio, owesS_prio]
    exact h.pr t' ((hT t').1 ht')
  · simp only [stopS_state, stopS_owes, owingS_state, owingS_owes, owesS_state, owesS_owes] at h3 ⊢
    by_cases e : t' = c
    · rw [if_pos e] at h3; omega
    · rw [if_neg e] at h3
      split
      · rfl
      · exact h.rv t' ((hT t').1 ht') h3
/-- one that waits is stopped -/
theorem Eok.stopQ3 (h : Eok S) (he : (0 ≤ ep ∧ ep < 32) ∧ (S.ob ep).kind = 3) {p : List Int} (hq : (S.ob ep).queue = p ++ r :: l) : Eok (stopS (restS (queueS S ep ((S.ob ep).queue.erase r)) ep) r) := by
  have her : (S.ob ep).queue.erase r = p ++ l := by rw [hq]; exact erase_mid (by rw [← hq]; exact h.ei.qf.nd ep)
  have hr : S.Thr r := h.ei.thr (o := ep) (by rw [hq]; simp)
  have hri := h.ei.qf.mem ep r (by rw [hq]; simp)
  have hrb : blk (S.ob r).state := (h.ei.cls r hr).1 (by have := (h.ei.on r hr ep he.1.1).2 (by rw [hq]; simp); have := he.1.1; omega)
  have hk : ∀ i, ((stopS (restS (queueS S ep ((S.ob ep).queue.erase r)) ep) r).ob i).kind = (S.ob i).kind := fun i => by simp only [stopS_kind, restS_kind, queueS_kind]
  have hT := Thr_same hk
  have hne : r ≠ ep := fun e => by
    have := hr.2
    rw [e] at this
    have q := he.2
    omega
  refine ⟨(Sok.rest (h.sok.queueS ⟨fun t ht => (h.ei.qf.mem ep t (List.mem_of_mem_erase ht)).1, Nat.le_trans (List.length_erase_le ..) (h.qlen32 ep)⟩)).stopS, ?_, ⟨fun s c hs h1 h2 => ?_, fun c s hc h1 h2 => ?_, fun c hc => ?_, fun c hc => ?_⟩, fun t ht => ?_, fun t ht h3 => ?_⟩
  · refine h.ei.unblock (o := ep) (p := p) (r := r) (b := l) hk hq ?_ (fun i hi => ?_) ?_ (fun i _ hi => ?_) ?_ (fun i _ hi => ?_) (fun h3 => ?_) (fun i _ hi => ?_) (fun i _ hi _ => ?_)
    · simp only [stopS_queue, restS_queue, queueS_queue]
      rw [if_pos trivial, her]
    · simp only [stopS_queue, restS_queue, queueS_queue]
      rw [if_neg hi]
    · simp only [stopS_on, restS_on, queueS_on]
      rw [if_pos trivial]
    · simp only [stopS_on, restS_on, queueS_on]
      rw [if_neg hi]
    · simp only [stopS_state, restS_state, queueS_state]
      rw [if_pos trivial]
      exact blk_no1 (.inr (.inr rfl))
    · simp only [stopS_state, restS_state, queueS_state]
      rw [if_neg hi]
      exact .inl rfl
    · simp only [stopS_wait, restS_wait, queueS_queue, queueS_wait]
      rw [her]
      simp
    · simp only [stopS_wait, restS_wait, queueS_queue, queueS_wait]
      rw [if_neg (fun e => hi e.1)]
    · simp only [stopS_owing, restS_owing, queueS_owing]
  · have hs' := (hT s).1 hs
    simp only [stopS_owing, stopS_owes, restS_owing, restS_owes, queueS_owing, queueS_owes] at h1 ⊢
    obtain ⟨q1, q2⟩ := h.eii.a s c hs' h1 h2
    exact ⟨(hT c).2 q1, q2⟩
  · have hc' := (hT c).1 hc
    simp only [stopS_owing, stopS_owes, restS_owing, restS_owes, queueS_owing, queueS_owes] at h1 ⊢
    obtain ⟨q1, q2⟩ := h.eii.b c s hc' h1 h2
    exact ⟨(hT s).2 q1, q2⟩
  · have hc' := (hT c).1 hc
    simp only [stopS_state, stopS_owing, restS_state, restS_owing, queueS_state, queueS_owing]
    by_cases e : c = r
    · rw [if_pos e, e, hri.2.2]
      omega
    · rw [if_neg e]
      exact h.eii.r c hc'
  · simp only [stopS_owing, stopS_owes, restS_owing, restS_owes, queueS_owing, queueS_owes]
    exact h.eii.lo c ((hT c).1 hc)
  · simp only [stopS_prio, restS_prio, queueS_prio]
    exact h.pr t ((hT t).1 ht)
  · simp only [stopS_state, stopS_owes, restS_state, restS_owes, queueS_state, queueS_owes] at h3 ⊢
    by_cases e : t = r
    · rw [if_pos e] at h3; omega
    · rw [if_neg e] at h3
      exact h.rv t ((hT t).1 ht) h3
/-- one that waits is stopped -/
theorem Eok.stopQ4 (h : Eok S) (he : (0 ≤ ep ∧ ep < 32) ∧ (S.ob ep).kind = 4) {p : List Int} (hq : (S.ob ep).queue = p ++ r :: l) : Eok (stopS (queueS S ep ((S.ob ep).queue.erase r)) r) := by
  have her : (S.ob ep).queue.erase r = p ++ l := by rw [hq]; exact erase_mid (by rw [← hq]; exact h.ei.qf.nd ep)
  have hr : S.Thr r := h.ei.thr (o := ep) (by rw [hq]; simp)
  have hri := h.ei.qf.mem ep r (by rw [hq]; simp)
  have hrb : blk (S.ob r).state := (h.ei.cls r hr).1 (by have := (h.ei.on r hr ep he.1.1).2 (by rw [hq]; simp); have := he.1.1; omega)
  have hk : ∀ i, ((stopS (queueS S ep ((S.ob ep).queue.erase r)) r).ob i).kind = (S.ob i).kind := fun i => by simp only [stopS_kind, queueS_kind]
  have hT := Thr_same hk
  have hne : r ≠ ep := fun e => by
    have := hr.2
    rw [e] at this
    have q := he.2
    omega
  refine ⟨(h.sok.queueS ⟨fun t ht => (h.ei.qf.mem ep t (List.mem_of_mem_erase ht)).1, Nat.le_trans (List.length_erase_le ..) (h.qlen32 ep)⟩).stopS, ?_, ⟨fun s c hs h1 h2 => ?_, fun c s hc h1 h2 => ?_, fun c hc => ?_, fun c hc => ?_⟩, fun t ht => ?_, fun t ht h3 => ?_⟩
  · refine h.ei.unblock (o := ep) (p := p) (r := r) (b := l) hk hq ?_ (fun i hi => ?_) ?_ (fun i _ hi => ?_) ?_ (fun i _ hi => ?_) (fun h3 => absurd h3 (by have := he.2; omega)) (fun i _ hi => ?_) (fun i _ hi _ => ?_)
    · simp only [stopS_queue, queueS_queue]
      rw [if_pos trivial, her]
    · simp only [stopS_queue, queueS_queue]
      rw [if_neg hi]
    · simp only [stopS_on, queueS_on]
      rw [if_pos trivial]
    · simp only [stopS_on, queueS_on]
      rw [if_neg hi]
    · simp only [stopS_state, queueS_state]
      rw [if_pos trivial]
      exact blk_no1 (.inr (.inr rfl))
    · simp only [stopS_state, queueS_state]
      rw [if_neg hi]
      exact .inl rfl
    · simp only [stopS_wait, queueS_wait]
    · simp only [stopS_owing, queueS_owing]
  · have hs' := (hT s).1 hs
    simp only [stopS_owing, stopS_owes, queueS_owing, queueS_owes] at h1 ⊢
    obtain ⟨q1, q2⟩ := h.eii.a s c hs' h1 h2
    exact ⟨(hT c).2 q1, q2⟩
  · have hc' := (hT c).1 hc
    simp only [stopS_owing, stopS_owes, queueS_owing, queueS_owes] at h1 ⊢
    obtain ⟨q1, q2⟩ := h.eii.b c s hc' h1 h2
    exact ⟨(hT s).2 q1, q2⟩
  · have hc' := (hT c).1 hc
    simp only [stopS_state, stopS_owing, queueS_state, queueS_owing]
    by_cases e : c = r
    · rw [if_pos e, e, hri.2.2]
      omega
    · rw [if_neg e]
      exact h.eii.r c hc'
  · simp only [stopS_owing, stopS_owes, queueS_owing, queueS_owes]
    exact h.eii.lo c ((hT c).1 hc)
  · simp only [stopS_prio, queueS_prio]
    exact h.pr t ((hT t).1 ht)
  · simp only [stopS_state, stopS_owes, queueS_state, queueS_owes] at h3 ⊢
    by_cases e : t = r
    · rw [if_pos e] at h3; omega
    · rw [if_neg e] at h3
      exact h.rv t ((hT t).1 ht) h3
/-- one that neither waits nor is owed a reply: stopS -/
theorem Eok.stopN (h : Eok S) (ht : S.Thr t) (hb : ¬ blk (S.ob t).state) (h4 : (S.ob t).state ≠ 4) : Eok (stopS S t) := by
  have hcn := h.ei.none ht hb
  have hk : ∀ i, ((stopS S t).ob i).kind = (S.ob i).kind := fun i => by simp only [stopS_kind]
  have hT := Thr_same hk
  refine ⟨h.sok.stopS, ?_, ⟨fun s c hs h1 h2 => ?_, fun c s hc h1 h2 => ?_, fun c hc => ?_, fun c hc => ?_⟩, fun t' ht' => ?_, fun t' ht' h3 => ?_⟩
  · refine h.ei.quiet hk (fun i => ?_) (fun i hi => ?_) (fun i hi => ?_) (fun i _ => ?_) (fun i _ hb => ?_)
    · simp only [stopS_queue]
    · simp only [stopS_on]
      split
      · next e => rw [e]; exact hcn.1.symm
      · rfl
    · simp only [stopS_state]
      split
      · next e => rw [e]; exact .inr ⟨hb, blk_no1 (.inr (.inr rfl))⟩
      · exact .inl rfl
    · simp only [stopS_wait]
    · simp only [stopS_owing]
  · simp only [stopS_owing, stopS_owes] at h1 ⊢
    obtain ⟨q1, q2⟩ := h.eii.a s c ((hT s).1 hs) h1 h2
    exact ⟨(hT c).2 q1, q2⟩
  · simp only [stopS_owing, stopS_owes] at h1 ⊢
    obtain ⟨q1, q2⟩ := h.eii.b c s ((hT c).1 hc) h1 h2
    exact ⟨(hT s).2 q1, q2⟩
  · have hr := h.eii.r c ((hT c).1 hc)
    simp only [stopS_state, stopS_owing]
    split
    · next e =>
      subst e
      have : ¬ 0 ≤ (S.ob c).owing := fun z => h4 (hr.2 z)
      omega
    · exact hr
  · simp only [stopS_owing, stopS_owes]
    exact h.eii.lo c ((hT c).1 hc)
  · simp only [stopS_prio]
    exact h.pr t' ((hT t').1 ht')
  · simp only [stopS_state, stopS_owes] at h3 ⊢
    split at h3
    · omega
    · exact h.rv t' ((hT t').1 ht') h3
/-- one that neither waits nor is owed a reply: wakeS -/
theorem Eok.wakeN0 (h : Eok S) (ht : S.Thr t) (hb : ¬ blk (S.ob t).state) (h4 : (S.ob t).state ≠ 4) (hw : b40 w) (hb' : b40 b) : Eok (wakeS S t w b) := by
  have hcn := h.ei.none ht hb
  have hk : ∀ i, ((wakeS S t w b).ob i).kind = (S.ob i).kind := fun i => by simp only [wakeS_kind]
  have hT := Thr_same hk
  refine ⟨h.sok.wakeS hw hb', ?_, ⟨fun s c hs h1 h2 => ?_, fun c s hc h1 h2 => ?_, fun c hc => ?_, fun c hc => ?_⟩, fun t' ht' => ?_, fun t' ht' h3 => ?_⟩
  · refine h.ei.quiet hk (fun i => ?_) (fun i hi => ?_) (fun i hi => ?_) (fun i _ => ?_) (fun i _ hb => ?_)
    · simp only [wakeS_queue]
    · simp only [wakeS_on]
      split
      · next e => rw [e]; exact hcn.1.symm
      · rfl
    · simp only [wakeS_state]
      split
      · next e => rw [e]; exact .inr ⟨hb, blk_no1 (.inl rfl)⟩
      · exact .inl rfl
    · simp only [wakeS_wait]
    · simp only [wakeS_owing]
  · simp only [wakeS_owing, wakeS_owes] at h1 ⊢
    obtain ⟨q1, q2⟩ := h.eii.a s c ((hT s).1 hs) h1 h2
    exact ⟨(hT c).2 q1, q2⟩
  · simp only [wakeS_owing, wakeS_owes] at h1 ⊢
    obtain ⟨q1, q2⟩ := h.eii.b c s ((hT c).1 hc) h1 h2
    exact ⟨(hT s).2 q1, q2⟩
  · have hr := h.eii.r c ((hT c).1 hc)
    simp only [wakeS_state, wakeS_owing]
    split
    · next e =>
      subst e
      have : ¬ 0 ≤ (S.ob c).owing := fun z => h4 (hr.2 z)
      omega
    · exact hr
  · simp only [wakeS_owing, wakeS_owes]
    exact h.eii.lo c ((hT c).1 hc)
  · simp only [wakeS_prio]
    exact h.pr t' ((hT t').1 ht')
  · simp only [wakeS_state, wakeS_owes] at h3 ⊢
    split at h3
    · omega
    · exact h.rv t' ((hT t').1 ht') h3
theorem Eok.prio (h : Eok S) (_ : S.Thr t) (hn : 0 ≤ n ∧ n ≤ 255) : Eok (prioS S t n) := by
  have hk : ∀ i, ((prioS S t n).ob i).kind = (S.ob i).kind := fun i => by simp only [prioS_kind]
  have hT := Thr_same hk
  refine ⟨h.sok.prioS (b40_of hn.1 (by omega)), ?_, ⟨fun s c hs h1 h2 => ?_, fun c s hc h1 h2 => ?_, fun c hc => ?_, fun c hc => ?_⟩, fun t' ht' => ?_, fun t' ht' h3 => ?_⟩
  · refine h.ei.quiet hk (fun i => ?_) (fun i hi => ?_) (fun i hi => .inl ?_) (fun i _ => ?_) (fun i _ hb => ?_) <;> simp only [prioS_queue, prioS_on, prioS_state, prioS_wait, prioS_owing]
  · simp only [prioS_owing, prioS_owes] at h1 ⊢
    obtain ⟨q1, q2⟩ := h.eii.a s c ((hT s).1 hs) h1 h2
    exact ⟨(hT c).2 q1, q2⟩
  · simp only [prioS_owing, prioS_owes] at h1 ⊢
    obtain ⟨q1, q2⟩ := h.eii.b c s ((hT c).1 hc) h1 h2
    exact ⟨(hT s).2 q1, q2⟩
  · simp only [prioS_state, prioS_owing]
    exact h.eii.r c ((hT c).1 hc)
  · simp only [prioS_owing, prioS_owes]
    exact h.eii.lo c ((hT c).1 hc)
  · simp only [prioS_prio]
    split
    · exact hn
    · exact h.pr t' ((hT t').1 ht')
  · simp only [prioS_state, prioS_owes] at h3 ⊢
    exact h.rv t' ((hT t').1 ht') h3
theorem Eok.root {r : Cp} (h : Eok S) (_ : S.Thr t) (hr : r.Small) : Eok (rootS S t r) := by
  have hk : ∀ i, ((rootS S t r).ob i).kind = (S.ob i).kind := fun i => by simp only [rootS_kind]
  have hT := Thr_same hk
  refine ⟨h.sok.rootS hr, ?_, ⟨fun s c hs h1 h2 => ?_, fun c s hc h1 h2 => ?_, fun c hc => ?_, fun c hc => ?_⟩, fun t' ht' => ?_, fun t' ht' h3 => ?_⟩
  · refine h.ei.quiet hk (fun i => ?_) (fun i hi => ?_) (fun i hi => .inl ?_) (fun i _ => ?_) (fun i _ hb => ?_) <;> simp only [rootS_queue, rootS_on, rootS_state, rootS_wait, rootS_owing]
  · simp only [rootS_owing, rootS_owes] at h1 ⊢
    obtain ⟨q1, q2⟩ := h.eii.a s c ((hT s).1 hs) h1 h2
    exact ⟨(hT c).2 q1, q2⟩
  · simp only [rootS_owing, rootS_owes] at h1 ⊢
    obtain ⟨q1, q2⟩ := h.eii.b c s ((hT c).1 hc) h1 h2
    exact ⟨(hT s).2 q1, q2⟩
  · simp only [rootS_state, rootS_owing]
    exact h.eii.r c ((hT c).1 hc)
  · simp only [rootS_owing, rootS_owes]
    exact h.eii.lo c ((hT c).1 hc)
  · simp only [rootS_prio]
    exact h.pr t' ((hT t').1 ht')
  · simp only [rootS_state, rootS_owes] at h3 ⊢
    exact h.rv t' ((hT t').1 ht') h3
/-- Cancel: whatever it does -/
theorem Eok.cancel (h : Eok S) (ht : S.Thr t) : Eok (cancelS S t) := by
  unfold cancelS
  have hr := h.eii.r t ht
  by_cases h4 : (S.ob t).state = 4
  · have h0 := hr.1 h4
    rw [if_pos h4, if_pos h0]
    obtain ⟨q1, q2⟩ := h.eii.b t _ ht rfl h0
    exact h.stopR q1 q2 (by have := ht.1; omega)
  · rw [if_neg h4]
    by_cases h0 : 0 ≤ (S.ob t).on
    · rw [if_pos h0]
      obtain ⟨o, ho⟩ : ∃ o, (S.ob t).on = o := ⟨_, rfl⟩
      rw [ho] at h0 ⊢
      have hm := (h.ei.on t ht o h0).1 ho
      obtain ⟨p, l, hq⟩ := List.append_of_mem hm
      have hz := (h.ei.qf.own o (fun e => by rw [e] at hm; simp at hm)).1
      unfold outS
      by_cases h3 : (S.ob o).kind = 3
      · rw [if_pos h3]; exact h.stopQ3 ⟨hz, h3⟩ hq
      · rw [if_neg h3]
        have hf := h.ei.fit o t hm
        have h4 : (S.ob o).kind = 4 := by unfold fits at hf; omega
        exact h.stopQ4 ⟨hz, h4⟩ hq
    · rw [if_neg h0]
      exact h.stopN ht (fun e => h0 ((h.ei.cls t ht).2 e)) h4
end
end Go.Proofs.Ytdkjfalhalepgaa
