/- The document's Send, Recv, Answer on its state (layers 15 to 22), and that a sound state stays sound; as mathematics. No dump is read here. -/
import Derived.Test.YtloeofhchfaieaaEpM
namespace Go.Proofs.Ytloeofhchfaieaa
open Go.RowKit
def restS (S : RSt) (ep : Int) : RSt := if (S.ob ep).queue = [] then waitS S ep 0 else S
def oweS (S : RSt) (s c : Int) : RSt := owesS (owedS S c s) s c
def blockS (S : RSt) (o t n : Int) : RSt := onS (pushS S o t) t o n
def ansS (S : RSt) (t w : Int) : RSt := if (S.ob t).owes < 0 then S else wakeS (owingS (owesS S t (-1)) (S.ob t).owes (-1)) (S.ob t).owes w 0
/-- a state is sound: queues, replies that are owed, priorities -/
structure Eok (S : RSt) : Prop where
  sok : Sok S
  ei : EI S
  eii : EII S
  pr : ∀ t, S.Thr t → 0 ≤ (S.ob t).prio ∧ (S.ob t).prio ≤ 255
  rv : ∀ t, S.Thr t → (S.ob t).state = 3 → (S.ob t).owes = -1
section
variable {S S' : RSt} {ep t r b w c s n : Int} {l : List Int} {call : Bool}
theorem Sok.rest (h : Sok S) : Sok (restS S ep) := by
  unfold restS
  split
  · exact h.waitS ⟨by decide, by decide⟩
  · exact h
theorem blk_no1 {x : Int} (h : x = 1 ∨ x = 4 ∨ x = 0) : ¬ blk x := by unfold blk; omega
theorem m40_thr (h : S.Thr t) : m40' t := ⟨by have := h.1.1; omega, by have := h.1.2; omega⟩
theorem Eok.link (h : Eok S) (hs : S.Thr s) (hc : S.Thr c) (_ : s ≠ c) (hc1 : (S.ob c).state = 1) (hs1 : (S.ob s).owes = -1) (hs3 : (S.ob s).state ≠ 3) : Eok (oweS S s c) := by
  have hk : ∀ i, ((oweS S s c).ob i).kind = (S.ob i).kind := fun i => by simp only [oweS, owesS_kind, owedS_kind]
  have hT := Thr_same hk
  have hcn := h.ei.none hc (blk_no1 (.inl hc1))
  have hco : (S.ob c).owing = -1 := by
    have q1 := (h.eii.lo c hc).1
    have q2 : ¬ 0 ≤ (S.ob c).owing := fun e => by have := (h.eii.r c hc).2 e; omega
    omega
  refine ⟨(h.sok.owedS (m40_thr hs)).owesS (m40_thr hc), ?_, ⟨fun s' c' hs' h1 h2 => ?_, fun c' s' hc' h1 h2 => ?_, fun c' hc' => ?_, fun c' hc' => ?_⟩, fun t ht => ?_, fun t ht h3 => ?_⟩
  · refine h.ei.quiet hk (fun i => ?_) (fun i hi => ?_) (fun i hi => ?_) (fun i _ => ?_) (fun i _ hb => ?_)
    · simp only [oweS, owesS_queue, owedS_queue]
    · simp only [oweS, owesS_on, owedS_on]
      split
      · next e => rw [e]; exact hcn.1.symm
      · rfl
    · simp only [oweS, owesS_state, owedS_state]
      split
      · next e => rw [e]; exact .inr ⟨blk_no1 (.inl hc1), blk_no1 (.inr (.inl rfl))⟩
      · exact .inl rfl
    · simp only [oweS, owesS_wait, owedS_wait]
    · simp only [oweS, owesS_owing, owedS_owing]
      split
      · next e => rw [e] at hb; exact absurd hb (blk_no1 (.inl hc1))
      · rfl
  · have hs'' := (hT s').1 hs'
    simp only [oweS, owesS_owing, owesS_owes, owedS_owing, owedS_owes] at h1 ⊢
    by_cases e : s' = s
    · rw [if_pos e] at h1
      rw [if_pos h1.symm]
      exact ⟨(hT c').2 (h1 ▸ hc), e.symm⟩
    · rw [if_neg e] at h1
      obtain ⟨q1, q2⟩ := h.eii.a s' c' hs'' h1 h2
      have hne : c' ≠ c := fun e2 => by rw [e2, hco] at q2; have := hs''.1.1; omega
      rw [if_neg hne]
      exact ⟨(hT c').2 q1, q2⟩
  · have hc'' := (hT c').1 hc'
    simp only [oweS, owesS_owing, owesS_owes, owedS_owing, owedS_owes] at h1 ⊢
    by_cases e : c' = c
    · rw [if_pos e] at h1
      rw [if_pos h1.symm]
      exact ⟨(hT s').2 (h1 ▸ hs), e.symm⟩
    · rw [if_neg e] at h1
      obtain ⟨q1, q2⟩ := h.eii.b c' s' hc'' h1 h2
      have hne : s' ≠ s := fun e2 => by rw [e2, hs1] at q2; have := hc''.1.1; omega
      rw [if_neg hne]
      exact ⟨(hT s').2 q1, q2⟩
  · have hc'' := (hT c').1 hc'
    simp only [oweS, owesS_state, owesS_owing, owedS_state, owedS_owing]
    by_cases e : c' = c
    · rw [if_pos e, if_pos e]
      have := hs.1.1
      omega
    · rw [if_neg e, if_neg e]
      exact h.eii.r c' hc''
  · have hc'' := (hT c').1 hc'
    simp only [oweS, owesS_owing, owesS_owes, owedS_owing, owedS_owes]
    have := h.eii.lo c' hc''
    have q1 := hs.1.1
    have q2 := hc.1.1
    split <;> split <;> omega
  · simp only [oweS, owesS_prio, owedS_prio]
    exact h.pr t ((hT t).1 ht)
  · simp only [oweS, owesS_state, owesS_owes, owedS_state, owedS_owes] at h3 ⊢
    by_cases e : t = c
    · rw [if_pos e] at h3; omega
    · rw [if_neg e] at h3
      by_cases e2 : t = s
      · rw [e2] at h3; exact absurd h3 hs3
      · rw [if_neg e2]
        exact h.rv t ((hT t).1 ht) h3
/-- one is blocked, and (of an Endpoint) who waits is told -/
theorem Eok.blockQ (h : Eok S) (ho : S.zs ep) (ht : S.Thr t) (h1 : (S.ob t).state = 1) (hn : b40 n) (hw : b40 w) (hb : b40 b) (hm : b40 c) (hx : fits (S.ob ep).kind c n) (hwt : (S.ob ep).kind = 3 → (S.ob ep).wait = 0 ∨ c = (S.ob ep).wait) (hn3 : n = 3 → (S.ob t).owes = -1) :
    Eok (waitS (saidS (blockS S ep t n) t w b) ep c) := by
  have hk : ∀ i, ((waitS (saidS (blockS S ep t n) t w b) ep c).ob i).kind = (S.ob i).kind := fun i => by simp only [blockS, waitS_kind, saidS_kind, onS_kind, pushS_kind]
  have hT := Thr_same hk
  have hbn : blk n := by unfold fits at hx; unfold blk; omega
  have hto : (S.ob t).owing = -1 := by
    have q1 := (h.eii.lo t ht).1
    have q2 : ¬ 0 ≤ (S.ob t).owing := fun e => by have := (h.eii.r t ht).2 e; omega
    omega
  have hlen : (S.ob ep).queue.length < 500 := by have := (Wok.of h.sok h.ei.qf).few ep; have e : S.qs ep = (S.ob ep).queue := rfl; rw [e] at this; omega
  have hm40 : m40' ep := ⟨by have := ho.1.1; omega, by have := ho.1.2; omega⟩
  have hne : ep ≠ t := fun e => isQ_no5 ho.2 (e ▸ ht.2)
  refine ⟨((((h.sok.pushS ht.1 hlen).onS hn hm40).saidS hw hb).waitS hm), ?_, ⟨fun s' c' hs' h1' h2 => ?_, fun c' s' hc' h1' h2 => ?_, fun c' hc' => ?_, fun c' hc' => ?_⟩, fun t' ht' => ?_, fun t' ht' h3 => ?_⟩
  · refine h.ei.block (o := ep) (t := t) hk ho ht (blk_no1 (.inl h1)) ?_ ?_ (fun i hi => ?_) ?_ (fun i _ hi => ?_) ?_ (fun i _ hi => ?_) (fun h3 => ?_) (fun i _ hi => ?_) (fun i _ hi => ?_)
    · simp only [blockS, waitS_owing, saidS_owing, onS_owing, pushS_owing]
      exact hto
    · simp only [blockS, waitS_queue, saidS_queue, onS_queue, pushS_queue]
      rw [if_pos trivial]
    · simp only [blockS, waitS_queue, saidS_queue, onS_queue, pushS_queue]
      rw [if_neg hi]
    · simp only [blockS, waitS_on, saidS_on, onS_on, pushS_on]
      rw [if_pos trivial]
    · simp only [blockS, waitS_on, saidS_on, onS_on, pushS_on]
      rw [if_neg hi]
    · simp only [blockS, waitS_state, waitS_wait, saidS_state, saidS_wait, onS_state, onS_wait, pushS_state, pushS_wait]
      rw [if_pos trivial, if_pos trivial]
      exact hx
    · simp only [blockS, waitS_state, saidS_state, onS_state, pushS_state]
      rw [if_neg hi]
    · simp only [blockS, waitS_wait, saidS_wait, onS_wait, pushS_wait]
      rw [if_pos trivial]
      exact hwt h3
    · simp only [blockS, waitS_wait, saidS_wait, onS_wait, pushS_wait]
      rw [if_neg hi]
    · simp only [blockS, waitS_owing, saidS_owing, onS_owing, pushS_owing]
  · have hs'' := (hT s').1 hs'
    simp only [blockS, waitS_owing, waitS_owes, saidS_owing, saidS_owes, onS_owing, onS_owes, pushS_owing, pushS_owes] at h1' ⊢
    obtain ⟨q1, q2⟩ := h.eii.a s' c' hs'' h1' h2
    exact ⟨(hT c').2 q1, q2⟩
  · have hc'' := (hT c').1 hc'
    simp only [blockS, waitS_owing, waitS_owes, saidS_owing, saidS_owes, onS_owing, onS_owes, pushS_owing, pushS_owes] at h1' ⊢
    obtain ⟨q1, q2⟩ := h.eii.b c' s' hc'' h1' h2
    exact ⟨(hT s').2 q1, q2⟩
  · have hc'' := (hT c').1 hc'
    simp only [blockS, waitS_state, waitS_owing, saidS_state, saidS_owing, onS_state, onS_owing, pushS_state, pushS_owing]
    by_cases e : c' = t
    · rw [if_pos e, e, hto]
      unfold blk at hbn
      omega
    · rw [if_neg e]
      exact h.eii.r c' hc''
  · simp only [blockS, waitS_owing, waitS_owes, saidS_owing, saidS_owes, onS_owing, onS_owes, pushS_owing, pushS_owes]
    exact h.eii.lo c' ((hT c').1 hc')
  · simp only [blockS, waitS_prio, saidS_prio, onS_prio, pushS_prio]
    exact h.pr t' ((hT t').1 ht')
  · simp only [blockS, waitS_state, waitS_owes, saidS_state, saidS_owes, onS_state, onS_owes, pushS_state, pushS_owes] at h3 ⊢
    by_cases e : t' = t
    · rw [if_pos e] at h3
      rw [e]
      exact hn3 h3
    · rw [if_neg e] at h3
      exact h.rv t' ((hT t').1 ht') h3
/-- a reply is given -/
theorem Eok.answer (h : Eok S) (ht : S.Thr t) (hw : b40 w) : Eok (ansS S t w) := by
  unfold ansS
  by_cases h0 : (S.ob t).owes < 0
  · rw [if_pos h0]; exact h
  rw [if_neg h0]
  obtain ⟨c, hc⟩ : ∃ c, (S.ob t).owes = c := ⟨_, rfl⟩
  rw [hc] at h0 ⊢
  obtain ⟨hct, hco⟩ := h.eii.a t c ht hc (by omega)
  have hc4 : (S.ob c).state = 4 := (h.eii.r c hct).2 (by rw [hco]; exact ht.1.1)
  have hcn := h.ei.none hct (blk_no1 (.inr (.inl hc4)))
  have hk : ∀ i, ((wakeS (owingS (owesS S t (-1)) c (-1)) c w 0).ob i).kind = (S.ob i).kind := fun i => by simp only [wakeS_kind, owingS_kind, owesS_kind]
  have hT := Thr_same hk
  refine ⟨((h.sok.owesS (⟨by decide, by decide⟩ : m40' (-1))).owingS (⟨by decide, by decide⟩ : m40' (-1))).wakeS hw (⟨by decide, by decide⟩ : b40 0), ?_, ⟨fun s' c' hs' h1' h2 => ?_, fun c' s' hc' h1' h2 => ?_, fun c' hc' => ?_, fun c' hc' => ?_⟩, fun t' ht' => ?_, fun t' ht' h3 => ?_⟩
  · refine h.ei.quiet hk (fun i => ?_) (fun i hi => ?_) (fun i hi => ?_) (fun i _ => ?_) (fun i _ hb => ?_)
    · simp only [wakeS_queue, owingS_queue, owesS_queue]
    · simp only [wakeS_on, owingS_on, owesS_on]
      split
      · next e => rw [e]; exact hcn.1.symm
      · rfl
    · simp only [wakeS_state, owingS_state, owesS_state]
      split
      · next e => rw [e]; exact .inr ⟨blk_no1 (.inr (.inl hc4)), blk_no1 (.inl rfl)⟩
      · exact .inl rfl
    · simp only [wakeS_wait, owingS_wait, owesS_wait]
    · simp only [wakeS_owing, owingS_owing, owesS_owing]
      split
      · next e => rw [e] at hb; exact absurd hb (blk_no1 (.inr (.inl hc4)))
      · rfl
  · have hs'' := (hT s').1 hs'
    simp only [wakeS_owing, wakeS_owes, owingS_owing, owingS_owes, owesS_owing, owesS_owes] at h1' ⊢
    by_cases e : s' = t
    · rw [if_pos e] at h1'; omega
    · rw [if_neg e] at h1'
      obtain ⟨q1, q2⟩ := h.eii.a s' c' hs'' h1' h2
      have hne : c' ≠ c := fun e2 => by rw [e2, hco] at q2; exact e q2.symm
      rw [if_neg hne]
      exact ⟨(hT c').2 q1, q2⟩
  · have hc'' := (hT c').1 hc'
    simp only [wakeS_owing, wakeS_owes, owingS_owing, owingS_owes, owesS_owing, owesS_owes] at h1' ⊢
    by_cases e : c' = c
    · rw [if_pos e] at h1'; omega
    · rw [if_neg e] at h1'
      obtain ⟨q1, q2⟩ := h.eii.b c' s' hc'' h1' h2
      have hne : s' ≠ t := fun e2 => by rw [e2, hc] at q2; exact e q2.symm
      rw [if_neg hne]
      exact ⟨(hT s').2 q1, q2⟩
  · have hc'' := (hT c').1 hc'
    simp only [wakeS_state, wakeS_owing, owingS_state, owingS_owing, owesS_state, owesS_owing]
    by_cases e : c' = c
    · rw [if_pos e, if_pos e]
      omega
    · rw [if_neg e, if_neg e]
      exact h.eii.r c' hc''
  · have hc'' := (hT c').1 hc'
    simp only [wakeS_owing, wakeS_owes, owingS_owing, owingS_owes, owesS_owing, owesS_owes]
    have := h.eii.lo c' hc''
    split <;> split <;> omega
  · simp only [wakeS_prio, owingS_prio, owesS_prio]
    exact h.pr t' ((hT t').1 ht')
  · simp only [wakeS_state, wakeS_owes, owingS_state, owingS_owes, owesS_state, owesS_owes] at h3 ⊢
    by_cases e : t' = c
    · rw [if_pos e] at h3; omega
    · rw [if_neg e] at h3
      split
      · rfl
      · exact h.rv t' ((hT t').1 ht') h3
theorem RSt.ext' {S S' : RSt} (h1 : S.cap = S'.cap) (h2 : S.par = S'.par) (h3 : S.kids = S'.kids) (h4 : ∀ i, S.ob i = S'.ob i) (h5 : S.ns = S'.ns) (h6 : S.no = S'.no) : S = S' := by
  cases S; cases S'
  simp only at h1 h2 h3 h4 h5 h6
  rw [h1, h2, h3, h5, h6, funext h4]
end
end Go.Proofs.Ytloeofhchfaieaa
