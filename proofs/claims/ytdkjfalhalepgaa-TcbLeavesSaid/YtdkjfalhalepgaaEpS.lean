/- The document's Send, Recv, Answer on its state (layers 15 to 22), and that a sound state stays sound; as mathematics. No dump is read here. -/
import Derived.Test.YtdkjfalhalepgaaEpM
namespace Go.Proofs.Ytdkjfalhalepgaa
open Go.RowKit
/-- the first of a queue -/
def headQ (S : RSt) (o : Int) : Int := (S.ob o).queue.headD 0
def restS (S : RSt) (ep : Int) : RSt := if (S.ob ep).queue = [] then waitS S ep 0 else S
def oweS (S : RSt) (s c : Int) : RSt := owesS (owedS S c s) s c
def blockS (S : RSt) (o t n : Int) : RSt := onS (pushS S o t) t o n
def sendS (S : RSt) (ep t b w : Int) (call : Bool) : RSt :=
  if (S.ob ep).wait = 2 then (if call = true then oweS (restS (wakeS (popS S ep) (headQ S ep) w b) ep) (headQ S ep) t else restS (wakeS (popS S ep) (headQ S ep) w b) ep)
  else waitS (saidS (blockS S ep t (if call = true then 6 else 2)) t w b) ep 1
/-- does it wait now -/
def sendA (S : RSt) (ep : Int) (call : Bool) : Bool := if (S.ob ep).wait = 2 then call else true
def recvS (S : RSt) (ep t : Int) : RSt :=
  if 0 ≤ (S.ob t).owes then S
  else if (S.ob ep).wait = 1 then restS (if (S.ob (headQ S ep)).state = 6 then oweS (popS S ep) t (headQ S ep) else wakeS (popS S ep) (headQ S ep) 0 0) ep
  else waitS (blockS S ep t 3) ep 2
def ansS (S : RSt) (t w : Int) : RSt := if (S.ob t).owes < 0 then S else wakeS (owingS (owesS S t (-1)) (S.ob t).owes (-1)) (S.ob t).owes w 0
theorem restS_kind (S : RSt) (ep i : Int) : ((restS S ep).ob i).kind = (S.ob i).kind := by
  unfold restS
  split
  · rw [waitS_kind]
  · rfl
theorem restS_queue (S : RSt) (ep i : Int) : ((restS S ep).ob i).queue = (S.ob i).queue := by
  unfold restS
  split
  · rw [waitS_queue]
  · rfl
theorem restS_on (S : RSt) (ep i : Int) : ((restS S ep).ob i).on = (S.ob i).on := by
  unfold restS
  split
  · rw [waitS_on]
  · rfl
theorem restS_state (S : RSt) (ep i : Int) : ((restS S ep).ob i).state = (S.ob i).state := by
  unfold restS
  split
  · rw [waitS_state]
  · rfl
theorem restS_wait (S : RSt) (ep i : Int) : ((restS S ep).ob i).wait = if i = ep ∧ (S.ob ep).queue = [] then 0 else (S.ob i).wait := by
  unfold restS
  by_cases h : (S.ob ep).queue = []
  · rw [if_pos h, waitS_wait]
    by_cases e : i = ep
    · rw [if_pos e, if_pos ⟨e, h⟩]
    · rw [if_neg e, if_neg (fun q => e q.1)]
  · rw [if_neg h, if_neg (fun q => h q.2)]
theorem restS_owing (S : RSt) (ep i : Int) : ((restS S ep).ob i).owing = (S.ob i).owing := by
  unfold restS
  split
  · rw [waitS_owing]
  · rfl
theorem restS_owes (S : RSt) (ep i : Int) : ((restS S ep).ob i).owes = (S.ob i).owes := by
  unfold restS
  split
  · rw [waitS_owes]
  · rfl
theorem restS_word (S : RSt) (ep i : Int) : ((restS S ep).ob i).word = (S.ob i).word := by
  unfold restS
  split
  · rw [waitS_word]
  · rfl
theorem restS_badge (S : RSt) (ep i : Int) : ((restS S ep).ob i).badge = (S.ob i).badge := by
  unfold restS
  split
  · rw [waitS_badge]
  · rfl
theorem restS_prio (S : RSt) (ep i : Int) : ((restS S ep).ob i).prio = (S.ob i).prio := by
  unfold restS
  split
  · rw [waitS_prio]
  · rfl
/-- a state is sound: queues, replies that are owed, priorities -/
structure Eok (S : RSt) : Prop where
  sok : Sok S
  ei : EI S
  eii : EII S
  pr : ∀ t, S.Thr t → 0 ≤ (S.ob t).prio ∧ (S.ob t).prio ≤ 255
  rv : ∀ t, S.Thr t → (S.ob t).state = 3 → (S.ob t).owes = -1
section
variable {S S' : RSt} {ep t r b w c s n : Int} {l : List Int} {call : Bool}
theorem headQ_is (h : (S.ob ep).queue = r :: l) : headQ S ep = r := by unfold headQ; rw [h]; rfl
theorem Sok.rest (h : Sok S) : Sok (restS S ep) := by
  unfold restS
  split
  · exact h.waitS ⟨by decide, by decide⟩
  · exact h
theorem blk_no1 {x : Int} (h : x = 1 ∨ x = 4 ∨ x = 0) : ¬ blk x := by unfold blk; omega
/-- one that waits is woken, or owed a reply, or stopped: it leaves its queue -/
theorem Eok.queue_wait (h : Eok S) (he : (0 ≤ ep ∧ ep < 32) ∧ (S.ob ep).kind = 3) (hw : (S.ob ep).wait ≠ 0) : ∃ r l, (S.ob ep).queue = r :: l := by
  cases hq : (S.ob ep).queue with
  | nil => exact absurd (((h.ei.wt ep he.1 he.2).1).1 hq) hw
  | cons r l => exact ⟨r, l, rfl⟩
theorem b40_of {x : Int} (h : 0 ≤ x) (h2 : x ≤ 1099511627776) : b40 x := ⟨h, h2⟩
theorem m40_thr (h : S.Thr t) : m40' t := ⟨by have := h.1.1; omega, by have := h.1.2; omega⟩
theorem Eok.wakeQ (h : Eok S) (he : (0 ≤ ep ∧ ep < 32) ∧ ((S.ob ep).kind = 3 ∨ (S.ob ep).kind = 4 ∧ (S.ob ep).wait = 0)) (hq : (S.ob ep).queue = r :: l) (hw : b40 w) (hb : b40 b) : Eok (restS (wakeS (popS S ep) r w b) ep) := by
  have hr : S.Thr r := h.ei.thr (o := ep) (by rw [hq]; simp)
  have hri := h.ei.qf.mem ep r (by rw [hq]; simp)
  have hrb : blk (S.ob r).state := (h.ei.cls r hr).1 (by have := (h.ei.on r hr ep he.1.1).2 (by rw [hq]; simp); have := he.1.1; omega)
  have hk : ∀ i, ((restS (wakeS (popS S ep) r w b) ep).ob i).kind = (S.ob i).kind := fun i => by simp only [restS_kind, wakeS_kind, popS_kind]
  have hT := Thr_same hk
  have hne : r ≠ ep := fun e => by
    have := hr.2
    rw [e] at this
    rcases he.2 with q | q <;> omega
  refine ⟨Sok.rest ((h.sok.popS).wakeS hw hb), ?_, ⟨fun s c hs h1 h2 => ?_, fun c s hc h1 h2 => ?_, fun c hc => ?_, fun c hc => ?_⟩, fun t ht => ?_, fun t ht h3 => ?_⟩
  · refine h.ei.unblock (o := ep) (p := []) (r := r) (b := l) hk hq ?_ (fun i hi => ?_) ?_ (fun i _ hi => ?_) ?_ (fun i _ hi => ?_) (fun h3 => ?_) (fun i _ hi => ?_) (fun i _ hi _ => ?_)
    · simp only [restS_queue, wakeS_queue, popS_queue]
      rw [if_pos trivial, hq]
      rfl
    · simp only [restS_queue, wakeS_queue, popS_queue]
      rw [if_neg hi]
    · simp only [restS_on, wakeS_on, popS_on]
      rw [if_pos trivial]
    · simp only [restS_on, wakeS_on, popS_on]
      rw [if_neg hi]
    · simp only [restS_state, wakeS_state, popS_state]
      rw [if_pos trivial]
      exact blk_no1 (.inl rfl)
    · simp only [restS_state, wakeS_state, popS_state]
      rw [if_neg hi]
      exact .inl rfl
    · simp only [restS_wait, wakeS_queue, wakeS_wait, popS_queue, popS_wait]
      rw [if_pos trivial, hq]
      simp
    · simp only [restS_wait, wakeS_queue, wakeS_wait, popS_queue, popS_wait]
      rw [if_neg (fun e => hi e.1)]
    · simp only [restS_owing, wakeS_owing, popS_owing]
  · have hs' := (hT s).1 hs
    simp only [restS_owing, restS_owes, wakeS_owing, wakeS_owes, popS_owing, popS_owes] at h1 ⊢
    obtain ⟨q1, q2⟩ := h.eii.a s c hs' h1 h2
    exact ⟨(hT c).2 q1, q2⟩
  · have hc' := (hT c).1 hc
    simp only [restS_owing, restS_owes, wakeS_owing, wakeS_owes, popS_owing, popS_owes] at h1 ⊢
    obtain ⟨q1, q2⟩ := h.eii.b c s hc' h1 h2
    exact ⟨(hT s).2 q1, q2⟩
  · have hc' := (hT c).1 hc
    simp only [restS_state, restS_owing, wakeS_state, wakeS_owing, popS_state, popS_owing]
    by_cases e : c = r
    · rw [if_pos e, e, hri.2.2]
      omega
    · rw [if_neg e]
      exact h.eii.r c hc'
  · simp only [restS_owing, restS_owes, wakeS_owing, wakeS_owes, popS_owing, popS_owes]
    exact h.eii.lo c ((hT c).1 hc)
  · simp only [restS_prio, wakeS_prio, popS_prio]
    exact h.pr t ((hT t).1 ht)
  · simp only [restS_state, restS_owes, wakeS_state, wakeS_owes, popS_state, popS_owes] at h3 ⊢
    by_cases e : t = r
    · rw [if_pos e] at h3; omega
    · rw [if_neg e] at h3
      exact h.rv t ((hT t).1 ht) h3
theorem Eok.link (h : Eok S) (hs : S.Thr s) (hc : S.Thr c) (_ : s ≠ c) (hc1 : (S.ob c).state = 1) (hs1 : (S.ob s).owes = -1) (hs3 : (S.ob s).state ≠ 3) : Eok (oweS S s c) := by
  have hk : ∀ i, ((oweS S s c).ob i).kind = (S.ob i).kind := fun i => by simp only [oweS, owesS_kind, owedS_kind]
  have hT := Thr_same hk
  have hcn := h.ei.none hc (blk_no1 (.inl hc1))
  have hco : (S.ob c).owing = -1 := by
    have q1 := (h.eii.lo c hc).1
    have q2 : ¬ 0 ≤ (S.ob c).owing := fun e => by have := (h.eii.r c hc).2 e; omega
    omega
  refine ⟨(h.sok.owedS (m40_thr hs)).owesS (m40_thr hc), ?_, ⟨fun s' c' hs' h1 h2 => ?_, fun c' s' hc' h1 h2 => ?_, fun c' hc' => ?_, fun c' hc' => ?_⟩, fun t ht => ?_, fun t ht h3 => ?_⟩
  · refine h.ei.quiet hk (fun i => ?_) (fun i hi => ?_) (fun i hi => ?_) (fun i _ => ?_) (fun i _ hb => ?_)
    · simp only [oweS, owesS_queue, owedS_queue]
    · simp only [oweS, owesS_on, owedS_on]
      split
      · next e => rw [e]; exact hcn.1.symm
      · rfl
    · simp only [oweS, owesS_state, owedS_state]
      split
      · next e => rw [e]; exact .inr ⟨blk_no1 (.inl hc1), blk_no1 (.inr (.inl rfl))⟩
      · exact .inl rfl
    · simp only [oweS, owesS_wait, owedS_wait]
    · simp only [oweS, owesS_owing, owedS_owing]
      split
      · next e => rw [e] at hb; exact absurd hb (blk_no1 (.inl hc1))
      · rfl
  · have hs'' := (hT s').1 hs'
    simp only [oweS, owesS_owing, owesS_owes, owedS_owing, owedS_owes] at h1 ⊢
    by_cases e : s' = s
    · rw [if_pos e] at h1
      rw [if_pos h1.symm]
      exact ⟨(hT c').2 (h1 ▸ hc), e.symm⟩
    · rw [if_neg e] at h1
      obtain ⟨q1, q2⟩ := h.eii.a s' c' hs'' h1 h2
      have hne : c' ≠ c := fun e2 => by rw [e2, hco] at q2; have := hs''.1.1; omega
      rw [if_neg hne]
      exact ⟨(hT c').2 q1, q2⟩
  · have hc'' := (hT c').1 hc'
    simp only [oweS, owesS_owing, owesS_owes, owedS_owing, owedS_owes] at h1 ⊢
    by_cases e : c' = c
    · rw [if_pos e] at h1
      rw [if_pos h1.symm]
      exact ⟨(hT s').2 (h1 ▸ hs), e.symm⟩
    · rw [if_neg e] at h1
      obtain ⟨q1, q2⟩ := h.eii.b c' s' hc'' h1 h2
      have hne : s' ≠ s := fun e2 => by rw [e2, hs1] at q2; have := hc''.1.1; omega
      rw [if_neg hne]
      exact ⟨(hT s').2 q1, q2⟩
  · have hc'' := (hT c').1 hc'
    simp only [oweS, owesS_state, owesS_owing, owedS_state, owedS_owing]
    by_cases e : c' = c
    · rw [if_pos e, if_pos e]
      have := hs.1.1
      omega
    · rw [if_neg e, if_neg e]
      exact h.eii.r c' hc''
  · have hc'' := (hT c').1 hc'
    simp only [oweS, owesS_owing, owesS_owes, owedS_owing, owedS_owes]
    have := h.eii.lo c' hc''
    have q1 := hs.1.1
    have q2 := hc.1.1
    split <;> split <;> omega
  · simp only [oweS, owesS_prio, owedS_prio]
    exact h.pr t ((hT t).1 ht)
  · simp only [oweS, owesS_state, owesS_owes, owedS_state, owedS_owes] at h3 ⊢
    by_cases e : t = c
    · rw [if_pos e] at h3; omega
    · rw [if_neg e] at h3
      by_cases e2 : t = s
      · rw [e2] at h3; exact absurd h3 hs3
      · rw [if_neg e2]
        exact h.rv t ((hT t).1 ht) h3
/-- one is blocked, and (of an Endpoint) who waits is told -/
theorem Eok.blockQ (h : Eok S) (ho : S.zs ep) (ht : S.Thr t) (h1 : (S.ob t).state = 1) (hn : b40 n) (hw : b40 w) (hb : b40 b) (hm : b40 c) (hx : fits (S.ob ep).kind c n) (hwt : (S.ob ep).kind = 3 → (S.ob ep).wait = 0 ∨ c = (S.ob ep).wait) (hn3 : n = 3 → (S.ob t).owes = -1) :
    Eok (waitS (saidS (blockS S ep t n) t w b) ep c) := by
  have hk : ∀ i, ((waitS (saidS (blockS S ep t n) t w b) ep c).ob i).kind = (S.ob i).kind := fun i => by simp only [blockS, waitS_kind, saidS_kind, onS_kind, pushS_kind]
  have hT := Thr_same hk
  have hbn : blk n := by unfold fits at hx; unfold blk; omega
  have hto : (S.ob t).owing = -1 := by
    have q1 := (h.eii.lo t ht).1
    have q2 : ¬ 0 ≤ (S.ob t).owing := fun e => by have := (h.eii.r t ht).2 e; omega
    omega
  have hlen : (S.ob ep).queue.length < 500 := by have := (Wok.of h.sok h.ei.qf).few ep; have e : S.qs ep = (S.ob ep).queue := rfl; rw [e] at this; omega
  have hm40 : m40' ep := ⟨by have := ho.1.1; omega, by have := ho.1.2; omega⟩
  have hne : ep ≠ t := fun e => isQ_no5 ho.2 (e ▸ ht.2)
  refine ⟨((((h.sok.pushS ht.1 hlen).onS hn hm40).saidS hw hb).waitS hm), ?_, ⟨fun s' c' hs' h1' h2 => ?_, fun c' s' hc' h1' h2 => ?_, fun c' hc' => ?_, fun c' hc' => ?_⟩, fun t' ht' => ?_, fun t' ht' h3 => ?_⟩
  · refine h.ei.block (o := ep) (t := t) hk ho ht (blk_no1 (.inl h1)) ?_ ?_ (fun i hi => ?_) ?_ (fun i _ hi => ?_) ?_ (fun i _ hi => ?_) (fun h3 => ?_) (fun i _ hi => ?_) (fun i _ hi => ?_)
    · simp only [blockS, waitS_owing, saidS_owing, onS_owing, pushS_owing]
      exact hto
    · simp only [blockS, waitS_queue, saidS_queue, onS_queue, pushS_queue]
      rw [if_pos trivial]
    · simp only [blockS, waitS_queue, saidS_queue, onS_queue, pushS_queue]
      rw [if_neg hi]
    · simp only [blockS, waitS_on, saidS_on, onS_on, pushS_on]
      rw [if_pos trivial]
    · simp only [blockS, waitS_on, saidS_on, onS_on, pushS_on]
      rw [if_neg hi]
    · simp only [blockS, waitS_state, waitS_wait, saidS_state, saidS_wait, onS_state, onS_wait, pushS_state, pushS_wait]
      rw [if_pos trivial, if_pos trivial]
      exact hx
    · simp only [blockS, waitS_state, saidS_state, onS_state, pushS_state]
      rw [if_neg hi]
    · simp only [blockS, waitS_wait, saidS_wait, onS_wait, pushS_wait]
      rw [if_pos trivial]
      exact hwt h3
    · simp only [blockS, waitS_wait, saidS_wait, onS_wait, pushS_wait]
      rw [if_neg hi]
    · simp only [blockS, waitS_owing, saidS_owing, onS_owing, pushS_owing]
  · have hs'' := (hT s').1 hs'
    simp only [blockS, waitS_owing, waitS_owes, saidS_owing, saidS_owes, onS_owing, onS_owes, pushS_owing, pushS_owes] at h1' ⊢
    obtain ⟨q1, q2⟩ := h.eii.a s' c' hs'' h1' h2
    exact ⟨(hT c').2 q1, q2⟩
  · have hc'' := (hT c').1 hc'
    simp only [blockS, waitS_owing, waitS_owes, saidS_owing, saidS_owes, onS_owing, onS_owes, pushS_owing, pushS_owes] at h1' ⊢
    obtain ⟨q1, q2⟩ := h.eii.b c' s' hc'' h1' h2
    exact ⟨(hT s').2 q1, q2⟩
  · have hc'' := (hT c').1 hc'
    simp only [blockS, waitS_state, waitS_owing, saidS_state, saidS_owing, onS_state, onS_owing, pushS_state, pushS_owing]
    by_cases e : c' = t
    · rw [if_pos e, e, hto]
      unfold blk at hbn
      omega
    · rw [if_neg e]
      exact h.eii.r c' hc''
  · simp only [blockS, waitS_owing, waitS_owes, saidS_owing, saidS_owes, onS_owing, onS_owes, pushS_owing, pushS_owes]
    exact h.eii.lo c' ((hT c').1 hc')
  · simp only [blockS, waitS_prio, saidS_prio, onS_prio, pushS_prio]
    exact h.pr t' ((hT t').1 ht')
  · simp only [blockS, waitS_state, waitS_owes, saidS_state, saidS_owes, onS_state, onS_owes, pushS_state, pushS_owes] at h3 ⊢
    by_cases e : t' = t
    · rw [if_pos e] at h3
      rw [e]
      exact hn3 h3
    · rw [if_neg e] at h3
      exact h.rv t' ((hT t').1 ht') h3
/-- a reply is given -/
theorem Eok.answer (h : Eok S) (ht : S.Thr t) (hw : b40 w) : Eok (ansS S t w) := by
  unfold ansS
  by_cases h0 : (S.ob t).owes < 0
  · rw [if_pos h0]; exact h
  rw [if_neg h0]
  obtain ⟨c, hc⟩ : ∃ c, (S.ob t).owes = c := ⟨_, rfl⟩
  rw [hc] at h0 ⊢
  obtain ⟨hct, hco⟩ := h.eii.a t c ht hc (by omega)
  have hc4 : (S.ob c).state = 4 := (h.eii.r c hct).2 (by rw [hco]; exact ht.1.1)
  have hcn := h.ei.none hct (blk_no1 (.inr (.inl hc4)))
  have hk : ∀ i, ((wakeS (owingS (owesS S t (-1)) c (-1)) c w 0).ob i).kind = (S.ob i).kind := fun i => by simp only [wakeS_kind, owingS_kind, owesS_kind]
  have hT := Thr_same hk
  refine ⟨((h.sok.owesS (⟨by decide, by decide⟩ : m40' (-1))).owingS (⟨by decide, by decide⟩ : m40' (-1))).wakeS hw (⟨by decide, by decide⟩ : b40 0), ?_, ⟨fun s' c' hs' h1' h2 => ?_, fun c' s' hc' h1' h2 => ?_, fun c' hc' => ?_, fun c' hc' => ?_⟩, fun t' ht' => ?_, fun t' ht' h3 => ?_⟩
  · refine h.ei.quiet hk (fun i => ?_) (fun i hi => ?_) (fun i hi => ?_) (fun i _ => ?_) (fun i _ hb => ?_)
    · simp only [wakeS_queue, owingS_queue, owesS_queue]
    · simp only [wakeS_on, owingS_on, owesS_on]
      split
      · next e => rw [e]; exact hcn.1.symm
      · rfl
    · simp only [wakeS_state, owingS_state, owesS_state]
      split
      · next e => rw [e]; exact .inr ⟨blk_no1 (.inr (.inl hc4)), blk_no1 (.inl rfl)⟩
      · exact .inl rfl
    · simp only [wakeS_wait, owingS_wait, owesS_wait]
    · simp only [wakeS_owing, owingS_owing, owesS_owing]
      split
      · next e => rw [e] at hb; exact absurd hb (blk_no1 (.inr (.inl hc4)))
      · rfl
  · have hs'' := (hT s').1 hs'
    simp only [wakeS_owing, wakeS_owes, owingS_owing, owingS_owes, owesS_owing, owesS_owes] at h1' ⊢
    by_cases e : s' = t
    · rw [if_pos e] at h1'; omega
    · rw [if_neg e] at h1'
      obtain ⟨q1, q2⟩ := h.eii.a s' c' hs'' h1' h2
      have hne : c' ≠ c := fun e2 => by rw [e2, hco] at q2; exact e q2.symm
      rw [if_neg hne]
      exact ⟨(hT c').2 q1, q2⟩
  · have hc'' := (hT c').1 hc'
    simp only [wakeS_owing, wakeS_owes, owingS_owing, owingS_owes, owesS_owing, owesS_owes] at h1' ⊢
    by_cases e : c' = c
    · rw [if_pos e] at h1'; omega
    · rw [if_neg e] at h1'
      obtain ⟨q1, q2⟩ := h.eii.b c' s' hc'' h1' h2
      have hne : s' ≠ t := fun e2 => by rw [e2, hc] at q2; exact e q2.symm
      rw [if_neg hne]
      exact ⟨(hT s').2 q1, q2⟩
  · have hc'' := (hT c').1 hc'
    simp only [wakeS_state, wakeS_owing, owingS_state, owingS_owing, owesS_state, owesS_owing]
    by_cases e : c' = c
    · rw [if_pos e, if_pos e]
      omega
    · rw [if_neg e, if_neg e]
      exact h.eii.r c' hc''
  · have hc'' := (hT c').1 hc'
    simp only [wakeS_owing, wakeS_owes, owingS_owing, owingS_owes, owesS_owing, owesS_owes]
    have := h.eii.lo c' hc''
    split <;> split <;> omega
  · simp only [wakeS_prio, owingS_prio, owesS_prio]
    exact h.pr t' ((hT t').1 ht')
  · simp only [wakeS_state, wakeS_owes, owingS_state, owingS_owes, owesS_state, owesS_owes] at h3 ⊢
    by_cases e : t' = c
    · rw [if_pos e] at h3; omega
    · rw [if_neg e] at h3
      split
      · rfl
      · exact h.rv t' ((hT t').1 ht') h3
theorem RSt.ext' {S S' : RSt} (h1 : S.cap = S'.cap) (h2 : S.par = S'.par) (h3 : S.kids = S'.kids) (h4 : ∀ i, S.ob i = S'.ob i) (h5 : S.ns = S'.ns) (h6 : S.no = S'.no) : S = S' := by
  cases S; cases S'
  simp only at h1 h2 h3 h4 h5 h6
  rw [h1, h2, h3, h5, h6, funext h4]
/-- what an Endpoint does that calls know of -/
structure EpAt (S : RSt) (ep : Int) : Prop where
  rng : 0 ≤ ep ∧ ep < 32
  kind : (S.ob ep).kind = 3
theorem EpAt.zs (h : EpAt S ep) : S.zs ep := ⟨h.rng, .inl h.kind⟩
theorem Eok.send (h : Eok S) (he : EpAt S ep) (ht : S.Thr t) (h1 : (S.ob t).state = 1) (hw : b40 w) (hb : b40 b) : Eok (sendS S ep t b w call) := by
  unfold sendS
  by_cases h2 : (S.ob ep).wait = 2
  · rw [if_pos h2]
    obtain ⟨r, l, hq⟩ := h.queue_wait ⟨he.rng, he.kind⟩ (by omega)
    rw [headQ_is hq]
    have q := h.wakeQ ⟨he.rng, .inl he.kind⟩ hq hw hb
    cases call with
    | false => rw [if_neg (by simp)]; exact q
    | true =>
      rw [if_pos rfl]
      have hrm : r ∈ (S.ob ep).queue := by rw [hq]; simp
      have hr := h.ei.thr hrm
      have hf := h.ei.fit ep r hrm
      have hr3 : (S.ob r).state = 3 := by unfold fits at hf; have := he.kind; omega
      have hrt : r ≠ t := fun e => by rw [e] at hr3; omega
      have hk : ∀ i, ((restS (wakeS (popS S ep) r w b) ep).ob i).kind = (S.ob i).kind := fun i => by simp only [restS_kind, wakeS_kind, popS_kind]
      refine q.link ((Thr_same hk r).2 hr) ((Thr_same hk t).2 ht) hrt ?_ ?_ ?_
      · simp only [restS_state, wakeS_state, popS_state]
        rw [if_neg (fun e => hrt e.symm)]
        exact h1
      · simp only [restS_owes, wakeS_owes, popS_owes]
        exact h.rv r hr hr3
      · simp only [restS_state, wakeS_state, popS_state]
        rw [if_pos trivial]
        decide
  · rw [if_neg h2]
    have hwt := (h.ei.wt ep he.rng he.kind).2
    refine h.blockQ he.zs ht h1 ?_ hw hb ⟨by decide, by decide⟩ (.inl ⟨he.kind, .inl ⟨rfl, ?_⟩⟩) (fun _ => by omega) (fun e => ?_)
    · split <;> exact ⟨by decide, by decide⟩
    · split
      · exact .inr rfl
      · exact .inl rfl
    · split at e <;> omega
/-- one that calls is received: as if it was woken, with what it has, and owed a reply then -/
theorem recv_link (hx : ∀ x, headQ S ep = x → x ≠ ep ∧ t ≠ ep ∧ x ≠ t) : restS (oweS (popS S ep) t (headQ S ep)) ep = oweS (restS (wakeS (popS S ep) (headQ S ep) (S.ob (headQ S ep)).word (S.ob (headQ S ep)).badge) ep) t (headQ S ep) := by
  obtain ⟨x, hxx⟩ : ∃ x, headQ S ep = x := ⟨_, rfl⟩
  obtain ⟨h1, h2, h3⟩ := hx x hxx
  rw [hxx]
  have e1 : ((oweS (popS S ep) t x).ob ep).queue = ((wakeS (popS S ep) x (S.ob x).word (S.ob x).badge).ob ep).queue := by simp only [oweS, owesS_queue, owedS_queue, wakeS_queue]
  unfold restS
  rw [e1]
  refine RSt.ext' ?_ ?_ ?_ (fun i => ?_) ?_ ?_
  · split <;> rfl
  · split <;> rfl
  · split <;> rfl
  · split
    all_goals
      simp only [oweS, owesS, owedS, waitS, wakeS, popS, upO_at]
      by_cases c1 : i = ep
      · subst c1
        simp [Ne.symm h1, Ne.symm h2]
      · by_cases c2 : i = x
        · subst c2
          simp [c1, h3]
        · by_cases c3 : i = t
          · subst c3
            simp [c1, c2]
          · simp [c1, c2, c3]
  · split <;> rfl
  · split <;> rfl
theorem Eok.recv (h : Eok S) (he : EpAt S ep) (ht : S.Thr t) (h1 : (S.ob t).state = 1) : Eok (recvS S ep t) := by
  unfold recvS
  by_cases h0 : 0 ≤ (S.ob t).owes
  · rw [if_pos h0]; exact h
  rw [if_neg h0]
  have how : (S.ob t).owes = -1 := by have := (h.eii.lo t ht).2; omega
  by_cases h2 : (S.ob ep).wait = 1
  · rw [if_pos h2]
    obtain ⟨x, l, hq⟩ := h.queue_wait ⟨he.rng, he.kind⟩ (by omega)
    have hxm : x ∈ (S.ob ep).queue := by rw [hq]; simp
    have hx := h.ei.thr hxm
    have hf := h.ei.fit ep x hxm
    have hxs : (S.ob x).state = 2 ∨ (S.ob x).state = 6 := by unfold fits at hf; have := he.kind; omega
    have hxt : x ≠ t := fun e => by rw [e] at hxs; omega
    have hxe : x ≠ ep := fun e => by have := hx.2; rw [e, he.kind] at this; omega
    have hte : t ≠ ep := fun e => by have := ht.2; rw [e, he.kind] at this; omega
    have hfx := h.sok.obs x.toNat (by have := hx.1; omega)
    rw [show ((x.toNat : Nat) : Int) = x by have := hx.1; omega] at hfx
    by_cases h6 : (S.ob x).state = 6
    · rw [headQ_is hq, if_pos h6]
      have e := recv_link (S := S) (ep := ep) (t := t) (fun y hy => by rw [headQ_is hq] at hy; subst hy; exact ⟨hxe, hte, hxt⟩)
      rw [headQ_is hq] at e
      rw [e]
      have q := h.wakeQ ⟨he.rng, .inl he.kind⟩ hq hfx.word hfx.badge
      have hk : ∀ i, ((restS (wakeS (popS S ep) x (S.ob x).word (S.ob x).badge) ep).ob i).kind = (S.ob i).kind := fun i => by simp only [restS_kind, wakeS_kind, popS_kind]
      refine q.link ((Thr_same hk t).2 ht) ((Thr_same hk x).2 hx) (fun e => hxt e.symm) ?_ ?_ ?_
      · simp only [restS_state, wakeS_state, popS_state]
        rw [if_pos trivial]
      · simp only [restS_owes, wakeS_owes, popS_owes]
        exact how
      · simp only [restS_state, wakeS_state, popS_state]
        rw [if_neg (fun e => hxt e.symm), h1]
        decide
    · rw [headQ_is hq, if_neg h6]
      exact h.wakeQ ⟨he.rng, .inl he.kind⟩ hq ⟨by decide, by decide⟩ ⟨by decide, by decide⟩
  · rw [if_neg h2]
    have hwt := (h.ei.wt ep he.rng he.kind).2
    have hft := h.sok.obs t.toNat (by have := ht.1; omega)
    rw [show ((t.toNat : Nat) : Int) = t by have := ht.1; omega] at hft
    have q := h.blockQ (n := 3) (c := 2) he.zs ht h1 ⟨by decide, by decide⟩ hft.word hft.badge ⟨by decide, by decide⟩ (.inl ⟨he.kind, .inr ⟨rfl, rfl⟩⟩) (fun _ => by omega) (fun _ => how)
    have e : saidS (blockS S ep t 3) t (S.ob t).word (S.ob t).badge = blockS S ep t 3 := by
      refine RSt.ext' rfl rfl rfl (fun i => ?_) rfl rfl
      have hte : t ≠ ep := fun e => by have := ht.2; rw [e, he.kind] at this; omega
      simp only [saidS, blockS, onS, pushS, upO_at]
      by_cases c1 : i = t
      · subst c1
        simp [hte]
      · simp [c1]
    rw [e] at q
    exact q
end
end Go.Proofs.Ytdkjfalhalepgaa
