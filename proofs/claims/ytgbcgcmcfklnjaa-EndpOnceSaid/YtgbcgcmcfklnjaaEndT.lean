/- What Send, Recv, Answer of package endp come to on words that tell a sound state (layers 15 to 21), as mathematics. No dump is read here. -/
import Derived.Test.YtgbcgcmcfklnjaaEndW
namespace Go.Proofs.Ytgbcgcmcfklnjaa
open Go.RowKit
section
variable {L L' : List Int} {S : RSt} {t o n b r c ep x : Int} {l : List Int} {f : RObj → RObj}
theorem Eok.wok (h : Eok S) : Wok (wordsG S) S := Wok.of h.sok h.ei.qf
theorem restS_prio' (S : RSt) (ep i : Int) : ((restS S ep).ob i).prio = (S.ob i).prio := by
  unfold restS
  split
  · rw [waitS_prio]
  · rfl
/-- who is popped of an Endpoint -/
structure Pd (S : RSt) (ep r : Int) (l : List Int) : Prop where
  q : (S.ob ep).queue = r :: l
  thr : S.Thr r
  ne : r ≠ ep
  bl : blk (S.ob r).state
  ow : (S.ob r).owing = -1
  pr : 0 ≤ (S.ob r).prio ∧ (S.ob r).prio ≤ 255
  out : ∀ p : Int, r ∉ ((restS (popS S ep) ep).ob p).queue
  fit : fits 3 (S.ob ep).wait (S.ob r).state
theorem Eok.pd (h : Eok S) (he : EpAt S ep) (hq : (S.ob ep).queue = r :: l) : Pd S ep r l := by
  have hrm : r ∈ (S.ob ep).queue := by rw [hq]; simp
  have hr := h.ei.thr hrm
  have hne : r ≠ ep := fun e => by have := hr.2; rw [e, he.kind] at this; omega
  have hf := h.ei.fit ep r hrm
  rw [he.kind] at hf
  refine ⟨hq, hr, hne, by unfold fits at hf; unfold blk; omega, (h.ei.qf.mem ep r hrm).2.2, h.pr r hr, fun p hm => ?_, hf⟩
  rw [restS_queue, popS_queue] at hm
  by_cases e : p = ep
  · rw [if_pos e, hq] at hm
    have := h.ei.qf.nd ep
    rw [hq] at this
    exact (List.nodup_cons.1 this).1 hm
  · rw [if_neg e] at hm
    exact e (h.ei.qf.one p ep r hm hrm)
/-- Endpoints whose queue is empty have nobody, before or after one is woken -/
theorem rest_wake (h : r ≠ ep) : wakeS (restS (popS S ep) ep) r n b = restS (wakeS (popS S ep) r n b) ep := by
  have e1 : ((wakeS (popS S ep) r n b).ob ep).queue = ((popS S ep).ob ep).queue := wakeS_queue ..
  unfold restS
  rw [e1]
  split
  · refine RSt.ext' rfl rfl rfl (fun i => ?_) rfl rfl
    simp only [wakeS, waitS, upO_at]
    by_cases c1 : i = ep
    · subst c1
      simp [Ne.symm h]
    · by_cases c2 : i = r
      · subst c2
        simp [c1]
      · simp [c1, c2]
  · rfl
theorem Wok.esend (hw : Wok L S) (h : Eok S) (he : EpAt S ep) (ht : S.Thr t) (h1 : (S.ob t).state = 1) (hn : b40 n) (hb : b40 b) (call : Bool) : ∃ L', (esendP ep t b n call).run machP L = ((sendA S ep call, 0), L') ∧ Wok L' (sendS S ep t b n call) := by
  have htn := h.ei.none ht (blk_no1 (.inl h1))
  have hto : (S.ob t).owing = -1 := by
    have e1 := (h.eii.lo t ht).1
    have e2 := h.eii.r t ht
    omega
  have ho1 : objB ep 0 = true := objB_in he.rng ⟨by omega, by omega⟩
  have ho2 : objB t 0 = true := objB_in ht.1 ⟨by omega, by omega⟩
  unfold esendP sendS sendA
  rw [if_pos ⟨ho1, ho2⟩]
  by_cases h2 : (S.ob ep).wait = 2
  · rw [if_pos h2, if_pos h2]
    obtain ⟨r, l, hq⟩ := h.queue_wait ⟨he.rng, he.kind⟩ (by omega)
    have p := h.pd he hq
    obtain ⟨L1, e1, q1⟩ := hw.epop he h2 hq
    rw [headQ_is hq, Vp.run_bind_is e1, if_pos rfl]
    have hr3 : (S.ob r).state = 3 := by have := p.fit; unfold fits at this; omega
    have hrt : r ≠ t := fun e => by rw [e] at hr3; omega
    have hk : ∀ i, ((restS (popS S ep) ep).ob i).kind = (S.ob i).kind := fun i => by simp only [restS_kind, popS_kind]
    obtain ⟨L2, e2, q2⟩ := q1.ewake (t := r) ((Thr_same hk r).2 p.thr) (by rw [restS_prio', popS_prio]; exact p.pr) (by rw [restS_state, popS_state, hr3]; decide) hn hb
    rw [rest_wake p.ne] at q2
    rw [Vp.run_bind_is e2]
    cases call with
    | false =>
      rw [if_neg (by simp), if_neg (by simp), Vp.run_bind_is (Vp.run_ret ())]
      exact ⟨_, rfl, q2⟩
    | true =>
      rw [if_pos rfl, if_pos rfl]
      have hk2 : ∀ i, ((restS (wakeS (popS S ep) r n b) ep).ob i).kind = (S.ob i).kind := fun i => by simp only [restS_kind, wakeS_kind, popS_kind]
      obtain ⟨L3, e3, q3⟩ := q2.eowe ((Thr_same hk2 r).2 p.thr) ((Thr_same hk2 t).2 ht) (fun p hm => by
        simp only [restS_queue, wakeS_queue, popS_queue] at hm
        split at hm
        · exact htn.2 ep (List.mem_of_mem_tail hm)
        · exact htn.2 p hm) (by
        simp only [restS_on, wakeS_on, popS_on]
        rw [if_neg (fun e => hrt e.symm)]
        exact htn.1)
      rw [Vp.run_bind_is e3]
      exact ⟨_, rfl, q3⟩
  · rw [if_neg h2, if_neg h2, Vp.run_bind_is (hw.epop_no he h2), if_neg (by simp)]
    obtain ⟨L1, e1, q1⟩ := hw.etell ht hn hb
    have hte : t ≠ ep := fun e => by have := ht.2; rw [e, he.kind] at this; omega
    obtain ⟨m, hm⟩ : ∃ m : Int, (if call = true then 6 else 2) = m := ⟨_, rfl⟩
    have hm2 : m = 6 ∨ m = 2 := by rw [← hm]; split <;> simp
    rw [hm, Vp.run_bind_is e1]
    obtain ⟨L2, e2, q2⟩ := q1.ewait (ep := ep) (t := t) (n := m) (c := 1) (he.up (o := t) (f := fun x => { x with word := n, badge := b }) (fun _ => rfl)) (show (saidS S t n b).ys t from ⟨ht.1, by unfold saidS; rw [up_self]; exact ⟨ht.2, hto⟩⟩) (fun p => by rw [saidS_queue]; exact htn.2 p)
      (by rw [saidS_prio]; exact h.pr t ht) (by rcases hm2 with rfl | rfl <;> exact ⟨by decide, by decide⟩) (by rcases hm2 with rfl | rfl <;> rfl) ⟨by decide, by decide⟩
    rw [Vp.run_bind_is e2]
    have e : waitS (blockS (saidS S t n b) ep t m) ep 1 = waitS (saidS (blockS S ep t m) t n b) ep 1 := RSt.ext' rfl rfl rfl (fun i => by
      simp only [waitS, blockS, saidS, onS, pushS, upO_at]
      by_cases c1 : i = ep
      · subst c1
        simp [Ne.symm hte]
      · by_cases c2 : i = t
        · subst c2
          simp [c1]
        · simp [c1, c2]) rfl rfl
    rw [e] at q2
    exact ⟨_, rfl, q2⟩
theorem Wok.erecv_bad (hw : Wok L S) (h : Eok S) (he : EpAt S ep) (ht : S.Thr t) (h0 : 0 ≤ (S.ob t).owes) : (erecvP ep t).run machP L = ((0, 0, false, 10), L) := by
  have e := hw.owesL h.eii ht
  rw [if_pos h0] at e
  unfold erecvP
  rw [if_pos ⟨objB_in he.rng ⟨by omega, by omega⟩, objB_in ht.1 ⟨by omega, by omega⟩⟩, Vp.run_bind_is refP_plain, e, if_pos rfl]
  rfl
theorem Wok.erecv_waits (hw : Wok L S) (h : Eok S) (he : EpAt S ep) (ht : S.Thr t) (h1 : (S.ob t).state = 1) (h0 : ¬ 0 ≤ (S.ob t).owes) (h2 : (S.ob ep).wait ≠ 1) : ∃ L', (erecvP ep t).run machP L = ((0, 0, false, 0), L') ∧ Wok L' (recvS S ep t) := by
  have e := hw.owesL h.eii ht
  rw [if_neg h0] at e
  have htn := h.ei.none ht (blk_no1 (.inl h1))
  have hto : (S.ob t).owing = -1 := by
    have e1 := (h.eii.lo t ht).1
    have e2 := h.eii.r t ht
    omega
  unfold erecvP recvS
  rw [if_pos ⟨objB_in he.rng ⟨by omega, by omega⟩, objB_in ht.1 ⟨by omega, by omega⟩⟩, Vp.run_bind_is refP_plain, e, if_neg (by simp), Vp.run_bind_is (hw.epop_no he h2), if_neg (by simp), if_neg h0, if_neg h2]
  obtain ⟨L2, e2, q2⟩ := hw.ewait (ep := ep) (t := t) (n := 3) (c := 2) he ⟨ht.1, ht.2, hto⟩ htn.2 (h.pr t ht) ⟨by decide, by decide⟩ rfl ⟨by decide, by decide⟩
  rw [Vp.run_bind_is e2]
  exact ⟨_, rfl, q2⟩
theorem rest_owe (h1 : r ≠ ep) (h2 : t ≠ ep) (h3 : r ≠ t) : oweS (atS (restS (popS S ep) ep) r (-1)) t r = restS (oweS (popS S ep) t r) ep := by
  have e1 : ((oweS (popS S ep) t r).ob ep).queue = ((popS S ep).ob ep).queue := by unfold oweS; rw [owesS_queue, owedS_queue]
  unfold restS
  rw [e1]
  split
  all_goals
    refine RSt.ext' rfl rfl rfl (fun i => ?_) rfl rfl
    simp only [oweS, owesS, owedS, atS, waitS, upO_at]
    by_cases c1 : i = ep
    · subst c1
      simp [Ne.symm h1, Ne.symm h2]
    · by_cases c2 : i = r
      · subst c2
        simp [c1, h3]
      · by_cases c3 : i = t
        · subst c3
          simp [c1, c2]
        · simp [c1, c2, c3]
theorem Wok.erecv_told (hw : Wok L S) (h : Eok S) (he : EpAt S ep) (ht : S.Thr t) (h1 : (S.ob t).state = 1) (h0 : ¬ 0 ≤ (S.ob t).owes) (h2 : (S.ob ep).wait = 1) : ∃ L', (erecvP ep t).run machP L = (((S.ob (headQ S ep)).word, (S.ob (headQ S ep)).badge, true, 0), L') ∧ Wok L' (recvS S ep t) := by
  have e := hw.owesL h.eii ht
  rw [if_neg h0] at e
  obtain ⟨r, l, hq⟩ := h.queue_wait ⟨he.rng, he.kind⟩ (by omega)
  have p := h.pd he hq
  obtain ⟨L1, e1, q1⟩ := hw.epop he h2 hq
  have hte : t ≠ ep := fun e => by have := ht.2; rw [e, he.kind] at this; omega
  have hrs : (S.ob r).state = 2 ∨ (S.ob r).state = 6 := by have := p.fit; unfold fits at this; omega
  have hrt : r ≠ t := fun e => by rw [e] at hrs; omega
  have hk : ∀ i, ((restS (popS S ep) ep).ob i).kind = (S.ob i).kind := fun i => by simp only [restS_kind, popS_kind]
  have hr1 := (Thr_same hk r).2 p.thr
  obtain ⟨g1, g3, g4, -, -⟩ := q1.thr hr1
  rw [restS_state, popS_state] at g1
  rw [restS_word, popS_word] at g3
  rw [restS_badge, popS_badge] at g4
  unfold erecvP recvS
  rw [if_pos ⟨objB_in he.rng ⟨by omega, by omega⟩, objB_in ht.1 ⟨by omega, by omega⟩⟩, Vp.run_bind_is refP_plain, e, if_neg (by simp), Vp.run_bind_is e1, if_pos rfl, Vp.run_bind_is fieldP_plain, Vp.run_bind_is fieldP_plain, Vp.run_bind_is fieldP_plain, g1, g3, g4, if_neg h0, if_pos h2, headQ_is hq]
  unfold etookP
  rcases hrs with h2s | h6s
  · rw [if_pos h2s, if_neg (show ¬ (S.ob r).state = 6 by omega)]
    obtain ⟨L2, e2, q2⟩ := q1.ewake (t := r) (n := 0) (b := 0) hr1 (by rw [restS_prio', popS_prio]; exact p.pr) (by rw [restS_state, popS_state, h2s]; decide) ⟨by decide, by decide⟩ ⟨by decide, by decide⟩
    rw [rest_wake p.ne] at q2
    rw [Vp.run_bind_is e2]
    exact ⟨_, rfl, q2⟩
  · rw [if_neg (show ¬ (S.ob r).state = 2 by omega), if_pos h6s, if_pos h6s]
    obtain ⟨L2, e2, q2⟩ := q1.eon (t := r) (o := -1) (c := 0) hr1 (by rw [restS_prio', popS_prio]; exact p.pr) ⟨by decide, by decide⟩ rfl
    obtain ⟨L3, e3, q3⟩ := q2.eowe (r := t) (c := r) (Thr_up (fun _ => rfl) ((Thr_same hk t).2 ht)) (Thr_up (fun _ => rfl) hr1) (fun o => by rw [atS_queue]; exact p.out o) (by unfold atS; rw [up_self])
    rw [rest_owe p.ne hte hrt] at q3
    have e4 : ((eonP r 0).bind fun _ => eoweP t r).run machP L1 = ((), L3) := by rw [Vp.run_bind_is e2, e3]
    rw [Vp.run_bind_is e4]
    exact ⟨_, rfl, q3⟩
theorem Wok.eans (hw : Wok L S) (h : Eok S) (ht : S.Thr t) (hn : b40 n) : ∃ L', (eansP t n).run machP L = ((if (S.ob t).owes < 0 then 10 else 0), L') ∧ Wok L' (ansS S t n) := by
  have e := hw.owesL h.eii ht
  unfold eansP ansS
  rw [if_pos (objB_in ht.1 ⟨by omega, by omega⟩), Vp.run_bind_is refP_plain, e]
  by_cases h0 : (S.ob t).owes < 0
  · rw [if_neg (show ¬ 0 ≤ (S.ob t).owes by omega), if_neg (by simp), if_pos h0, if_pos h0]
    exact ⟨_, rfl, hw⟩
  rw [if_pos (show 0 ≤ (S.ob t).owes by omega), if_pos rfl, if_neg h0, if_neg h0]
  obtain ⟨c, hc⟩ : ∃ c, (S.ob t).owes = c := ⟨_, rfl⟩
  rw [hc] at h0 ⊢
  obtain ⟨hct, hco⟩ := h.eii.a t c ht hc (by omega)
  have hc4 : (S.ob c).state = 4 := (h.eii.r c hct).2 (by rw [hco]; exact ht.1.1)
  have hcn := h.ei.none hct (blk_no1 (.inr (.inl hc4)))
  obtain ⟨L2, e2, q2⟩ := hw.ewake4 hct (h.pr c hct) hc4 hcn.2 hn (b := 0) ⟨by decide, by decide⟩
  have q3 := q2.putOwes (t := t) (c := -1) (Thr_up (fun _ => rfl) (Thr_up (fun _ => rfl) ht)) ⟨by decide, by decide⟩
  have e3 : owesS (wakeS (owingS S c (-1)) c n 0) t (-1) = wakeS (owingS (owesS S t (-1)) c (-1)) c n 0 := RSt.ext' rfl rfl rfl (fun i => by
    simp only [owesS, wakeS, owingS, upO_at]
    by_cases c1 : i = c
    · subst c1
      by_cases c2 : i = t
      · subst c2
        simp
      · simp [c2]
    · by_cases c2 : i = t
      · subst c2
        simp [c1]
      · simp [c1, c2]) rfl rfl
  rw [e3] at q3
  rw [Vp.run_bind_is e2, Vp.run_bind_is putP_plain]
  exact ⟨_, rfl, q3⟩
end
end Go.Proofs.Ytgbcgcmcfklnjaa
