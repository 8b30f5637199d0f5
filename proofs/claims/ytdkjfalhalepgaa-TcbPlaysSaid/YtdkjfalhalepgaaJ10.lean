/- Package endp's functions as mathematics, of any view (layers 15 and up). No dump is read here. -/
import Derived.Test.YtdkjfalhalepgaaJ8
import Derived.Test.YtdkjfalhalepgaaWokF
namespace Go.Proofs.Ytdkjfalhalepgaa
open Go.RowKit
def etellP (t w b : Int) : Vp Unit := (putP t 3 (max w 0)).bind fun _ => putP t 4 (max b 0)
def eonP (t o : Int) : Vp Unit := (fieldP t 5).bind fun n => putP t 5 (o * 256 + n % 256)
def ewakeP (t w b : Int) : Vp Unit := (fieldP t 1).bind fun st => (if st = 4 then putP t 2 0 else .ret ()).bind fun _ => (putP t 1 1).bind fun _ => (eonP t 0).bind fun _ => etellP t w b
def eblockP (o t n : Int) : Vp Unit := if objB o 0 = true ∧ objB t 0 = true then (putP t 1 (max n 0)).bind fun _ => (eonP t (o + 1)).bind fun _ => (qpushP o t).bind fun _ => .ret () else .ret ()
def eoweP (t c : Int) : Vp Unit := (putP c 1 4).bind fun _ => (putP c 2 (t + 1)).bind fun _ => putP t 6 (c + 1)
def esettleP (o : Int) : Vp Unit := (qwayF 32 o).bind fun l => if l = [] then putP o 1 0 else .ret ()
def epopP (o sd : Int) : Vp (Int × Bool) := (fieldP o 1).bind fun x => if x = sd then (qpopP o).bind fun r => if r.2 = true then (esettleP o).bind fun _ => .ret (r.1, true) else .ret (r.1, false) else .ret (0, false)
def esideI (n : Int) : Int := if n = 2 then 1 else if n = 6 then 1 else if n = 3 then 2 else 0
def ewaitP (o t n : Int) : Vp Unit := (eblockP o t n).bind fun _ => putP o 1 (esideI n)
/-- what is told, the error -/
def esendP (o t b w : Int) (call : Bool) : Vp (Bool × Int) :=
  if objB o 0 = true ∧ objB t 0 = true then
    (epopP o 2).bind fun r => if r.2 = true then (ewakeP r.1 w b).bind fun _ => (if call = true then eoweP r.1 t else .ret ()).bind fun _ => .ret (call, 0)
      else (etellP t w b).bind fun _ => (ewaitP o t (if call = true then 6 else 2)).bind fun _ => .ret (true, 0)
  else .ret (false, 2)
/-- what becomes of a sender that was popped -/
def etookP (t x n : Int) : Vp Unit := if n = 2 then ewakeP x 0 0 else if n = 6 then (eonP x 0).bind fun _ => eoweP t x else .ret ()
/-- word, badge, whether, the error -/
def erecvP (o t : Int) : Vp (Int × Int × Bool × Int) :=
  if objB o 0 = true ∧ objB t 0 = true then
    (refP t 6).bind fun q => if q.2 = true then .ret (0, 0, false, 10) else
      (epopP o 1).bind fun r => if r.2 = true then (fieldP r.1 3).bind fun w => (fieldP r.1 4).bind fun b => (fieldP r.1 1).bind fun n => (etookP t r.1 n).bind fun _ => .ret (w, b, true, 0)
        else (ewaitP o t 3).bind fun _ => .ret (0, 0, false, 0)
  else .ret (0, 0, false, 2)
def eansP (t w : Int) : Vp Int := if objB t 0 = true then (refP t 6).bind fun q => if q.2 = true then (ewakeP q.1 w 0).bind fun _ => (putP t 6 0).bind fun _ => .ret 0 else .ret 10 else .ret 2
def eonQ (t : Int) : Vp (Int × Bool) := (fieldP t 5).bind fun n => .ret (if objB (n / 256 - 1) 0 = true then (n / 256 - 1, true) else (0, false))
def eforgP (c : Int) : Vp Unit := (refP c 2).bind fun q => (if q.2 = true then (fieldP q.1 6).bind fun x => if x = c + 1 then putP q.1 6 0 else .ret () else .ret ()).bind fun _ => putP c 2 0
/-- is it an Endpoint, or as one -/
def eisP (o t : Int) : Vp Bool := (isP o 3).bind fun q => if q = true then .ret true else (fieldP o 1).bind fun f => (fieldP t 1).bind fun n => .ret (f == esideI n)
def eleaveP (t : Int) : Vp Unit := (eonQ t).bind fun r => if r.2 = true then (eisP r.1 t).bind fun e => (qremP r.1 t).bind fun _ => if e = true then esettleP r.1 else .ret () else .ret ()
def ecancP (t : Int) : Vp Unit :=
  (fieldP t 1).bind fun n => (if n = 2 ∨ n = 3 ∨ n = 6 ∨ n = 5 then eleaveP t else if n = 4 then eforgP t else .ret ()).bind fun _ => (putP t 1 0).bind fun _ => eonP t 0
end Go.Proofs.Ytdkjfalhalepgaa
/- What package endp's calls come to on words that tell a sound state (layers 15 to 21), as mathematics. No dump is read here. -/
namespace Go.Proofs.Ytdkjfalhalepgaa
open Go.RowKit
section
variable {L L' : List Int} {S : RSt} {t o n b r c ep : Int} {l : List Int} {f : RObj → RObj}
theorem Thr_up (hf : ∀ x, (f x).kind = x.kind) (ht : S.Thr t) : (S.upO o f).Thr t := ⟨ht.1, by rw [up_same RObj.kind hf]; exact ht.2⟩
theorem up_other (h : t ≠ o) : (S.upO o f).ob t = S.ob t := if_neg h
theorem up_self : (S.upO o f).ob o = f (S.ob o) := if_pos rfl
theorem max0 {n : Int} (h : 0 ≤ n) : max n 0 = n := by omega
theorem stS_queue (S : RSt) (t n i : Int) : ((stS S t n).ob i).queue = (S.ob i).queue := up_same RObj.queue (fun _ => rfl)
theorem atS_queue (S : RSt) (t n i : Int) : ((atS S t n).ob i).queue = (S.ob i).queue := up_same RObj.queue (fun _ => rfl)
/-- what it is blocked on is set -/
theorem Wok.eon (h : Wok L S) (ht : S.Thr t) (hp : 0 ≤ (S.ob t).prio ∧ (S.ob t).prio ≤ 255) (ho : m40' o) (hc : c = o + 1) : ∃ L', (eonP t c).run machP L = ((), L') ∧ Wok L' (atS S t o) := by
  have e := (h.thr ht).2.2.2.1
  have q := h.putOn ht ho hp.1
  unfold eonP
  rw [Vp.run_bind_is fieldP_plain, e, putP_plain, show c * 256 + ((S.ob t).prio + 256 * ((S.ob t).on + 1)) % 256 = (S.ob t).prio + 256 * (o + 1) by omega]
  exact ⟨_, rfl, q⟩
theorem Wok.etell (h : Wok L S) (ht : S.Thr t) (hn : b40 n) (hb : b40 b) : ∃ L', (etellP t n b).run machP L = ((), L') ∧ Wok L' (saidS S t n b) := by
  have q1 := h.putWord ht hn
  have q2 := q1.putBadge (Thr_up (fun _ => rfl) ht) hb
  have e : badgeS (wordS S t n) t b = saidS S t n b := RSt.ext' rfl rfl rfl (fun i => by simp only [badgeS, wordS, saidS, upO_at]; split <;> simp) rfl rfl
  rw [e] at q2
  unfold etellP
  rw [Vp.run_bind_is putP_plain, putP_plain, max0 hn.1, max0 hb.1]
  exact ⟨_, rfl, q2⟩
/-- one is woken that isn't owed a reply -/
theorem Wok.ewake (h : Wok L S) (ht : S.Thr t) (hp : 0 ≤ (S.ob t).prio ∧ (S.ob t).prio ≤ 255) (hs : (S.ob t).state ≠ 4) (hn : b40 n) (hb : b40 b) : ∃ L', (ewakeP t n b).run machP L = ((), L') ∧ Wok L' (wakeS S t n b) := by
  have q1 := h.putState ht (n := 1) ⟨by decide, by decide⟩
  have ht1 : (stS S t 1).Thr t := Thr_up (fun _ => rfl) ht
  obtain ⟨L2, e2, q2⟩ := q1.eon ht1 (o := -1) (c := 0) (by unfold stS; rw [up_self]; exact hp) ⟨by decide, by decide⟩ rfl
  obtain ⟨L3, e3, q3⟩ := q2.etell (Thr_up (fun _ => rfl) ht1) hn hb
  have e : saidS (atS (stS S t 1) t (-1)) t n b = wakeS S t n b := RSt.ext' rfl rfl rfl (fun i => by simp only [saidS, atS, stS, wakeS, upO_at]; split <;> simp) rfl rfl
  rw [e] at q3
  unfold ewakeP
  rw [Vp.run_bind_is fieldP_plain, (h.thr ht).1, if_neg hs, Vp.run_bind_is (Vp.run_ret ()), Vp.run_bind_is putP_plain, Vp.run_bind_is e2]
  exact ⟨_, e3, q3⟩
/-- one that is owed one -/
theorem Wok.ewake4 (h : Wok L S) (ht : S.Thr t) (hp : 0 ≤ (S.ob t).prio ∧ (S.ob t).prio ≤ 255) (hs : (S.ob t).state = 4) (hq : ∀ o : Int, t ∉ (S.ob o).queue) (hn : b40 n) (hb : b40 b) : ∃ L', (ewakeP t n b).run machP L = ((), L') ∧ Wok L' (wakeS (owingS S t (-1)) t n b) := by
  have q0 := h.putOwing ht hq (c := -1) ⟨by decide, by decide⟩
  rw [show ((-1 : Int) + 1) = 0 from rfl] at q0
  have ht0 : (owingS S t (-1)).Thr t := Thr_up (fun _ => rfl) ht
  have q1 := q0.putState ht0 (n := 1) ⟨by decide, by decide⟩
  have ht1 : (stS (owingS S t (-1)) t 1).Thr t := Thr_up (fun _ => rfl) ht0
  obtain ⟨L2, e2, q2⟩ := q1.eon ht1 (o := -1) (c := 0) (by unfold stS owingS; rw [up_self, up_self]; exact hp) ⟨by decide, by decide⟩ rfl
  obtain ⟨L3, e3, q3⟩ := q2.etell (Thr_up (fun _ => rfl) ht1) hn hb
  have e : saidS (atS (stS (owingS S t (-1)) t 1) t (-1)) t n b = wakeS (owingS S t (-1)) t n b := RSt.ext' rfl rfl rfl (fun i => by simp only [saidS, atS, stS, wakeS, owingS, upO_at]; split <;> simp) rfl rfl
  rw [e] at q3
  unfold ewakeP
  rw [Vp.run_bind_is fieldP_plain, (h.thr ht).1, if_pos hs, Vp.run_bind_is putP_plain, Vp.run_bind_is putP_plain, Vp.run_bind_is e2]
  exact ⟨_, e3, q3⟩
theorem Wok.eblock (h : Wok L S) (ho : S.zs o) (ht : S.ys t) (hf : ∀ p : Int, t ∉ (S.ob p).queue) (hp : 0 ≤ (S.ob t).prio ∧ (S.ob t).prio ≤ 255) (hn : b40 n) : ∃ L', (eblockP o t n).run machP L = ((), L') ∧ Wok L' (blockS S o t n) := by
  have hto : t ≠ o := fun e => by have := ho.2; rw [← e] at this; exact isQ_no5 this ht.2.1
  have ht0 : S.Thr t := ⟨ht.1, ht.2.1⟩
  have q1 := h.putState ht0 hn
  have ht1 : (stS S t n).Thr t := Thr_up (fun _ => rfl) ht0
  obtain ⟨L2, e2, q2⟩ := q1.eon ht1 (o := o) (c := o + 1) (by unfold stS; rw [up_self]; exact hp) ⟨by have := ho.1; omega, by have := ho.1; omega⟩ rfl
  have hk : ((atS (stS S t n) t o).ob o) = S.ob o := by unfold atS stS; rw [up_other (Ne.symm hto), up_other (Ne.symm hto)]
  have hk2 : ∀ p : Int, ((atS (stS S t n) t o).ob p).queue = (S.ob p).queue := fun p => by rw [atS_queue, stS_queue]
  obtain ⟨L3, e3, q3⟩ := q2.pushQ (o := o) (t := t) ⟨ho.1, by rw [hk]; exact ho.2⟩ ⟨ht.1, by unfold atS stS; rw [up_self, up_self]; exact ht.2⟩ (fun p => by rw [hk2]; exact hf p)
  have e : pushS (atS (stS S t n) t o) o t = blockS S o t n := RSt.ext' rfl rfl rfl (fun i => by
    simp only [pushS, atS, stS, blockS, onS, upO_at]
    by_cases c1 : i = o
    · subst c1
      simp [Ne.symm hto]
    · by_cases c2 : i = t
      · subst c2
        simp [c1]
      · simp [c1, c2]) rfl rfl
  rw [e] at q3
  unfold eblockP
  rw [if_pos ⟨objB_in ho.1 ⟨by omega, by omega⟩, objB_in ht.1 ⟨by omega, by omega⟩⟩, Vp.run_bind_is putP_plain, max0 hn.1, Vp.run_bind_is e2, Vp.run_bind_is e3]
  exact ⟨_, rfl, q3⟩
theorem Wok.esettle (h : Wok L S) (he : EpAt S ep) : ∃ L', (esettleP ep).run machP L = ((), L') ∧ Wok L' (restS S ep) := by
  unfold esettleP restS
  rw [Vp.run_bind_is (h.q.way he.zs)]
  show ∃ L', (if (S.ob ep).queue = [] then putP ep 1 0 else .ret () : Vp Unit).run machP L = ((), L') ∧ _
  by_cases hq : (S.ob ep).queue = []
  · rw [if_pos hq, if_pos hq, putP_plain]
    exact ⟨_, rfl, h.putWait he ⟨by decide, by decide⟩⟩
  · rw [if_neg hq, if_neg hq]
    exact ⟨_, rfl, h⟩
theorem Wok.epop_no (h : Wok L S) (he : EpAt S ep) (hw : (S.ob ep).wait ≠ n) : (epopP ep n).run machP L = ((0, false), L) := by
  unfold epopP
  rw [Vp.run_bind_is fieldP_plain, h.waitL he, if_neg hw]
  rfl
theorem EpAt.up (hf : ∀ x, (f x).kind = x.kind) (he : EpAt S ep) : EpAt (S.upO o f) ep := ⟨he.rng, by rw [up_same RObj.kind hf]; exact he.kind⟩
theorem Wok.epop (h : Wok L S) (he : EpAt S ep) (hw : (S.ob ep).wait = n) (hq : (S.ob ep).queue = r :: l) : ∃ L', (epopP ep n).run machP L = ((r, true), L') ∧ Wok L' (restS (popS S ep) ep) := by
  obtain ⟨L1, e1, q1⟩ := h.popQ he.zs hq
  obtain ⟨L2, e2, q2⟩ := q1.esettle (he.up (fun _ => rfl))
  refine ⟨L2, ?_, q2⟩
  unfold epopP
  rw [Vp.run_bind_is fieldP_plain, h.waitL he, if_pos hw, Vp.run_bind_is e1, if_pos rfl, Vp.run_bind_is e2]
  rfl
/-- a reply is owed -/
theorem Wok.eowe (h : Wok L S) (hs : S.Thr r) (hc : S.Thr c) (hf : ∀ p : Int, c ∉ (S.ob p).queue) (hon : (S.ob c).on = -1) : ∃ L', (eoweP r c).run machP L = ((), L') ∧ Wok L' (oweS S r c) := by
  have q1 := h.putState hc (n := 4) ⟨by decide, by decide⟩
  have hc1 : (stS S c 4).Thr c := Thr_up (fun _ => rfl) hc
  have q2 := q1.putOwing hc1 (c := r) (fun p => by rw [stS_queue]; exact hf p) (m40_thr hs)
  have hs2 : (owingS (stS S c 4) c r).Thr r := Thr_up (fun _ => rfl) (Thr_up (fun _ => rfl) hs)
  have q3 := q2.putOwes hs2 (c := c) (m40_thr hc)
  have e : owesS (owingS (stS S c 4) c r) r c = oweS S r c := RSt.ext' rfl rfl rfl (fun i => by
    simp only [owesS, owingS, stS, oweS, owedS, upO_at]
    by_cases c1 : i = c
    · subst c1
      by_cases c2 : i = r
      · subst c2
        simp [hon]
      · simp [hon, c2]
    · by_cases c2 : i = r
      · subst c2
        simp [c1]
      · simp [c1, c2]) rfl rfl
  rw [e] at q3
  unfold eoweP
  rw [Vp.run_bind_is putP_plain, Vp.run_bind_is putP_plain, putP_plain]
  exact ⟨_, rfl, q3⟩
theorem Wok.ewait (h : Wok L S) (he : EpAt S ep) (ht : S.ys t) (hf : ∀ p : Int, t ∉ (S.ob p).queue) (hp : 0 ≤ (S.ob t).prio ∧ (S.ob t).prio ≤ 255) (hn : b40 n) (hc : esideI n = c) (hc2 : b40 c) : ∃ L', (ewaitP ep t n).run machP L = ((), L') ∧ Wok L' (waitS (blockS S ep t n) ep c) := by
  obtain ⟨L1, e1, q1⟩ := h.eblock he.zs ht hf hp hn
  have q2 := q1.putWait (o := ep) (n := c) ((he.up (o := ep) (f := fun x => { x with queue := x.queue ++ [t] }) (fun _ => rfl)).up (o := t) (f := fun x => { x with state := n, on := ep }) (fun _ => rfl)) hc2
  unfold ewaitP
  rw [Vp.run_bind_is e1, hc, putP_plain]
  exact ⟨_, rfl, q2⟩
end
end Go.Proofs.Ytdkjfalhalepgaa
/- What Send, Recv, Answer of package endp come to on words that tell a sound state (layers 15 to 21), as mathematics. No dump is read here. -/
namespace Go.Proofs.Ytdkjfalhalepgaa
open Go.RowKit
section
variable {L L' : List Int} {S : RSt} {t o n b r c ep x : Int} {l : List Int} {f : RObj → RObj}
theorem Eok.wok (h : Eok S) : Wok (wordsG S) S := Wok.of h.sok h.ei.qf
theorem restS_prio' (S : RSt) (ep i : Int) : ((restS S ep).ob i).prio = (S.ob i).prio := by
  unfold restS
  split
  · rw [waitS_prio]
  · rfl
/-- who is popped of an Endpoint -/
structure Pd (S : RSt) (ep r : Int) (l : List Int) : Prop where
  q : (S.ob ep).queue = r :: l
  thr : S.Thr r
  ne : r ≠ ep
  bl : blk (S.ob r).state
  ow : (S.ob r).owing = -1
  pr : 0 ≤ (S.ob r).prio ∧ (S.ob r).prio ≤ 255
  out : ∀ p : Int, r ∉ ((restS (popS S ep) ep).ob p).queue
  fit : fits 3 (S.ob ep).wait (S.ob r).state
theorem Eok.pd (h : Eok S) (he : EpAt S ep) (hq : (S.ob ep).queue = r :: l) : Pd S ep r l := by
  have hrm : r ∈ (S.ob ep).queue := by rw [hq]; simp
  have hr := h.ei.thr hrm
  have hne : r ≠ ep := fun e => by have := hr.2; rw [e, he.kind] at this; omega
  have hf := h.ei.fit ep r hrm
  rw [he.kind] at hf
  refine ⟨hq, hr, hne, by unfold fits at hf; unfold blk; omega, (h.ei.qf.mem ep r hrm).2.2, h.pr r hr, fun p hm => ?_, hf⟩
  rw [restS_queue, popS_queue] at hm
  by_cases e : p = ep
  · rw [if_pos e, hq] at hm
    have := h.ei.qf.nd ep
    rw [hq] at this
    exact (List.nodup_cons.1 this).1 hm
  · rw [if_neg e] at hm
    exact e (h.ei.qf.one p ep r hm hrm)
/-- Endpoints whose queue is empty have nobody, before or after one is woken -/
theorem rest_wake (h : r ≠ ep) : wakeS (restS (popS S ep) ep) r n b = restS (wakeS (popS S ep) r n b) ep := by
  have e1 : ((wakeS (popS S ep) r n b).ob ep).queue = ((popS S ep).ob ep).queue := wakeS_queue ..
  unfold restS
  rw [e1]
  split
  · refine RSt.ext' rfl rfl rfl (fun i => ?_) rfl rfl
    simp only [wakeS, waitS, upO_at]
    by_cases c1 : i = ep
    · subst c1
      simp [Ne.symm h]
    · by_cases c2 : i = r
      · subst c2
        simp [c1]
      · simp [c1, c2]
  · rfl
theorem Wok.esend (hw : Wok L S) (h : Eok S) (he : EpAt S ep) (ht : S.Thr t) (h1 : (S.ob t).state = 1) (hn : b40 n) (hb : b40 b) (call : Bool) : ∃ L', (esendP ep t b n call).run machP L = ((sendA S ep call, 0), L') ∧ Wok L' (sendS S ep t b n call) := by
  have htn := h.ei.none ht (blk_no1 (.inl h1))
  have hto : (S.ob t).owing = -1 := by
    have e1 := (h.eii.lo t ht).1
    have e2 := h.eii.r t ht
    omega
  have ho1 : objB ep 0 = true := objB_in he.rng ⟨by omega, by omega⟩
  have ho2 : objB t 0 = true := objB_in ht.1 ⟨by omega, by omega⟩
  unfold esendP sendS sendA
  rw [if_pos ⟨ho1, ho2⟩]
  by_cases h2 : (S.ob ep).wait = 2
  · rw [if_pos h2, if_pos h2]
    obtain ⟨r, l, hq⟩ := h.queue_wait ⟨he.rng, he.kind⟩ (by omega)
    have p := h.pd he hq
    obtain ⟨L1, e1, q1⟩ := hw.epop he h2 hq
    rw [headQ_is hq, Vp.run_bind_is e1, if_pos rfl]
    have hr3 : (S.ob r).state = 3 := by have := p.fit; unfold fits at this; omega
    have hrt : r ≠ t := fun e => by rw [e] at hr3; omega
    have hk : ∀ i, ((restS (popS S ep) ep).ob i).kind = (S.ob i).kind := fun i => by simp only [restS_kind, popS_kind]
    obtain ⟨L2, e2, q2⟩ := q1.ewake (t := r) ((Thr_same hk r).2 p.thr) (by rw [restS_prio', popS_prio]; exact p.pr) (by rw [restS_state, popS_state, hr3]; decide) hn hb
    rw [rest_wake p.ne] at q2
    rw [Vp.run_bind_is e2]
    cases call with
    | false =>
      rw [if_neg (by simp), if_neg (by simp), Vp.run_bind_is (Vp.run_ret ())]
      exact ⟨_, rfl, q2⟩
    | true =>
      rw [if_pos rfl, if_pos rfl]
      have hk2 : ∀ i, ((restS (wakeS (popS S ep) r n b) ep).ob i).kind = (S.ob i).kind := fun i => by simp only [restS_kind, wakeS_kind, popS_kind]
      obtain ⟨L3, e3, q3⟩ := q2.eowe ((Thr_same hk2 r).2 p.thr) ((Thr_same hk2 t).2 ht) (fun p hm => by
        simp only [restS_queue, wakeS_queue, popS_queue] at hm
        split at hm
        · exact htn.2 ep (List.mem_of_mem_tail hm)
        · exact htn.2 p hm) (by
        simp only [restS_on, wakeS_on, popS_on]
        rw [if_neg (fun e => hrt e.symm)]
        exact htn.1)
      rw [Vp.run_bind_is e3]
      exact ⟨_, rfl, q3⟩
  · rw [if_neg h2, if_neg h2, Vp.run_bind_is (hw.epop_no he h2), if_neg (by simp)]
    obtain ⟨L1, e1, q1⟩ := hw.etell ht hn hb
    have hte : t ≠ ep := fun e => by have := ht.2; rw [e, he.kind] at this; omega
    obtain ⟨m, hm⟩ : ∃ m : Int, (if call = true then 6 else 2) = m := ⟨_, rfl⟩
    have hm2 : m = 6 ∨ m = 2 := by rw [← hm]; split <;> simp
    rw [hm, Vp.run_bind_is e1]
    obtain ⟨L2, e2, q2⟩ := q1.ewait (ep := ep) (t := t) (n := m) (c := 1) (he.up (o := t) (f := fun x => { x with word := n, badge := b }) (fun _ => rfl)) (show (saidS S t n b).ys t from ⟨ht.1, by unfold saidS; rw [up_self]; exact ⟨ht.2, hto⟩⟩) (fun p => by rw [saidS_queue]; exact htn.2 p)
      (by rw [saidS_prio]; exact h.pr t ht) (by rcases hm2 with rfl | rfl <;> exact ⟨by decide, by decide⟩) (by rcases hm2 with rfl | rfl <;> rfl) ⟨by decide, by decide⟩
    rw [Vp.run_bind_is e2]
    have e : waitS (blockS (saidS S t n b) ep t m) ep 1 = waitS (saidS (blockS S ep t m) t n b) ep 1 := RSt.ext' rfl rfl rfl (fun i => by
      simp only [waitS, blockS, saidS, onS, pushS, upO_at]
      by_cases c1 : i = ep
      · subst c1
        simp [Ne.symm hte]
      · by_cases c2 : i = t
        · subst c2
          simp [c1]
        · simp [c1, c2]) rfl rfl
    rw [e] at q2
    exact ⟨_, rfl, q2⟩
theorem Wok.erecv_bad (hw : Wok L S) (h : Eok S) (he : EpAt S ep) (ht : S.Thr t) (h0 : 0 ≤ (S.ob t).owes) : (erecvP ep t).run machP L = ((0, 0, false, 10), L) := by
  have e := hw.owesL h.eii ht
  rw [if_pos h0] at e
  unfold erecvP
  rw [if_pos ⟨objB_in he.rng ⟨by omega, by omega⟩, objB_in ht.1 ⟨by omega, by omega⟩⟩, Vp.run_bind_is refP_plain, e, if_pos rfl]
  rfl
theorem Wok.erecv_waits (hw : Wok L S) (h : Eok S) (he : EpAt S ep) (ht : S.Thr t) (h1 : (S.ob t).state = 1) (h0 : ¬ 0 ≤ (S.ob t).owes) (h2 : (S.ob ep).wait ≠ 1) : ∃ L', (erecvP ep t).run machP L = ((0, 0, false, 0), L') ∧ Wok L' (recvS S ep t) := by
  have e := hw.owesL h.eii ht
  rw [if_neg h0] at e
  have htn := h.ei.none ht (blk_no1 (.inl h1))
  have hto : (S.ob t).owing = -1 := by
    have e1 := (h.eii.lo t ht).1
    have e2 := h.eii.r t ht
    omega
  unfold erecvP recvS
  rw [if_pos ⟨objB_in he.rng ⟨by omega, by omega⟩, objB_in ht.1 ⟨by omega, by omega⟩⟩, Vp.run_bind_is refP_plain, e, if_neg (by simp), Vp.run_bind_is (hw.epop_no he h2), if_neg (by simp), if_neg h0, if_neg h2]
  obtain ⟨L2, e2, q2⟩ := hw.ewait (ep := ep) (t := t) (n := 3) (c := 2) he ⟨ht.1, ht.2, hto⟩ htn.2 (h.pr t ht) ⟨by decide, by decide⟩ rfl ⟨by decide, by decide⟩
  rw [Vp.run_bind_is e2]
  exact ⟨_, rfl, q2⟩
theorem rest_owe (h1 : r ≠ ep) (h2 : t ≠ ep) (h3 : r ≠ t) : oweS (atS (restS (popS S ep) ep) r (-1)) t r = restS (oweS (popS S ep) t r) ep := by
  have e1 : ((oweS (popS S ep) t r).ob ep).queue = ((popS S ep).ob ep).queue := by unfold oweS; rw [owesS_queue, owedS_queue]
  unfold restS
  rw [e1]
  split
  all_goals
    refine RSt.ext' rfl rfl rfl (fun i => ?_) rfl rfl
    simp only [oweS, owesS, owedS, atS, waitS, upO_at]
    by_cases c1 : i = ep
    · subst c1
      simp [Ne.symm h1, Ne.symm h2]
    · by_cases c2 : i = r
      · subst c2
        simp [c1, h3]
      · by_cases c3 : i = t
        · subst c3
          simp [c1, c2]
        · simp [c1, c2, c3]
theorem Wok.erecv_told (hw : Wok L S) (h : Eok S) (he : EpAt S ep) (ht : S.Thr t) (h1 : (S.ob t).state = 1) (h0 : ¬ 0 ≤ (S.ob t).owes) (h2 : (S.ob ep).wait = 1) : ∃ L', (erecvP ep t).run machP L = (((S.ob (headQ S ep)).word, (S.ob (headQ S ep)).badge, true, 0), L') ∧ Wok L' (recvS S ep t) := by
  have e := hw.owesL h.eii ht
  rw [if_neg h0] at e
  obtain ⟨r, l, hq⟩ := h.queue_wait ⟨he.rng, he.kind⟩ (by omega)
  have p := h.pd he hq
  obtain ⟨L1, e1, q1⟩ := hw.epop he h2 hq
  have hte : t ≠ ep := fun e => by have := ht.2; rw [e, he.kind] at this; omega
  have hrs : (S.ob r).state = 2 ∨ (S.ob r).state = 6 := by have := p.fit; unfold fits at this; omega
  have hrt : r ≠ t := fun e => by rw [e] at hrs; omega
  have hk : ∀ i, ((restS (popS S ep) ep).ob i).kind = (S.ob i).kind := fun i => by simp only [restS_kind, popS_kind]
  have hr1 := (Thr_same hk r).2 p.thr
  obtain ⟨g1, g3, g4, -, -⟩ := q1.thr hr1
  rw [restS_state, popS_state] at g1
  rw [restS_word, popS_word] at g3
  rw [restS_badge, popS_badge] at g4
  unfold erecvP recvS
  rw [if_pos ⟨objB_in he.rng ⟨by omega, by omega⟩, objB_in ht.1 ⟨by omega, by omega⟩⟩, Vp.run_bind_is refP_plain, e, if_neg (by simp), Vp.run_bind_is e1, if_pos rfl, Vp.run_bind_is fieldP_plain, Vp.run_bind_is fieldP_plain, Vp.run_bind_is fieldP_plain, g1, g3, g4, if_neg h0, if_pos h2, headQ_is hq]
  unfold etookP
  rcases hrs with h2s | h6s
  · rw [if_pos h2s, if_neg (show ¬ (S.ob r).state = 6 by omega)]
    obtain ⟨L2, e2, q2⟩ := q1.ewake (t := r) (n := 0) (b := 0) hr1 (by rw [restS_prio', popS_prio]; exact p.pr) (by rw [restS_state, popS_state, h2s]; decide) ⟨by decide, by decide⟩ ⟨by decide, by decide⟩
    rw [rest_wake p.ne] at q2
    rw [Vp.run_bind_is e2]
    exact ⟨_, rfl, q2⟩
  · rw [if_neg (show ¬ (S.ob r).state = 2 by omega), if_pos h6s, if_pos h6s]
    obtain ⟨L2, e2, q2⟩ := q1.eon (t := r) (o := -1) (c := 0) hr1 (by rw [restS_prio', popS_prio]; exact p.pr) ⟨by decide, by decide⟩ rfl
    obtain ⟨L3, e3, q3⟩ := q2.eowe (r := t) (c := r) (Thr_up (fun _ => rfl) ((Thr_same hk t).2 ht)) (Thr_up (fun _ => rfl) hr1) (fun o => by rw [atS_queue]; exact p.out o) (by unfold atS; rw [up_self])
    rw [rest_owe p.ne hte hrt] at q3
    have e4 : ((eonP r 0).bind fun _ => eoweP t r).run machP L1 = ((), L3) := by rw [Vp.run_bind_is e2, e3]
    rw [Vp.run_bind_is e4]
    exact ⟨_, rfl, q3⟩
theorem Wok.eans (hw : Wok L S) (h : Eok S) (ht : S.Thr t) (hn : b40 n) : ∃ L', (eansP t n).run machP L = ((if (S.ob t).owes < 0 then 10 else 0), L') ∧ Wok L' (ansS S t n) := by
  have e := hw.owesL h.eii ht
  unfold eansP ansS
  rw [if_pos (objB_in ht.1 ⟨by omega, by omega⟩), Vp.run_bind_is refP_plain, e]
  by_cases h0 : (S.ob t).owes < 0
  · rw [if_neg (show ¬ 0 ≤ (S.ob t).owes by omega), if_neg (by simp), if_pos h0, if_pos h0]
    exact ⟨_, rfl, hw⟩
  rw [if_pos (show 0 ≤ (S.ob t).owes by omega), if_pos rfl, if_neg h0, if_neg h0]
  obtain ⟨c, hc⟩ : ∃ c, (S.ob t).owes = c := ⟨_, rfl⟩
  rw [hc] at h0 ⊢
  obtain ⟨hct, hco⟩ := h.eii.a t c ht hc (by omega)
  have hc4 : (S.ob c).state = 4 := (h.eii.r c hct).2 (by rw [hco]; exact ht.1.1)
  have hcn := h.ei.none hct (blk_no1 (.inr (.inl hc4)))
  obtain ⟨L2, e2, q2⟩ := hw.ewake4 hct (h.pr c hct) hc4 hcn.2 hn (b := 0) ⟨by decide, by decide⟩
  have q3 := q2.putOwes (t := t) (c := -1) (Thr_up (fun _ => rfl) (Thr_up (fun _ => rfl) ht)) ⟨by decide, by decide⟩
  have e3 : owesS (wakeS (owingS S c (-1)) c n 0) t (-1) = wakeS (owingS (owesS S t (-1)) c (-1)) c n 0 := RSt.ext' rfl rfl rfl (fun i => by
    simp only [owesS, wakeS, owingS, upO_at]
    by_cases c1 : i = c
    · subst c1
      by_cases c2 : i = t
      · subst c2
        simp
      · simp [c2]
    · by_cases c2 : i = t
      · subst c2
        simp [c1]
      · simp [c1, c2]) rfl rfl
  rw [e3] at q3
  rw [Vp.run_bind_is e2, Vp.run_bind_is putP_plain]
  exact ⟨_, rfl, q3⟩
end
end Go.Proofs.Ytdkjfalhalepgaa
