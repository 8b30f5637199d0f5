/- What Cancel of package endp comes to on words that tell a sound state (layers 15 to 21), as mathematics. No dump is read here. -/
import Derived.Test.YtdkjfalhalepgaaJ10
import Derived.Test.YtdkjfalhalepgaaTcM
import Derived.Test.YtdkjfalhalepgaaJ5
import Derived.Test.YtdkjfalhalepgaaJ7
import Derived.Test.YtdkjfalhalepgaaEpS
import Derived.Test.YtdkjfalhalepgaaJ1
import Derived.Test.YtdkjfalhalepgaaJ6
namespace Go.Proofs.Ytdkjfalhalepgaa
open Go.RowKit
section
variable {L L' : List Int} {S : RSt} {t o n b r c ep x : Int} {l : List Int} {f : RObj → RObj}
theorem eonQ_plain (hw : Wok L S) (h : Eok S) (ht : S.Thr t) : (eonQ t).run machP L = ((if 0 ≤ (S.ob t).on then (S.ob t).on else 0, decide (0 ≤ (S.ob t).on)), L) := by
  have hp := h.pr t ht
  have h1 := h.ei.one1 t ht
  have h2 : (S.ob t).on < 32 := by
    by_cases e : 0 ≤ (S.ob t).on
    · have hm := (h.ei.on t ht _ e).1 rfl
      have := (h.ei.qf.own _ (fun e => by rw [e] at hm; simp at hm)).1
      omega
    · omega
  unfold eonQ
  rw [Vp.run_bind_is fieldP_plain, (hw.thr ht).2.2.2.1, Vp.run_ret, show ((S.ob t).prio + 256 * ((S.ob t).on + 1)) / 256 - 1 = (S.ob t).on by omega]
  by_cases e : 0 ≤ (S.ob t).on
  · rw [if_pos (objB_in ⟨e, h2⟩ ⟨by omega, by omega⟩), if_pos e, decide_eq_true e]
  · rw [if_neg (fun z => e (objB_yes.1 z).1), if_neg e, decide_eq_false e]
/-- a thread is stopped, on words -/
theorem Wok.estop (h : Wok L S) (ht : S.Thr t) (hp : 0 ≤ (S.ob t).prio ∧ (S.ob t).prio ≤ 255) : ∃ L', ((putP t 1 0).bind fun _ => eonP t 0).run machP L = ((), L') ∧ Wok L' (stopS S t) := by
  have q1 := h.putState ht (n := 0) ⟨by decide, by decide⟩
  have ht1 : (stS S t 0).Thr t := Thr_up (fun _ => rfl) ht
  obtain ⟨L2, e2, q2⟩ := q1.eon ht1 (o := -1) (c := 0) (by unfold stS; rw [up_self]; exact hp) ⟨by decide, by decide⟩ rfl
  have e : atS (stS S t 0) t (-1) = stopS S t := RSt.ext' rfl rfl rfl (fun i => by simp only [atS, stS, stopS, upO_at]; split <;> simp) rfl rfl
  rw [e] at q2
  rw [Vp.run_bind_is putP_plain]
  exact ⟨_, e2, q2⟩
theorem queueS_zs (ho : S.zs o) : (queueS S o l).zs o := ⟨ho.1, by
  have := ho.2
  unfold RObj.isQ at this ⊢
  rw [queueS_kind]
  exact this⟩
theorem EpAt.queue (he : EpAt S ep) : EpAt (queueS S ep l) ep := ⟨he.rng, by rw [queueS_kind]; exact he.kind⟩
/-- it leaves the queue that it is in -/
theorem Wok.eleave (hw : Wok L S) (h : Eok S) (ht : S.Thr t) (hb : blk (S.ob t).state) : ∃ L', (eleaveP t).run machP L = ((), L') ∧ Wok L' (outS S (S.ob t).on t) := by
  have e0 := eonQ_plain hw h ht
  have h0 : 0 ≤ (S.ob t).on := (h.ei.cls t ht).2 hb
  obtain ⟨o, ho⟩ : ∃ o, (S.ob t).on = o := ⟨_, rfl⟩
  rw [ho] at e0 h0 ⊢
  rw [if_pos h0, decide_eq_true h0] at e0
  have hm := (h.ei.on t ht o h0).1 ho
  have hz : S.zs o := h.ei.qf.own o (fun e => by rw [e] at hm; simp at hm)
  have hf := h.ei.fit o t hm
  obtain ⟨L1, e1, q1⟩ := hw.remQ hz hm
  unfold eleaveP outS
  rw [Vp.run_bind_is e0, if_pos rfl]
  unfold eisP
  have e3 : (isP o 3).run machP L = (decide ((S.ob o).kind = 3), L) := by rw [isP_plain, hw.isL hz.1 3 (by decide)]
  by_cases hk : (S.ob o).kind = 3
  · rw [decide_eq_true hk] at e3
    have e4 : ((isP o 3).bind fun q => if q = true then Vp.ret true else (fieldP o 1).bind fun f => (fieldP t 1).bind fun n => .ret (f == esideI n)).run machP L = (true, L) := by
      rw [Vp.run_bind_is e3, if_pos rfl]
      rfl
    rw [Vp.run_bind_is e4, Vp.run_bind_is e1, if_pos rfl, if_pos hk]
    exact q1.esettle (EpAt.queue ⟨hz.1, hk⟩)
  · rw [decide_eq_false hk] at e3
    have hk4 : (S.ob o).kind = 4 ∧ (S.ob t).state = 5 := by unfold fits at hf; omega
    have e4 : ((isP o 3).bind fun q => if q = true then Vp.ret true else (fieldP o 1).bind fun f => (fieldP t 1).bind fun n => .ret (f == esideI n)).run machP L = ((S.ob o).word == 0, L) := by
      rw [Vp.run_bind_is e3, if_neg (by simp), Vp.run_bind_is fieldP_plain, Vp.run_bind_is fieldP_plain, hw.wordL hz.1 hk4.1, (hw.thr ht).1, hk4.2]
      rfl
    rw [Vp.run_bind_is e4, Vp.run_bind_is e1, if_neg hk]
    by_cases hwd : (S.ob o).word = 0
    · rw [hwd, if_pos (by simp)]
      unfold esettleP
      rw [Vp.run_bind_is (q1.q.way (queueS_zs hz))]
      show ∃ L', (if ((queueS S o ((S.ob o).queue.erase t)).ob o).queue = [] then putP o 1 0 else .ret () : Vp Unit).run machP L1 = ((), L') ∧ _
      by_cases hq : ((queueS S o ((S.ob o).queue.erase t)).ob o).queue = []
      · rw [if_pos hq, putP_plain]
        have q2 := q1.putNt (o := o) (n := 0) hz.1 (by rw [queueS_kind]; exact hk4.1) ⟨by decide, by decide⟩
        have e : wordS (queueS S o ((S.ob o).queue.erase t)) o 0 = queueS S o ((S.ob o).queue.erase t) := RSt.ext' rfl rfl rfl (fun i => by
          simp only [wordS, queueS, upO_at]
          by_cases c1 : i = o
          · subst c1
            simp [hwd]
          · simp [c1]) rfl rfl
        rw [e] at q2
        exact ⟨_, rfl, q2⟩
      · rw [if_neg hq]
        exact ⟨_, rfl, q1⟩
    · rw [if_neg (by simpa using hwd)]
      exact ⟨_, rfl, q1⟩
/-- it is owed no reply any more -/
theorem Wok.eforg (hw : Wok L S) (h : Eok S) (ht : S.Thr t) (h4 : (S.ob t).state = 4) : ∃ L', (eforgP t).run machP L = ((), L') ∧ Wok L' (owingS (owesS S (S.ob t).owing (-1)) t (-1)) := by
  have htn := h.ei.none ht (blk_no1 (.inr (.inl h4)))
  have h0 := (h.eii.r t ht).1 h4
  have e0 := hw.owingL h.eii ht htn.2
  obtain ⟨s, hs⟩ : ∃ s, (S.ob t).owing = s := ⟨_, rfl⟩
  rw [hs] at e0 h0 ⊢
  rw [if_pos h0] at e0
  obtain ⟨hst, hso⟩ := h.eii.b t s ht hs h0
  have e6 := (hw.thr hst).2.2.2.2
  rw [hso] at e6
  have q1 := hw.putOwes hst (c := -1) ⟨by decide, by decide⟩
  rw [show ((-1 : Int) + 1) = 0 from rfl] at q1
  have q2 := q1.putOwing (t := t) (c := -1) (Thr_up (fun _ => rfl) ht) (fun o => by rw [owesS_queue]; exact htn.2 o) ⟨by decide, by decide⟩
  rw [show ((-1 : Int) + 1) = 0 from rfl] at q2
  have e1 : ((fieldP s 6).bind fun x => if x = t + 1 then putP s 6 0 else .ret ()).run machP L = ((), putL L s 6 0) := by
    rw [Vp.run_bind_is fieldP_plain, e6, if_pos rfl, putP_plain]
  have e2 : (refP t 2).run machP L = ((s, true), L) := by rw [refP_plain, e0]
  unfold eforgP
  rw [Vp.run_bind_is e2, if_pos rfl, Vp.run_bind_is e1, putP_plain]
  exact ⟨_, rfl, q2⟩
theorem outS_kind (S : RSt) (o t i : Int) : ((outS S o t).ob i).kind = (S.ob i).kind := by
  unfold outS
  split
  · rw [restS_kind, queueS_kind]
  · rw [queueS_kind]
theorem outS_prio (S : RSt) (o t i : Int) : ((outS S o t).ob i).prio = (S.ob i).prio := by
  unfold outS
  split
  · rw [restS_prio', queueS_prio]
  · rw [queueS_prio]
theorem Wok.ecanc (hw : Wok L S) (h : Eok S) (ht : S.Thr t) : ∃ L', (ecancP t).run machP L = ((), L') ∧ Wok L' (cancelS S t) := by
  unfold ecancP cancelS
  rw [Vp.run_bind_is fieldP_plain, (hw.thr ht).1]
  by_cases hb : blk (S.ob t).state
  · have h0 : 0 ≤ (S.ob t).on := (h.ei.cls t ht).2 hb
    obtain ⟨L1, e1, q1⟩ := hw.eleave h ht hb
    rw [if_pos (by unfold blk at hb; omega), if_neg (by unfold blk at hb; omega), if_pos h0, Vp.run_bind_is e1]
    exact q1.estop ((Thr_same (outS_kind S _ t) t).2 ht) (by rw [outS_prio]; exact h.pr t ht)
  · have h0 : ¬ 0 ≤ (S.ob t).on := fun e => hb ((h.ei.cls t ht).1 e)
    rw [if_neg (by unfold blk at hb; omega)]
    by_cases h4 : (S.ob t).state = 4
    · obtain ⟨L1, e1, q1⟩ := hw.eforg h ht h4
      rw [if_pos h4, if_pos h4, if_pos ((h.eii.r t ht).1 h4), Vp.run_bind_is e1]
      exact q1.estop (Thr_up (fun _ => rfl) (Thr_up (fun _ => rfl) ht)) (by rw [owingS_prio, owesS_prio]; exact h.pr t ht)
    · rw [if_neg h4, if_neg h4, if_neg h0, Vp.run_bind_is (Vp.run_ret ())]
      exact hw.estop ht (h.pr t ht)
end
end Go.Proofs.Ytdkjfalhalepgaa
/- Untyped memory made into objects (layer 13): what the document's Cost, Retype come to, as mathematics. -/
namespace Go.Proofs.Ytdkjfalhalepgaa
open Go.RowKit
/-- is it an object of that kind -/
def isO (S : RSt) (i k : Int) : Bool := decide (0 ≤ i ∧ i ≤ 31 ∧ (S.ob i).kind = k)
end Go.Proofs.Ytdkjfalhalepgaa
/- Delete, One of the document's state (layer 12), as mathematics. -/
namespace Go.Proofs.Ytdkjfalhalepgaa
open Go.RowKit
def rdelN (S : RSt) (i : Int) : Int := if slotOk i = false then 2 else if S.kids i ≠ [] then 9 else 0
end Go.Proofs.Ytdkjfalhalepgaa
/- A state of layer 13: sound, no queues, what isn't used yet is fresh, memory has no more used than there is; what a Retype makes of it, and of its words; as mathematics. -/
namespace Go.Proofs.Ytdkjfalhalepgaa
open Go.RowKit
section
variable {S : RSt} {f t k b : Int}
theorem isO_yes {i k : Int} (h : isO S i k = true) : ∃ m : Nat, i = m ∧ m < 32 ∧ (S.ob m).kind = k := by
  have e : 0 ≤ i ∧ i ≤ 31 ∧ (S.ob i).kind = k := of_decide_eq_true h
  refine ⟨i.toNat, by omega, by omega, ?_⟩
  rw [show ((i.toNat : Nat) : Int) = i by omega]
  exact e.2.2
end
end Go.Proofs.Ytdkjfalhalepgaa
/- The boot state with memory of any size (layer 13), as mathematics. -/
namespace Go.Proofs.Ytdkjfalhalepgaa
open Go.RowKit
theorem bootT_ob (t : Int) (i : Int) : ∀ k : Nat, (bootT t k).ob i = if 0 ≤ i ∧ i < k then thrO t else RObj.fresh 0 := by
  intro k
  induction k with
  | zero => rw [if_neg (by omega)]; rfl
  | succ k ih =>
    show setF (bootT t k).ob (k : Int) (thrO t) i = _
    by_cases e : i = k
    · rw [e, setF_self, if_pos (by omega)]
    · rw [setF_ne e, ih]
      by_cases h : 0 ≤ i ∧ i < k
      · rw [if_pos h, if_pos (by omega)]
      · rw [if_neg h, if_neg (by omega)]
theorem bootK_ob (t : Nat) (i : Int) : ∀ k : Nat, (bootK t k).ob i = if (t : Int) ≤ i ∧ i < (t : Int) + k then RObj.fresh (kindB (i - t).toNat) else (bootT t t).ob i := by
  intro k
  induction k with
  | zero => rw [if_neg (by omega)]; rfl
  | succ k ih =>
    have e1 : (bootK t (k + 1)).ob i = setF (bootK t k).ob ((t + k : Nat) : Int) (RObj.fresh (kindB k)) i := by
      rw [show bootK t (k + 1) = if 2 ≤ k then ((bootK t k).putO ((t + k : Nat) : Int) (RObj.fresh (kindB k))).putC ((6 + k : Nat) : Int) (fullC (kindB k) (t + k : Nat)) else (bootK t k).putO ((t + k : Nat) : Int) (RObj.fresh (kindB k)) from rfl]
      split <;> rfl
    rw [e1]
    by_cases e : i = ((t + k : Nat) : Int)
    · rw [e, setF_self, if_pos (by omega)]
      rw [show (((t + k : Nat) : Int) - (t : Int)).toNat = k by omega]
    · rw [setF_ne e, ih]
      by_cases h : (t : Int) ≤ i ∧ i < (t : Int) + k
      · rw [if_pos h, if_pos (by omega)]
      · rw [if_neg h, if_neg (by omega)]
theorem bootS_ob (t : Nat) (i : Int) : (bootS t).ob i = if i = ((t + 2 : Nat) : Int) then { (boot3 t).ob i with size := 200 } else (boot3 t).ob i := by
  show setF (boot3 t).ob ((t + 2 : Nat) : Int) _ i = _
  by_cases e : i = ((t + 2 : Nat) : Int)
  · rw [if_pos e, e, setF_self]
  · rw [if_neg e, setF_ne e]
theorem boot3_ob (t : Nat) {i : Int} (h0 : i ≠ ((t : Nat) : Int)) (h1 : i ≠ ((t + 1 : Nat) : Int)) : (boot3 t).ob i = (bootK t 8).ob i := by
  show setF (setF (setF (bootK t 8).ob ((t : Nat) : Int) _) ((t + 1 : Nat) : Int) _) ((t + 1 : Nat) : Int) _ i = _
  rw [setF_ne h1, setF_ne h1, setF_ne h0]
/-- what is no thread, and behind the two CNodes -/
theorem bootS_far (t : Nat) {i : Int} (h : (t : Int) + 3 ≤ i) : (bootS t).ob i = if i < (t : Int) + 8 then RObj.fresh (kindB (i - t).toNat) else RObj.fresh 0 := by
  rw [bootS_ob, if_neg (by omega), boot3_ob t (by omega) (by omega), bootK_ob]
  by_cases e : i < (t : Int) + 8
  · rw [if_pos (by omega), if_pos e]
  · rw [if_neg (by omega), if_neg e, bootT_ob, if_neg (by omega)]
theorem bootS_thr (t : Nat) {i : Int} (h0 : 0 ≤ i) (h : i < t) : (bootS t).ob i = thrO t := by
  rw [bootS_ob, if_neg (by omega), boot3_ob t (by omega) (by omega), bootK_ob, if_neg (by omega), bootT_ob, if_pos ⟨h0, h⟩]
end Go.Proofs.Ytdkjfalhalepgaa
/- Notifications (layer 16): signalled, polled, waited for, on the document's state; a sound state stays sound; no bit gets lost; as mathematics. No dump is read here. -/
namespace Go.Proofs.Ytdkjfalhalepgaa
open Go.RowKit
structure NtAt (S : RSt) (o : Int) : Prop where
  rng : 0 ≤ o ∧ o < 32
  kind : (S.ob o).kind = 4
def ntwS (S : RSt) (o t : Int) : RSt := if (S.ob o).word = 0 then blockS S o t 5 else wordS S o 0
section
variable {S : RSt} {o t b n w r : Int} {l : List Int}
theorem NtAt.zs (h : NtAt S o) : S.zs o := ⟨h.rng, .inr h.kind⟩
/-- a notification's word changes -/
theorem Eok.word (h : Eok S) (_ : NtAt S o) (hn : b40 n) : Eok (wordS S o n) := by
  have hk : ∀ i, ((wordS S o n).ob i).kind = (S.ob i).kind := fun i => by simp only [wordS_kind]
  have hT := Thr_same hk
  refine ⟨h.sok.wordS hn, ?_, ⟨fun s c hs h1 h2 => ?_, fun c s hc h1 h2 => ?_, fun c hc => ?_, fun c hc => ?_⟩, fun t ht => ?_, fun t ht h3 => ?_⟩
  · refine h.ei.quiet hk (fun i => ?_) (fun i hi => ?_) (fun i hi => ?_) (fun i _ => ?_) (fun i _ hb => ?_)
    · simp only [wordS_queue]
    · simp only [wordS_on]
    · simp only [wordS_state]
      exact .inl trivial
    · simp only [wordS_wait]
    · simp only [wordS_owing]
  · simp only [wordS_owing, wordS_owes] at h1 ⊢
    obtain ⟨q1, q2⟩ := h.eii.a s c ((hT s).1 hs) h1 h2
    exact ⟨(hT c).2 q1, q2⟩
  · simp only [wordS_owing, wordS_owes] at h1 ⊢
    obtain ⟨q1, q2⟩ := h.eii.b c s ((hT c).1 hc) h1 h2
    exact ⟨(hT s).2 q1, q2⟩
  · simp only [wordS_state, wordS_owing]
    exact h.eii.r c ((hT c).1 hc)
  · simp only [wordS_owing, wordS_owes]
    exact h.eii.lo c ((hT c).1 hc)
  · simp only [wordS_prio]
    exact h.pr t ((hT t).1 ht)
  · simp only [wordS_state, wordS_owes] at h3 ⊢
    exact h.rv t ((hT t).1 ht) h3
theorem Eok.ntw (h : Eok S) (ho : NtAt S o) (ht : S.Thr t) (h1 : (S.ob t).state = 1) : Eok (ntwS S o t) := by
  unfold ntwS
  split
  · have hf := h.sok.obs t.toNat (by have := ht.1; omega)
    rw [show ((t.toNat : Nat) : Int) = t by have := ht.1; omega] at hf
    have hg := h.sok.obs o.toNat (by have := ho.rng; omega)
    rw [show ((o.toNat : Nat) : Int) = o by have := ho.rng; omega] at hg
    have q := h.blockQ (n := 5) (c := (S.ob o).wait) ho.zs ht h1 ⟨by decide, by decide⟩ hf.word hf.badge hg.wait (.inr ⟨ho.kind, rfl⟩) (fun _ => .inr rfl) (fun e => by omega)
    have hte : t ≠ o := fun e => by have := ht.2; rw [e, ho.kind] at this; omega
    have e : waitS (saidS (blockS S o t 5) t (S.ob t).word (S.ob t).badge) o (S.ob o).wait = blockS S o t 5 := by
      refine RSt.ext' rfl rfl rfl (fun i => ?_) rfl rfl
      simp only [waitS, saidS, blockS, onS, pushS, upO_at]
      by_cases c1 : i = t
      · subst c1
        simp [hte]
      · by_cases c2 : i = o
        · subst c2
          simp [c1]
        · simp [c1, c2]
    rw [e] at q
    exact q
  · exact h.word ho ⟨by decide, by decide⟩
end
end Go.Proofs.Ytdkjfalhalepgaa
/- The boot state is sound (layers 15 to 22), as mathematics. No dump is read here. -/
namespace Go.Proofs.Ytdkjfalhalepgaa
open Go.RowKit
theorem boot_cases (n : Nat) (o : Int) : ((0 ≤ o ∧ o < n) ∧ (bootS n).ob o = thrO n) ∨ (¬ (0 ≤ o ∧ o < n) ∧ ((bootS n).ob o).kind ≠ 5 ∧ ((bootS n).ob o).wait = 0 ∧ ((bootS n).ob o).word = 0) := by
  by_cases h : 0 ≤ o ∧ o < n
  · exact .inl ⟨h, bootS_thr n h.1 h.2⟩
  refine .inr ⟨h, ?_⟩
  have e3 : ∀ o : Int, ((boot3 n).ob o).wait = ((bootK n 8).ob o).wait ∧ ((boot3 n).ob o).word = ((bootK n 8).ob o).word ∧ ((boot3 n).ob o).kind = ((bootK n 8).ob o).kind := fun o => by
    show ((setF (setF (setF (bootK n 8).ob ((n : Nat) : Int) _) ((n + 1 : Nat) : Int) _) ((n + 1 : Nat) : Int) _ o)).wait = _ ∧ (setF (setF (setF (bootK n 8).ob ((n : Nat) : Int) _) ((n + 1 : Nat) : Int) _) ((n + 1 : Nat) : Int) _ o).word = _ ∧ (setF (setF (setF (bootK n 8).ob ((n : Nat) : Int) _) ((n + 1 : Nat) : Int) _) ((n + 1 : Nat) : Int) _ o).kind = _
    by_cases h1 : o = ((n + 1 : Nat) : Int)
    · rw [h1, setF_self]
      show (setF (setF (bootK n 8).ob ((n : Nat) : Int) _) ((n + 1 : Nat) : Int) _ ((n + 1 : Nat) : Int)).wait = _ ∧ (setF (setF (bootK n 8).ob ((n : Nat) : Int) _) ((n + 1 : Nat) : Int) _ ((n + 1 : Nat) : Int)).word = _ ∧ (setF (setF (bootK n 8).ob ((n : Nat) : Int) _) ((n + 1 : Nat) : Int) _ ((n + 1 : Nat) : Int)).kind = _
      rw [setF_self]
      show (setF (bootK n 8).ob ((n : Nat) : Int) _ ((n + 1 : Nat) : Int)).wait = _ ∧ (setF (bootK n 8).ob ((n : Nat) : Int) _ ((n + 1 : Nat) : Int)).word = _ ∧ (setF (bootK n 8).ob ((n : Nat) : Int) _ ((n + 1 : Nat) : Int)).kind = _
      rw [setF_ne (by omega)]
      exact ⟨rfl, rfl, rfl⟩
    · rw [setF_ne h1, setF_ne h1]
      by_cases h0 : o = ((n : Nat) : Int)
      · rw [h0, setF_self]; exact ⟨rfl, rfl, rfl⟩
      · rw [setF_ne h0]; exact ⟨rfl, rfl, rfl⟩
  have eb : ((bootK n 8).ob o).kind ≠ 5 ∧ ((bootK n 8).ob o).wait = 0 ∧ ((bootK n 8).ob o).word = 0 := by
    rw [bootK_ob]
    split
    · refine ⟨?_, rfl, rfl⟩
      show kindB _ ≠ 5
      unfold kindB
      split <;> decide
    · rw [bootT_ob, if_neg h]
      exact ⟨by decide, rfl, rfl⟩
  rw [bootS_ob]
  obtain ⟨q1, q2, q3⟩ := e3 o
  split
  · exact ⟨by show ((boot3 n).ob o).kind ≠ 5; rw [q3]; exact eb.1, by show ((boot3 n).ob o).wait = 0; rw [q1]; exact eb.2.1, by show ((boot3 n).ob o).word = 0; rw [q2]; exact eb.2.2⟩
  · exact ⟨by rw [q3]; exact eb.1, by rw [q1]; exact eb.2.1, by rw [q2]; exact eb.2.2⟩
section
variable {n : Nat} {t : Int}
theorem boot_thr (hn : n ≤ 7) : (bootS n).Thr t ↔ 0 ≤ t ∧ t < n := by
  unfold RSt.Thr
  rcases boot_cases n t with ⟨h, e⟩ | ⟨h, e, -⟩
  · rw [e]
    exact ⟨fun _ => h, fun _ => ⟨by omega, rfl⟩⟩
  · exact ⟨fun z => absurd z.2 e, fun z => absurd z h⟩
theorem boot_of (hn : n ≤ 7) (ht : (bootS n).Thr t) : (bootS n).ob t = thrO n := bootS_thr n ((boot_thr hn).1 ht).1 ((boot_thr hn).1 ht).2
theorem boot_qfit (hn : n ≤ 7) : (bootS n).QFit := by
  have hb := (boot_plainly hn).bare
  exact ⟨fun o ho => absurd (hb o) ho, fun o t ht => by rw [hb o] at ht; simp at ht, fun o => by rw [hb o]; exact List.nodup_nil, fun o p t ht => by rw [hb o] at ht; simp at ht⟩
theorem boot_eok (hn : n ≤ 7) : Eok (bootS n) := by
  have hb := (boot_plainly hn).bare
  refine ⟨boot_sok hn, ⟨boot_qfit hn, fun i hi o h0 => ?_, fun i hi => ?_, fun i hi => ?_, fun o t ht => by rw [hb o] at ht; simp at ht, fun o ho hk => ?_⟩, ⟨fun s c hs h1 h2 => ?_, fun c s hc h1 h2 => ?_, fun c hc => ?_, fun c hc => ?_⟩, fun t ht => ?_, fun t ht h3 => ?_⟩
  · rw [boot_of hn hi, hb o]
    exact ⟨fun e => by have e : (-1 : Int) = o := e; omega, fun e => by simp at e⟩
  · rw [boot_of hn hi]
    exact ⟨fun e => by have e : (0 : Int) ≤ -1 := e; omega, fun e => absurd e (blk_no1 (.inl rfl))⟩
  · rw [boot_of hn hi]; exact Int.le_refl _
  · have hw : ((bootS n).ob o).wait = 0 := by
      rcases boot_cases n o with ⟨h, e⟩ | ⟨h, -, e, -⟩
      · rw [e]; rfl
      · exact e
    rw [hb o, hw]
    exact ⟨⟨fun _ => rfl, fun _ => rfl⟩, by decide, by decide⟩
  · rw [boot_of hn hs] at h1
    have h1 : (-1 : Int) = c := h1
    omega
  · rw [boot_of hn hc] at h1
    have h1 : (-1 : Int) = s := h1
    omega
  · rw [boot_of hn hc]
    exact ⟨fun e => by have e : (1 : Int) = 4 := e; omega, fun e => by have e : (0 : Int) ≤ -1 := e; omega⟩
  · rw [boot_of hn hc]; exact ⟨Int.le_refl _, Int.le_refl _⟩
  · rw [boot_of hn ht]; exact ⟨by show (0 : Int) ≤ 0; omega, by show (0 : Int) ≤ 255; omega⟩
  · rw [boot_of hn ht] at h3
    have h3 : (1 : Int) = 3 := h3
    omega
theorem boot_ep (hn : n ≤ 7) : EpAt (bootS n) ((n : Int) + 3) := ⟨by omega, by rw [bootS_far n (by omega), if_pos (by omega), show (((n : Int) + 3) - (n : Int)).toNat = 3 by omega]; rfl⟩
end
end Go.Proofs.Ytdkjfalhalepgaa
/- What the laws of threads keep (layer 17): kinds, roots that may be, a notification without a word; as mathematics. No dump is read here. -/
namespace Go.Proofs.Ytdkjfalhalepgaa
open Go.RowKit
/-- kinds and roots are as they were, words too, but of threads -/
structure Alike (S S' : RSt) : Prop where
  kind : ∀ i, (S'.ob i).kind = (S.ob i).kind
  root : ∀ i, (S'.ob i).root = (S.ob i).root
  word : ∀ i, (S.ob i).kind ≠ 5 → (S'.ob i).word = (S.ob i).word
  node : ∀ i, (S'.ob i).first = (S.ob i).first ∧ (S'.ob i).radix = (S.ob i).radix
/-- where its slots lie, a CNode is fine -/
def Nodes (S : RSt) : Prop := ∀ o : Int, (0 ≤ o ∧ o < 32) → (S.ob o).kind = 2 → (S.ob o).radix ≤ 5 ∧ (S.ob o).first ≤ 96 - 2 ^ (S.ob o).radix.toNat
section
variable {S S' S2 : RSt} {t o n b r c ep x w : Int} {l : List Int} {f : RObj → RObj} {call : Bool}
theorem Alike.refl (S : RSt) : Alike S S := ⟨fun _ => rfl, fun _ => rfl, fun _ _ => rfl, fun _ => ⟨rfl, rfl⟩⟩
theorem Alike.trans (h : Alike S S') (k : Alike S' S2) : Alike S S2 := ⟨fun i => (k.kind i).trans (h.kind i), fun i => (k.root i).trans (h.root i), fun i e => (k.word i (by rw [h.kind]; exact e)).trans (h.word i e), fun i => ⟨(k.node i).1.trans (h.node i).1, (k.node i).2.trans (h.node i).2⟩⟩
theorem Alike.up (h1 : ∀ x, (f x).kind = x.kind) (h2 : ∀ x, (f x).root = x.root) (h3 : (∀ x, (f x).word = x.word) ∨ (S.ob o).kind = 5) (h4 : ∀ x, (f x).first = x.first ∧ (f x).radix = x.radix := by intro x; exact ⟨rfl, rfl⟩) : Alike S (S.upO o f) :=
  ⟨fun _ => up_same RObj.kind h1, fun _ => up_same RObj.root h2, fun i e => by
    rcases h3 with h3 | h3
    · exact up_same RObj.word h3
    · rw [upO_at, if_neg (fun z => e (by rw [z]; exact h3))],
    fun _ => ⟨up_same RObj.first fun x => (h4 x).1, up_same RObj.radix fun x => (h4 x).2⟩⟩
theorem Alike.nodes (a : Alike S S') (h : Nodes S) : Nodes S' := fun o ho hk => by
  rw [(a.node o).1, (a.node o).2]
  exact h o ho (by rw [← a.kind]; exact hk)
theorem Alike.pop (S : RSt) (o : Int) : Alike S (popS S o) := Alike.up (fun _ => rfl) (fun _ => rfl) (.inl fun _ => rfl)
theorem Alike.wait (S : RSt) (o n : Int) : Alike S (waitS S o n) := Alike.up (fun _ => rfl) (fun _ => rfl) (.inl fun _ => rfl)
theorem Alike.rest (S : RSt) (o : Int) : Alike S (restS S o) := by
  unfold restS
  split
  · exact Alike.wait S o 0
  · exact Alike.refl S
theorem Alike.wake (h : (S.ob t).kind = 5) (w b : Int) : Alike S (wakeS S t w b) := Alike.up (fun _ => rfl) (fun _ => rfl) (.inr h)
theorem Alike.said (h : (S.ob t).kind = 5) (w b : Int) : Alike S (saidS S t w b) := Alike.up (fun _ => rfl) (fun _ => rfl) (.inr h)
theorem Alike.owes (S : RSt) (s c : Int) : Alike S (owesS S s c) := Alike.up (fun _ => rfl) (fun _ => rfl) (.inl fun _ => rfl)
theorem Alike.owed (S : RSt) (c s : Int) : Alike S (owedS S c s) := Alike.up (fun _ => rfl) (fun _ => rfl) (.inl fun _ => rfl)
theorem Alike.owe (S : RSt) (s c : Int) : Alike S (oweS S s c) := (Alike.owed S c s).trans (Alike.owes _ s c)
theorem Alike.owing (S : RSt) (s c : Int) : Alike S (owingS S s c) := Alike.up (fun _ => rfl) (fun _ => rfl) (.inl fun _ => rfl)
theorem Alike.push (S : RSt) (o t : Int) : Alike S (pushS S o t) := Alike.up (fun _ => rfl) (fun _ => rfl) (.inl fun _ => rfl)
theorem Alike.on (S : RSt) (t o n : Int) : Alike S (onS S t o n) := Alike.up (fun _ => rfl) (fun _ => rfl) (.inl fun _ => rfl)
theorem Alike.block (S : RSt) (o t n : Int) : Alike S (blockS S o t n) := (Alike.push S o t).trans (Alike.on _ t o n)
theorem Alike.stop (S : RSt) (t : Int) : Alike S (stopS S t) := Alike.up (fun _ => rfl) (fun _ => rfl) (.inl fun _ => rfl)
theorem Alike.queue (S : RSt) (o : Int) (l : List Int) : Alike S (queueS S o l) := Alike.up (fun _ => rfl) (fun _ => rfl) (.inl fun _ => rfl)
theorem Alike.prio (S : RSt) (t n : Int) : Alike S (prioS S t n) := Alike.up (fun _ => rfl) (fun _ => rfl) (.inl fun _ => rfl)
theorem Alike.out (S : RSt) (o t : Int) : Alike S (outS S o t) := by
  unfold outS
  split
  · exact (Alike.queue S o _).trans (Alike.rest _ o)
  · exact Alike.queue S o _
theorem Alike.cancel (S : RSt) (t : Int) : Alike S (cancelS S t) := by
  unfold cancelS
  refine Alike.trans ?_ (Alike.stop _ t)
  split
  · refine Alike.trans ?_ (Alike.owing _ _ _)
    split
    · exact Alike.owes S _ _
    · exact Alike.refl S
  · split
    · exact Alike.out S _ _
    · exact Alike.refl S
theorem Alike.send (h : Eok S) (he : EpAt S ep) (ht : S.Thr t) (n b : Int) (call : Bool) : Alike S (sendS S ep t b n call) := by
  unfold sendS
  split
  · next h2 =>
    obtain ⟨r, l, hq⟩ := h.queue_wait ⟨he.rng, he.kind⟩ (by omega)
    have hr := h.ei.thr (o := ep) (t := r) (by rw [hq]; simp)
    rw [headQ_is hq]
    have q := ((Alike.pop S ep).trans (Alike.wake (S := popS S ep) (t := r) (by rw [popS_kind]; exact hr.2) n b)).trans (Alike.rest _ ep)
    split
    · exact q.trans (Alike.owe _ _ _)
    · exact q
  · have q := (Alike.block S ep t (if call = true then 6 else 2))
    exact (q.trans (Alike.said (by rw [q.kind]; exact ht.2) n b)).trans (Alike.wait _ ep 1)
theorem Alike.recv (h : Eok S) (he : EpAt S ep) : Alike S (recvS S ep t) := by
  unfold recvS
  split
  · exact Alike.refl S
  · split
    · next h2 =>
      obtain ⟨r, l, hq⟩ := h.queue_wait ⟨he.rng, he.kind⟩ (by omega)
      have hr := h.ei.thr (o := ep) (t := r) (by rw [hq]; simp)
      rw [headQ_is hq]
      refine Alike.trans ?_ (Alike.rest _ ep)
      split
      · exact (Alike.pop S ep).trans (Alike.owe _ _ _)
      · exact (Alike.pop S ep).trans (Alike.wake (by rw [popS_kind]; exact hr.2) 0 0)
    · exact (Alike.block S ep t 3).trans (Alike.wait _ ep 2)
theorem Alike.ans (h : Eok S) (ht : S.Thr t) (n : Int) : Alike S (ansS S t n) := by
  unfold ansS
  split
  · exact Alike.refl S
  · next h0 =>
    have hc := (h.eii.a t _ ht rfl (by omega)).1
    have q := (Alike.owes S t (-1)).trans (Alike.owing _ (S.ob t).owes (-1))
    exact q.trans (Alike.wake (by rw [q.kind]; exact hc.2) n 0)
theorem Alike.ntw (hw : (S.ob o).word = 0) : Alike S (ntwS S o t) := by
  unfold ntwS
  rw [if_pos hw]
  exact Alike.block S o t 5
end
/-- what TcbPlays keeps: of n threads, the Endpoint n + 3, the notification n + 4 -/
structure TP (n : Nat) (S : RSt) : Prop where
  ok : Eok S
  n7 : n ≤ 7
  kd : ∀ i, (S.ob i).kind = ((bootS n).ob i).kind
  wd : (S.ob ((n : Int) + 4)).word = 0
  rt : ∀ t, S.Thr t → (S.ob t).root.may
  nd : Nodes S
section
variable {n : Nat} {S S' : RSt} {t : Int} {c : Cp}
theorem TP.thr (h : TP n S) : S.Thr t ↔ 0 ≤ t ∧ t < n := by
  have e : S.Thr t ↔ (bootS n).Thr t := by unfold RSt.Thr; rw [h.kd]
  rw [e]
  exact boot_thr h.n7
theorem TP.ep (h : TP n S) : EpAt S ((n : Int) + 3) := ⟨by have := h.n7; omega, by rw [h.kd]; exact (boot_ep h.n7).kind⟩
theorem TP.nt (h : TP n S) : NtAt S ((n : Int) + 4) := ⟨by have := h.n7; omega, by
  have hn := h.n7
  rw [h.kd, bootS_far n (by omega), if_pos (by omega), show (((n : Int) + 4) - (n : Int)).toNat = 4 by omega]
  rfl⟩
theorem TP.next (h : TP n S) (a : Alike S S') (k : Eok S') : TP n S' :=
  ⟨k, h.n7, fun i => (a.kind i).trans (h.kd i), (a.word _ (by rw [h.nt.kind]; decide)).trans h.wd, fun t ht => by
    rw [a.root]
    exact h.rt t ⟨ht.1, by rw [← a.kind]; exact ht.2⟩, a.nodes h.nd⟩
theorem TP.root (h : TP n S) (ht : S.Thr t) (hc : c.may) : TP n (rootS S t c) := by
  refine ⟨h.ok.root ht (Cp.may.small hc), h.n7, fun i => by rw [rootS_kind]; exact h.kd i, by rw [rootS_word]; exact h.wd, fun x hx => ?_, fun o ho hk => ?_⟩
  · rw [rootS_root]
    split
    · exact hc
    · exact h.rt x ⟨hx.1, by have := hx.2; rwa [rootS_kind] at this⟩
  · have e1 : ((rootS S t c).ob o).first = (S.ob o).first := up_same RObj.first fun _ => rfl
    have e2 : ((rootS S t c).ob o).radix = (S.ob o).radix := up_same RObj.radix fun _ => rfl
    rw [rootS_kind] at hk
    rw [e1, e2]
    exact h.nd o ho hk
theorem boot_nodes : ∀ n : Nat, n < 8 → ∀ o : Nat, o < 32 → ((bootS n).ob (o : Int)).kind = 2 → ((bootS n).ob (o : Int)).radix ≤ 5 ∧ ((bootS n).ob (o : Int)).first ≤ 96 - 2 ^ ((bootS n).ob (o : Int)).radix.toNat := by decide +kernel
theorem boot_tp (hn : n ≤ 7) : TP n (bootS n) := by
  refine ⟨boot_eok hn, hn, fun _ => rfl, ?_, fun t ht => ?_, fun o ho hk => ?_⟩
  · rw [bootS_far n (by omega), if_pos (by omega)]
    rfl
  · rw [boot_of hn ht]
    show (rootC n).may
    have hn8 : n = 0 ∨ n = 1 ∨ n = 2 ∨ n = 3 ∨ n = 4 ∨ n = 5 ∨ n = 6 ∨ n = 7 := by omega
    rcases hn8 with rfl | rfl | rfl | rfl | rfl | rfl | rfl | rfl <;> decide
  · obtain ⟨a, rfl, ha⟩ := nat_of ho
    exact boot_nodes n (by omega) a ha hk
end
end Go.Proofs.Ytdkjfalhalepgaa
/- Package tcb's functions as mathematics, of any view (layers 17 to 22). No dump is read here. -/
namespace Go.Proofs.Ytdkjfalhalepgaa
open Go.RowKit
def tprioP (t : Int) : Vp Int := (fieldP t 5).bind fun n => .ret (n % 256)
/-- the errors -/
def tsusP (t : Int) : Vp Int := (isP t 5).bind fun q => if q = true then (fieldP t 1).bind fun x => if x = 0 then .ret 10 else (ecancP t).bind fun _ => .ret 0 else .ret 2
def tresP (t : Int) : Vp Int := (isP t 5).bind fun q => if q = true then (fieldP t 1).bind fun x => if x = 0 then (ewakeP t 0 0).bind fun _ => .ret 0 else .ret 10 else .ret 2
def tpriP (t n : Int) : Vp Int := (isP t 5).bind fun q => if q = true then (if n < 0 ∨ 255 < n then .ret 1 else (fieldP t 5).bind fun x => (tprioP t).bind fun y => (putP t 5 (x - y + n)).bind fun _ => .ret 0) else .ret 2
def tsetP (t : Int) (c : Cp) : Vp Int := (isP t 5).bind fun q => if q = true then (if c.may then (fineP c).bind fun f => if f = true then (putP t 7 c.word).bind fun _ => .ret 0 else .ret 5 else .ret 5) else .ret 2
/-- the root -/
def trootP (t : Int) : Vp Cp := (isP t 5).bind fun q => if q = true then (fieldP t 7).bind fun x => .ret (getC x) else .ret Cp.zero
/-- is it a better one -/
def tbetP (t b : Int) (f : Bool) : Vp Bool := (isP t 5).bind fun q => if q = true then (fieldP t 1).bind fun x => if x = 1 then (if f = true then (tprioP t).bind fun y => (tprioP b).bind fun z => .ret (decide (z < y)) else .ret true) else .ret false else .ret false
/-- of so many more objects, behind a best one -/
def thiP : Nat → Int → Int → Bool → Vp (Int × Bool)
  | 0, _, b, f => .ret (b, f)
  | n + 1, t, b, f => (tbetP t b f).bind fun q => if q = true then thiP n (t + 1) t true else thiP n (t + 1) b f
theorem may_word {c : Cp} (h : c.may) : 0 ≤ c.word ∧ c.word ≤ 1099511627776 := by
  obtain ⟨h1, h2, h3, h4, h5, h6, h7, h8, h9, h10, h11, h12⟩ := h.small
  unfold Cp.word
  omega
end Go.Proofs.Ytdkjfalhalepgaa
