/- Package endp's functions as mathematics, of any view (layers 15 and up). No dump is read here. -/
import Derived.Test.YtloeofhchfaieaaQueV
import Derived.Test.YtloeofhchfaieaaWokF
namespace Go.Proofs.Ytloeofhchfaieaa
open Go.RowKit
def etellP (t w b : Int) : Vp Unit := (putP t 3 (max w 0)).bind fun _ => putP t 4 (max b 0)
def eonP (t o : Int) : Vp Unit := (fieldP t 5).bind fun n => putP t 5 (o * 256 + n % 256)
def ewakeP (t w b : Int) : Vp Unit := (fieldP t 1).bind fun st => (if st = 4 then putP t 2 0 else .ret ()).bind fun _ => (putP t 1 1).bind fun _ => (eonP t 0).bind fun _ => etellP t w b
def eblockP (o t n : Int) : Vp Unit := if objB o 0 = true ∧ objB t 0 = true then (putP t 1 (max n 0)).bind fun _ => (eonP t (o + 1)).bind fun _ => (qpushP o t).bind fun _ => .ret () else .ret ()
end Go.Proofs.Ytloeofhchfaieaa
/- What package endp's calls come to on words that tell a sound state (layers 15 to 21), as mathematics. No dump is read here. -/
namespace Go.Proofs.Ytloeofhchfaieaa
open Go.RowKit
section
variable {L L' : List Int} {S : RSt} {t o n b r c ep : Int} {l : List Int} {f : RObj → RObj}
theorem Thr_up (hf : ∀ x, (f x).kind = x.kind) (ht : S.Thr t) : (S.upO o f).Thr t := ⟨ht.1, by rw [up_same RObj.kind hf]; exact ht.2⟩
theorem up_other (h : t ≠ o) : (S.upO o f).ob t = S.ob t := if_neg h
theorem up_self : (S.upO o f).ob o = f (S.ob o) := if_pos rfl
theorem max0 {n : Int} (h : 0 ≤ n) : max n 0 = n := by omega
theorem stS_queue (S : RSt) (t n i : Int) : ((stS S t n).ob i).queue = (S.ob i).queue := up_same RObj.queue (fun _ => rfl)
theorem atS_queue (S : RSt) (t n i : Int) : ((atS S t n).ob i).queue = (S.ob i).queue := up_same RObj.queue (fun _ => rfl)
/-- what it is blocked on is set -/
theorem Wok.eon (h : Wok L S) (ht : S.Thr t) (hp : 0 ≤ (S.ob t).prio ∧ (S.ob t).prio ≤ 255) (ho : m40' o) (hc : c = o + 1) : ∃ L', (eonP t c).run machP L = ((), L') ∧ Wok L' (atS S t o) := by
  have e := (h.thr ht).2.2.2.1
  have q := h.putOn ht ho hp.1
  unfold eonP
  rw [Vp.run_bind_is fieldP_plain, e, putP_plain, show c * 256 + ((S.ob t).prio + 256 * ((S.ob t).on + 1)) % 256 = (S.ob t).prio + 256 * (o + 1) by omega]
  exact ⟨_, rfl, q⟩
theorem Wok.etell (h : Wok L S) (ht : S.Thr t) (hn : b40 n) (hb : b40 b) : ∃ L', (etellP t n b).run machP L = ((), L') ∧ Wok L' (saidS S t n b) := by
  have q1 := h.putWord ht hn
  have q2 := q1.putBadge (Thr_up (fun _ => rfl) ht) hb
  have e : badgeS (wordS S t n) t b = saidS S t n b := RSt.ext' rfl rfl rfl (fun i => by simp only [badgeS, wordS, saidS, upO_at]; split <;> simp) rfl rfl
  rw [e] at q2
  unfold etellP
  rw [Vp.run_bind_is putP_plain, putP_plain, max0 hn.1, max0 hb.1]
  exact ⟨_, rfl, q2⟩
/-- one is woken that isn't owed a reply -/
theorem Wok.ewake (h : Wok L S) (ht : S.Thr t) (hp : 0 ≤ (S.ob t).prio ∧ (S.ob t).prio ≤ 255) (hs : (S.ob t).state ≠ 4) (hn : b40 n) (hb : b40 b) : ∃ L', (ewakeP t n b).run machP L = ((), L') ∧ Wok L' (wakeS S t n b) := by
  have q1 := h.putState ht (n := 1) ⟨by decide, by decide⟩
  have ht1 : (stS S t 1).Thr t := Thr_up (fun _ => rfl) ht
  obtain ⟨L2, e2, q2⟩ := q1.eon ht1 (o := -1) (c := 0) (by unfold stS; rw [up_self]; exact hp) ⟨by decide, by decide⟩ rfl
  obtain ⟨L3, e3, q3⟩ := q2.etell (Thr_up (fun _ => rfl) ht1) hn hb
  have e : saidS (atS (stS S t 1) t (-1)) t n b = wakeS S t n b := RSt.ext' rfl rfl rfl (fun i => by simp only [saidS, atS, stS, wakeS, upO_at]; split <;> simp) rfl rfl
  rw [e] at q3
  unfold ewakeP
  rw [Vp.run_bind_is fieldP_plain, (h.thr ht).1, if_neg hs, Vp.run_bind_is (Vp.run_ret ()), Vp.run_bind_is putP_plain, Vp.run_bind_is e2]
  exact ⟨_, e3, q3⟩
theorem Wok.eblock (h : Wok L S) (ho : S.zs o) (ht : S.ys t) (hf : ∀ p : Int, t ∉ (S.ob p).queue) (hp : 0 ≤ (S.ob t).prio ∧ (S.ob t).prio ≤ 255) (hn : b40 n) : ∃ L', (eblockP o t n).run machP L = ((), L') ∧ Wok L' (blockS S o t n) := by
  have hto : t ≠ o := fun e => by have := ho.2; rw [← e] at this; exact isQ_no5 this ht.2.1
  have ht0 : S.Thr t := ⟨ht.1, ht.2.1⟩
  have q1 := h.putState ht0 hn
  have ht1 : (stS S t n).Thr t := Thr_up (fun _ => rfl) ht0
  obtain ⟨L2, e2, q2⟩ := q1.eon ht1 (o := o) (c := o + 1) (by unfold stS; rw [up_self]; exact hp) ⟨by have := ho.1; omega, by have := ho.1; omega⟩ rfl
  have hk : ((atS (stS S t n) t o).ob o) = S.ob o := by unfold atS stS; rw [up_other (Ne.symm hto), up_other (Ne.symm hto)]
  have hk2 : ∀ p : Int, ((atS (stS S t n) t o).ob p).queue = (S.ob p).queue := fun p => by rw [atS_queue, stS_queue]
  obtain ⟨L3, e3, q3⟩ := q2.pushQ (o := o) (t := t) ⟨ho.1, by rw [hk]; exact ho.2⟩ ⟨ht.1, by unfold atS stS; rw [up_self, up_self]; exact ht.2⟩ (fun p => by rw [hk2]; exact hf p)
  have e : pushS (atS (stS S t n) t o) o t = blockS S o t n := RSt.ext' rfl rfl rfl (fun i => by
    simp only [pushS, atS, stS, blockS, onS, upO_at]
    by_cases c1 : i = o
    · subst c1
      simp [Ne.symm hto]
    · by_cases c2 : i = t
      · subst c2
        simp [c1]
      · simp [c1, c2]) rfl rfl
  rw [e] at q3
  unfold eblockP
  rw [if_pos ⟨objB_in ho.1 ⟨by omega, by omega⟩, objB_in ht.1 ⟨by omega, by omega⟩⟩, Vp.run_bind_is putP_plain, max0 hn.1, Vp.run_bind_is e2, Vp.run_bind_is e3]
  exact ⟨_, rfl, q3⟩
end
end Go.Proofs.Ytloeofhchfaieaa
