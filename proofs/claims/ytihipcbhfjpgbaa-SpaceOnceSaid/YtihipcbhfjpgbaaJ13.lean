/- What package tcb's calls come to on words that tell a sound state (layers 17 to 22), as mathematics. No dump is read here. -/
import Derived.Test.YtihipcbhfjpgbaaJ8
import Derived.Test.YtihipcbhfjpgbaaQueV
import Derived.Test.YtihipcbhfjpgbaaMem
import Derived.Test.YtihipcbhfjpgbaaJ7
import Derived.Test.YtihipcbhfjpgbaaJ9
import Derived.Test.YtihipcbhfjpgbaaJ1
import Derived.Laws.BitsLemmas
import Derived.IntWalk
import Derived.Test.YtihipcbhfjpgbaaJ12
import Derived.Test.YtihipcbhfjpgbaaJ11
import Derived.Test.YtihipcbhfjpgbaaJ4
import Derived.Test.YtihipcbhfjpgbaaJ6
import Derived.Test.YtihipcbhfjpgbaaJ3
import Derived.Test.YtihipcbhfjpgbaaSpUp
import Derived.Test.YtihipcbhfjpgbaaSpB
namespace Go.Proofs.Ytihipcbhfjpgbaa
open Go.RowKit
section
variable {L L' : List Int} {S : RSt} {t o n k x : Int} {c : Cp}
theorem isO_in (h : isO S t k = true) : (0 ≤ t ∧ t < 32) ∧ (S.ob t).kind = k := by
  have e : 0 ≤ t ∧ t ≤ 31 ∧ (S.ob t).kind = k := of_decide_eq_true h
  exact ⟨⟨e.1, by omega⟩, e.2.2⟩
theorem Wok.isAny (h : Wok L S) (t : Int) (hk : 0 ≤ k) : Go.Proofs.Ytihipcbhfjpgbaa.isL L t k = isO S t k := by
  by_cases ht : 0 ≤ t ∧ t < 32
  · rw [h.isL ht k hk]
    unfold isO
    by_cases e : (S.ob t).kind = k
    · rw [decide_eq_true e, decide_eq_true ⟨ht.1, by omega, e⟩]
    · rw [decide_eq_false e, decide_eq_false (fun z => e z.2.2)]
  · have e1 : Go.Proofs.Ytihipcbhfjpgbaa.isL L t k = false := by
      unfold Go.Proofs.Ytihipcbhfjpgbaa.isL
      rw [show objB t 0 = false from objB_no.2 (.inl (by omega))]
      rfl
    have e2 : isO S t k = false := by
      unfold isO
      exact decide_eq_false (fun z => ht ⟨z.1, by omega⟩)
    rw [e1, e2]
theorem Wok.isPt (h : Wok L S) (t : Int) (hk : 0 ≤ k) : (isP t k).run machP L = (isO S t k, L) := by rw [isP_plain, h.isAny t hk]
end
end Go.Proofs.Ytihipcbhfjpgbaa
/- Package endp's calls on plain words that tell a sound state (layer 15). -/
namespace Go.Proofs.Ytihipcbhfjpgbaa
open Go.RowKit
abbrev pvw (g : Nat) : Value := .iface PwT (.slice (some ⟨g, 0, none⟩) 738 738)
end Go.Proofs.Ytihipcbhfjpgbaa
/- Package space's calls on plain words that tell a sound state (layer 18). -/
namespace Go.Proofs.Ytihipcbhfjpgbaa
open Go.RowKit
/-- what is mapped at a page, its rights, whether -/
def pageA (S : RSt) (s p : Int) : Int × Int × Bool := if isO S s 7 = true ∧ (0 ≤ p ∧ p < 4) ∧ 0 ≤ (S.ob s).at p then ((S.ob s).at p, (S.ob s).with p, true) else (0, 0, false)
section
variable {L L' : List Int} {S : RSt} {f s p r : Int}
theorem Wok.spage (hw : Wok L S) (h : SP S) (s p : Int) : (spageP s p).run machP L = (pageA S s p, L) := by
  unfold spageP pageA
  rw [Vp.run_bind_is (hw.isPt s (by decide))]
  cases e : isO S s 7 with
  | false => rw [if_pos (.inl rfl), if_neg (by simp), Vp.run_ret]
  | true =>
    by_cases hp : 0 ≤ p ∧ p < 4
    · obtain ⟨hs, hk⟩ := isO_in e
      have hs' : 4 ≤ s ∧ s < 6 := by rw [h.isS] at e; exact of_decide_eq_true e
      rw [if_neg (by simp; omega), Vp.run_bind_is fieldP_plain, hw.pgL hs hk hp, Vp.run_ret]
      unfold pgW
      rcases h.sp s p hs' hp with ⟨e1, e2⟩ | ⟨q1, q2, q3⟩
      · rw [e1, if_neg (show ¬ ((0 : Int) ≤ -1) by decide), if_neg (show ¬ (belowB (0 / 8 - 1) 32 = true) by decide), if_neg (fun z => absurd z.2.2 (by decide))]
      · rw [if_pos q1.1, show (8 * ((S.ob s).at p + 1) + (S.ob s).with p) / 8 - 1 = (S.ob s).at p by omega, show (8 * ((S.ob s).at p + 1) + (S.ob s).with p) % 8 = (S.ob s).with p by omega,
          if_pos (show belowB ((S.ob s).at p) 32 = true from belowB_yes.2 ⟨q1.1, by omega⟩), if_pos (show true = true ∧ (0 ≤ p ∧ p < 4) ∧ 0 ≤ (S.ob s).at p from ⟨rfl, hp, q1.1⟩)]
    · rw [if_pos (by omega), if_neg (fun z => hp z.2.1), Vp.run_ret]
theorem Wok.refF (hw : Wok L S) (h : SP S) (hf : 0 ≤ f ∧ f < 4) : (refP f 1).run machP L = (if 0 ≤ (S.ob f).inn then ((S.ob f).inn, true) else (0, false), L) := by
  rw [refP_plain, refL_of (hw.frL ⟨hf.1, by omega⟩ (h.k6 hf)).1 (by rcases h.fr f hf with q | q <;> omega)]
theorem Wok.smap (hw : Wok L S) (h : SP S) (f s p r : Int) : ∃ L', (smapP f s p r).run machP L = (mapN S f s p r, L') ∧ Wok L' (mapS S f s p r) := by
  unfold smapP
  have e0 : mapN S f s p r = if isO S f 6 = true ∧ isO S s 7 = true then (if p < 0 ∨ 3 < p ∨ r < 0 ∨ 7 < r then 1 else if 0 ≤ (S.ob f).inn then 10 else if 0 ≤ (S.ob s).at p then 8 else 0) else 2 := rfl
  have e9 : mapS S f s p r = if mapN S f s p r = 0 then innS (pgS S s p f r) f s p else S := rfl
  rw [Vp.run_bind_is (hw.isPt f (by decide))]
  cases ef : isO S f 6 with
  | false =>
    rw [ef, if_neg (by simp)] at e0
    rw [e0, if_neg (by decide)] at e9
    exact ⟨L, by rw [if_pos rfl, Vp.run_ret, e0], by rw [e9]; exact hw⟩
  | true =>
  rw [if_neg (by simp), Vp.run_bind_is (hw.isPt s (by decide))]
  cases es : isO S s 7 with
  | false =>
    rw [es, if_neg (by simp)] at e0
    rw [e0, if_neg (by decide)] at e9
    exact ⟨L, by rw [if_pos rfl, Vp.run_ret, e0], by rw [e9]; exact hw⟩
  | true =>
  rw [if_neg (by simp)]
  rw [if_pos ⟨ef, es⟩] at e0
  have hf : 0 ≤ f ∧ f < 4 := by have := ef; rw [h.isF] at this; exact of_decide_eq_true this
  have hs : 4 ≤ s ∧ s < 6 := by have := es; rw [h.isS] at this; exact of_decide_eq_true this
  by_cases hb : p < 0 ∨ 3 < p ∨ r < 0 ∨ 7 < r
  · rw [if_pos hb] at e0
    rw [e0, if_neg (by decide)] at e9
    exact ⟨L, by rw [if_pos hb, Vp.run_ret, e0], by rw [e9]; exact hw⟩
  rw [if_neg hb] at e0 ⊢
  rw [Vp.run_bind_is (hw.refF h hf)]
  by_cases hi : 0 ≤ (S.ob f).inn
  · rw [if_pos hi] at e0 ⊢
    rw [e0, if_neg (by decide)] at e9
    exact ⟨L, by rw [if_pos rfl, Vp.run_ret, e0], by rw [e9]; exact hw⟩
  rw [if_neg hi] at e0 ⊢
  rw [if_neg (by simp), Vp.run_bind_is (hw.spage h s p)]
  have hp : 0 ≤ p ∧ p < 4 := by omega
  unfold pageA
  by_cases ha : 0 ≤ (S.ob s).at p
  · rw [if_pos ha] at e0
    rw [if_pos (show isO S s 7 = true ∧ (0 ≤ p ∧ p < 4) ∧ 0 ≤ (S.ob s).at p from ⟨es, hp, ha⟩)]
    rw [e0, if_neg (by decide)] at e9
    exact ⟨L, by rw [if_pos rfl, Vp.run_ret, e0], by rw [e9]; exact hw⟩
  rw [if_neg ha] at e0
  rw [if_neg (show ¬ (isO S s 7 = true ∧ (0 ≤ p ∧ p < 4) ∧ 0 ≤ (S.ob s).at p) from fun z => ha z.2.2), if_neg (by simp), Vp.run_bind_is putP_plain, Vp.run_bind_is putP_plain, Vp.run_bind_is putP_plain, Vp.run_ret, e0]
  rw [e0, if_pos rfl] at e9
  refine ⟨_, rfl, ?_⟩
  rw [e9]
  have q := hw.putPg (s := s) (p := p) (f := f) (r := r) ⟨by omega, by omega⟩ (h.k7 hs) hp ⟨by omega, by omega⟩ ⟨by omega, by omega⟩
  rw [show pgW f r = (f + 1) * 8 + r by unfold pgW; rw [if_pos hf.1]; omega] at q
  exact q.putInn (f := f) (s := s) (p := p) ⟨hf.1, by omega⟩ (by rw [pgS_kind]; exact h.k6 hf) ⟨by omega, by omega⟩ ⟨by omega, by omega⟩
theorem Wok.sunm (hw : Wok L S) (h : SP S) (f : Int) : ∃ L', (sunmP f).run machP L = (unmN S f, L') ∧ Wok L' (unmS S f) := by
  unfold sunmP
  have e0 : unmN S f = if isO S f 6 = true then (if (S.ob f).inn < 0 then 10 else 0) else 2 := rfl
  have e9 : unmS S f = if unmN S f = 0 then innS (pgS S (S.ob f).inn (S.ob f).page (-1) 0) f (-1) 0 else S := rfl
  rw [Vp.run_bind_is (hw.isPt f (by decide))]
  cases ef : isO S f 6 with
  | false =>
    rw [ef, if_neg (by simp)] at e0
    rw [e0, if_neg (by decide)] at e9
    exact ⟨L, by rw [if_pos rfl, Vp.run_ret, e0], by rw [e9]; exact hw⟩
  | true =>
  rw [if_pos ef] at e0
  have hf : 0 ≤ f ∧ f < 4 := by have := ef; rw [h.isF] at this; exact of_decide_eq_true this
  rw [if_neg (by simp), Vp.run_bind_is (hw.refF h hf)]
  by_cases hi : (S.ob f).inn < 0
  · rw [if_pos hi] at e0
    rw [e0, if_neg (by decide)] at e9
    exact ⟨L, by rw [if_neg (show ¬ (0 ≤ (S.ob f).inn) by omega), if_pos rfl, Vp.run_ret, e0], by rw [e9]; exact hw⟩
  rw [if_neg hi] at e0
  rw [if_pos (show 0 ≤ (S.ob f).inn by omega), if_neg (by simp), Vp.run_bind_is fieldP_plain, (hw.frL ⟨hf.1, by omega⟩ (h.k6 hf)).2, Vp.run_bind_is (hw.spage h (S.ob f).inn (S.ob f).page)]
  rw [e0, if_pos rfl] at e9
  rcases h.fr f hf with z | ⟨hs, hp, hat⟩
  · omega
  unfold pageA
  rw [if_pos (show isO S (S.ob f).inn 7 = true ∧ (0 ≤ (S.ob f).page ∧ (S.ob f).page < 4) ∧ 0 ≤ (S.ob (S.ob f).inn).at (S.ob f).page from ⟨by rw [h.isS]; exact decide_eq_true hs, hp, by omega⟩)]
  unfold sfreeP
  rw [if_pos (show true = true ∧ (S.ob (S.ob f).inn).at (S.ob f).page = f from ⟨rfl, hat⟩), Vp.run_bind_is putP_plain, Vp.run_bind_is putP_plain, Vp.run_bind_is putP_plain, Vp.run_ret, e0]
  refine ⟨_, rfl, ?_⟩
  rw [e9]
  have q := hw.putPg (s := (S.ob f).inn) (p := (S.ob f).page) (f := -1) (r := 0) ⟨by omega, by omega⟩ (h.k7 hs) hp ⟨by omega, by omega⟩ ⟨by omega, by omega⟩
  exact q.putInn (f := f) (s := -1) (p := 0) ⟨hf.1, by omega⟩ (by rw [pgS_kind]; exact h.k6 hf) ⟨by omega, by omega⟩ ⟨by omega, by omega⟩
end
section
variable {g : Nat} {w : World} {S : RSt}
theorem smap_is (hm : MemP g 738 UT w (wordsG S)) (h : SP S) (f s p r : Int) :
    Calls Try.prog 10 #[pvw g, .int .i64 f, .int .i64 s, .int .i64 p, .int .i64 r] w fun e w' => e = .returned (errV (mapN S f s p r)) ∧ MemP g 738 UT w' (wordsG (mapS S f s p r)) ∧ Only [g] w w' := by
  obtain ⟨L', h2, q⟩ := h.wok.smap h f s p r
  exact (vsmap_is (viewP g 738 738 UT) hm h2).mono fun e w' ⟨he, hm', ho⟩ => ⟨he, q.words ▸ hm', ho⟩
theorem sunm_is (hm : MemP g 738 UT w (wordsG S)) (h : SP S) (f : Int) :
    Calls Try.prog 8 #[pvw g, .int .i64 f] w fun e w' => e = .returned (errV (unmN S f)) ∧ MemP g 738 UT w' (wordsG (unmS S f)) ∧ Only [g] w w' := by
  obtain ⟨L', h2, q⟩ := h.wok.sunm h f
  exact (vsunm_is (viewP g 738 738 UT) hm h2).mono fun e w' ⟨he, hm', ho⟩ => ⟨he, q.words ▸ hm', ho⟩
theorem spage_is (hm : MemP g 738 UT w (wordsG S)) (h : SP S) {s p x r : Int} {q : Bool} (hA : pageA S s p = (x, r, q)) :
    Calls Try.prog 14 #[pvw g, .int .i64 s, .int .i64 p] w fun e w' => e = .returned (.tuple #[.int .i64 x, .int .i64 r, .bool q]) ∧ MemP g 738 UT w' (wordsG S) ∧ Only [g] w w' :=
  vspage_is (viewP g 738 738 UT) hm (hA ▸ h.wok.spage h s p)
end
end Go.Proofs.Ytihipcbhfjpgbaa
