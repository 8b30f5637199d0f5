/- What package tcb's calls come to on words that tell a sound state (layers 17 to 22), as mathematics. No dump is read here. -/
import Derived.Test.YtdkjfalhalepgaaJ11
import Derived.Test.YtdkjfalhalepgaaJ3
import Derived.Test.YtdkjfalhalepgaaJ1
import Derived.Test.YtdkjfalhalepgaaJ10
import Derived.Test.YtdkjfalhalepgaaJ8
namespace Go.Proofs.Ytdkjfalhalepgaa
open Go.RowKit
section
variable {L L' : List Int} {S : RSt} {t o n k x : Int} {c : Cp}
theorem isO_in (h : isO S t k = true) : (0 ≤ t ∧ t < 32) ∧ (S.ob t).kind = k := by
  have e : 0 ≤ t ∧ t ≤ 31 ∧ (S.ob t).kind = k := of_decide_eq_true h
  exact ⟨⟨e.1, by omega⟩, e.2.2⟩
theorem Wok.isAny (h : Wok L S) (t : Int) (hk : 0 ≤ k) : Go.Proofs.Ytdkjfalhalepgaa.isL L t k = isO S t k := by
  by_cases ht : 0 ≤ t ∧ t < 32
  · rw [h.isL ht k hk]
    unfold isO
    by_cases e : (S.ob t).kind = k
    · rw [decide_eq_true e, decide_eq_true ⟨ht.1, by omega, e⟩]
    · rw [decide_eq_false e, decide_eq_false (fun z => e z.2.2)]
  · have e1 : Go.Proofs.Ytdkjfalhalepgaa.isL L t k = false := by
      unfold Go.Proofs.Ytdkjfalhalepgaa.isL
      rw [show objB t 0 = false from objB_no.2 (.inl (by omega))]
      rfl
    have e2 : isO S t k = false := by
      unfold isO
      exact decide_eq_false (fun z => ht ⟨z.1, by omega⟩)
    rw [e1, e2]
theorem Wok.isPt (h : Wok L S) (t : Int) (hk : 0 ≤ k) : (isP t k).run machP L = (isO S t k, L) := by rw [isP_plain, h.isAny t hk]
/-- a CNode's fields -/
theorem Wok.nodL (h : Wok L S) (ho : 0 ≤ o ∧ o < 32) (hk : (S.ob o).kind = 2) : fieldL L o 1 = (S.ob o).first ∧ fieldL L o 2 = (S.ob o).radix := by
  obtain ⟨a, rfl, ha⟩ := nat_of ho
  have hf := h.sok.obs a ha
  have w1 := hf.first
  have w2 := hf.radix
  have hq : ¬ (S.ob (a : Int)).isQ := fun e => by
    unfold RObj.isQ at e
    omega
  have e1 : fldW (S.ob (a : Int)) 1 = (S.ob (a : Int)).first := by simp [fldW, kindF, putF, ow, hk]
  have e2 : fldW (S.ob (a : Int)) 2 = (S.ob (a : Int)).radix := by simp [fldW, kindF, putF, ow, hk]
  exact ⟨(h.field ha (f := 1) (by omega) (fun _ => by omega) (fun e => absurd e hq) (by rw [e1]; omega)).trans e1, (h.field ha (f := 2) (by omega) (fun e => by omega) (fun e => absurd e hq) (by rw [e2]; omega)).trans e2⟩
/-- is it a CNode -/
theorem Wok.fineW (h : Wok L S) (hn : Nodes S) (c : Cp) : fineL L c = (decide (c.kind = 2) && isO S c.obj 2) := by
  unfold fineL nodeL
  rw [h.isAny c.obj (by decide)]
  by_cases e : c.kind = 2
  · cases q : isO S c.obj 2 with
    | false => rw [if_neg (by simp)]; simp
    | true =>
      rw [if_pos ⟨e, rfl⟩, decide_eq_true e]
      obtain ⟨ho, hk⟩ := isO_in q
      obtain ⟨e1, e2⟩ := h.nodL ho hk
      obtain ⟨n1, n2⟩ := hn _ ho hk
      rw [e1, e2, nodeN_yes n1 n2]
      rfl
  · rw [if_neg (fun z => e z.1), decide_eq_false e]
    rfl
theorem Wok.tsus (hw : Wok L S) (h : Eok S) (t : Int) : ∃ L', (tsusP t).run machP L = ((if isO S t 5 then (if (S.ob t).state = 0 then 10 else 0) else 2), L') ∧ Wok L' (if isO S t 5 ∧ (S.ob t).state ≠ 0 then cancelS S t else S) := by
  unfold tsusP
  rw [Vp.run_bind_is (hw.isPt t (by decide))]
  cases q : isO S t 5 with
  | false => exact ⟨L, rfl, by rw [if_neg (by simp)]; exact hw⟩
  | true =>
    have ht : S.Thr t := isO_in q
    rw [if_pos rfl, Vp.run_bind_is fieldP_plain, (hw.thr ht).1]
    by_cases e : (S.ob t).state = 0
    · rw [if_pos e, Vp.run_ret, if_pos rfl, if_pos e]
      exact ⟨L, rfl, by rw [if_neg (fun z => z.2 e)]; exact hw⟩
    · obtain ⟨L1, e1, q1⟩ := hw.ecanc h ht
      rw [if_neg e, if_pos rfl, if_neg e, Vp.run_bind_is e1, Vp.run_ret]
      exact ⟨L1, rfl, by rw [if_pos ⟨rfl, e⟩]; exact q1⟩
theorem Wok.tres (hw : Wok L S) (h : Eok S) (t : Int) : ∃ L', (tresP t).run machP L = ((if isO S t 5 then (if (S.ob t).state = 0 then 0 else 10) else 2), L') ∧ Wok L' (if isO S t 5 ∧ (S.ob t).state = 0 then wakeS S t 0 0 else S) := by
  unfold tresP
  rw [Vp.run_bind_is (hw.isPt t (by decide))]
  cases q : isO S t 5 with
  | false => exact ⟨L, rfl, by rw [if_neg (by simp)]; exact hw⟩
  | true =>
    have ht : S.Thr t := isO_in q
    rw [if_pos rfl, Vp.run_bind_is fieldP_plain, (hw.thr ht).1]
    by_cases e : (S.ob t).state = 0
    · obtain ⟨L1, e1, q1⟩ := hw.ewake ht (h.pr t ht) (by rw [e]; decide) (n := 0) (b := 0) ⟨by decide, by decide⟩ ⟨by decide, by decide⟩
      rw [if_pos e, if_pos rfl, if_pos e, Vp.run_bind_is e1, Vp.run_ret]
      exact ⟨L1, rfl, by rw [if_pos ⟨rfl, e⟩]; exact q1⟩
    · rw [if_neg e, Vp.run_ret, if_pos rfl, if_neg e]
      exact ⟨L, rfl, by rw [if_neg (fun z => e z.2)]; exact hw⟩
theorem Wok.tprio (hw : Wok L S) (h : Eok S) (ht : S.Thr t) : (tprioP t).run machP L = ((S.ob t).prio, L) := by
  unfold tprioP
  rw [Vp.run_bind_is fieldP_plain, (hw.thr ht).2.2.2.1, Vp.run_ret]
  have := h.pr t ht
  rw [show ((S.ob t).prio + 256 * ((S.ob t).on + 1)) % 256 = (S.ob t).prio by omega]
theorem Wok.tpri (hw : Wok L S) (h : Eok S) (t n : Int) : ∃ L', (tpriP t n).run machP L = ((if isO S t 5 then (if n < 0 ∨ 255 < n then 1 else 0) else 2), L') ∧ Wok L' (if isO S t 5 ∧ ¬ (n < 0 ∨ 255 < n) then prioS S t n else S) := by
  unfold tpriP
  rw [Vp.run_bind_is (hw.isPt t (by decide))]
  cases q : isO S t 5 with
  | false => exact ⟨L, rfl, by rw [if_neg (by simp)]; exact hw⟩
  | true =>
    have ht : S.Thr t := isO_in q
    rw [if_pos rfl, if_pos rfl]
    by_cases e : n < 0 ∨ 255 < n
    · rw [if_pos e, if_pos e, Vp.run_ret]
      exact ⟨L, rfl, by rw [if_neg (fun z => z.2 e)]; exact hw⟩
    · rw [if_neg e, if_neg e, Vp.run_bind_is fieldP_plain, (hw.thr ht).2.2.2.1, Vp.run_bind_is (hw.tprio h ht), Vp.run_bind_is putP_plain, Vp.run_ret,
        show (S.ob t).prio + 256 * ((S.ob t).on + 1) - (S.ob t).prio + n = n + 256 * ((S.ob t).on + 1) by omega]
      exact ⟨_, rfl, by rw [if_pos ⟨rfl, e⟩]; exact hw.putPrio ht ⟨by omega, by omega⟩ (h.ei.one1 t ht)⟩
theorem Wok.tset (hw : Wok L S) (hn : Nodes S) (t : Int) (c : Cp) : ∃ L', (tsetP t c).run machP L = ((if isO S t 5 then (if c.mayB = true ∧ (decide (c.kind = 2) && isO S c.obj 2) = true then 0 else 5) else 2), L') ∧ Wok L' (if isO S t 5 ∧ c.mayB = true ∧ (decide (c.kind = 2) && isO S c.obj 2) = true then rootS S t c else S) := by
  unfold tsetP
  rw [Vp.run_bind_is (hw.isPt t (by decide))]
  cases q : isO S t 5 with
  | false => exact ⟨L, rfl, by rw [if_neg (by simp)]; exact hw⟩
  | true =>
    have ht : S.Thr t := isO_in q
    rw [if_pos rfl, if_pos rfl]
    have hmb : c.mayB = true ↔ c.may := by unfold Cp.mayB; exact decide_eq_true_iff
    by_cases e : c.may
    · rw [if_pos e, Vp.run_bind_is (show (fineP c).run machP L = _ by rw [fineP_plain, hw.fineW hn c])]
      cases f : (decide (c.kind = 2) && isO S c.obj 2) with
      | false => exact ⟨L, by rw [if_neg Bool.false_ne_true, if_neg (fun z => Bool.false_ne_true z.2), Vp.run_ret], by rw [if_neg (fun z => Bool.false_ne_true z.2.2)]; exact hw⟩
      | true =>
        rw [if_pos rfl, Vp.run_bind_is putP_plain, Vp.run_ret, if_pos ⟨hmb.2 e, rfl⟩]
        exact ⟨_, rfl, by rw [if_pos ⟨rfl, hmb.2 e, rfl⟩]; exact hw.putRoot ht e.small (may_word e).1⟩
    · rw [if_neg e, Vp.run_ret, if_neg (fun z => e (hmb.1 z.1))]
      exact ⟨L, rfl, by rw [if_neg (fun z => e (hmb.1 z.2.1))]; exact hw⟩
theorem Wok.rootL (h : Wok L S) (ht : S.Thr t) (hr : (S.ob t).root.may) : fieldL L t 7 = (S.ob t).root.word := by
  obtain ⟨⟨h0, h1⟩, hk⟩ := ht
  obtain ⟨a, rfl, ha⟩ := nat_of ⟨h0, h1⟩
  have e := (fldW_thr hk).2.2.2.2.2
  have hq : ¬ (S.ob (a : Int)).isQ := fun e => isQ_no5 e hk
  have hw := may_word hr
  exact (h.field ha (f := 7) (by omega) (fun _ => by omega) (fun e => absurd e hq) (by rw [e]; omega)).trans e
theorem Wok.troot (hw : Wok L S) (ht : S.Thr t) (hr : (S.ob t).root.may) : (trootP t).run machP L = ((S.ob t).root, L) := by
  have e : isO S t 5 = true := decide_eq_true ⟨ht.1.1, by have := ht.1.2; omega, ht.2⟩
  unfold trootP
  rw [Vp.run_bind_is (hw.isPt t (by decide)), if_pos e, Vp.run_bind_is fieldP_plain, hw.rootL ht hr, Vp.run_ret]
  unfold getC
  rw [Cp.of_word hr.small, if_pos hr]
theorem troot_no (ht : ¬ (0 ≤ t ∧ t < 32)) : (trootP t).run machP L = (Cp.zero, L) := by
  have e : isL L t 5 = false := by
    unfold isL
    rw [show objB t 0 = false from objB_no.2 (.inl (by omega))]
    rfl
  unfold trootP
  rw [Vp.run_bind_is isP_plain, e, if_neg (by simp), Vp.run_ret]
end
section
variable {L : List Int} {S : RSt} {t b : Int}
/-- is it a Thread that is ready -/
def rdyO (S : RSt) (i : Int) : Bool := decide ((S.ob i).kind = 5 ∧ (S.ob i).state = 1)
theorem Wok.tbet (hw : Wok L S) (h : Eok S) (ht : 0 ≤ t ∧ t < 32) (f : Bool) (hb : f = true → S.Thr b) : (tbetP t b f).run machP L = (rdyO S t && (!f || decide ((S.ob b).prio < (S.ob t).prio)), L) := by
  unfold tbetP rdyO
  rw [Vp.run_bind_is (hw.isPt t (by decide))]
  unfold isO
  by_cases hk : (S.ob t).kind = 5
  · have hT : S.Thr t := ⟨ht, hk⟩
    rw [decide_eq_true ⟨ht.1, by omega, hk⟩, if_pos rfl, Vp.run_bind_is fieldP_plain, (hw.thr hT).1]
    by_cases h1 : (S.ob t).state = 1
    · rw [if_pos h1, decide_eq_true ⟨hk, h1⟩]
      cases f with
      | false => rw [if_neg (by simp), Vp.run_ret]; rfl
      | true =>
        rw [if_pos rfl, Vp.run_bind_is (hw.tprio h hT), Vp.run_bind_is (hw.tprio h (hb rfl)), Vp.run_ret]
        rfl
    · rw [if_neg h1, decide_eq_false (fun z => h1 z.2), Vp.run_ret]
      rfl
  · rw [decide_eq_false (fun z => hk z.2.2), if_neg (by simp), decide_eq_false (fun z => hk z.1), Vp.run_ret]
    rfl
/-- no object of zeros is a thread -/
theorem thi_none (hz : ∀ i, atL L i = 0) : ∀ (n : Nat) (t : Int), (thiP n t 0 false).run machP L = ((0, false), L) := by
  intro n
  induction n with
  | zero => intro t; rfl
  | succ n ih =>
    intro t
    have e : (tbetP t 0 false).run machP L = (false, L) := by
      unfold tbetP
      have e1 : isL L t 5 = false := by
        unfold isL
        rw [hz]
        simp
      rw [Vp.run_bind_is isP_plain, e1, if_neg (by simp), Vp.run_ret]
    unfold thiP
    rw [Vp.run_bind_is e, if_neg (by simp)]
    exact ih (t + 1)
end
end Go.Proofs.Ytdkjfalhalepgaa
/- What below of package lay answers (layer 9): whether a number is 0 to one less than another one. -/
namespace Go.Proofs.Ytdkjfalhalepgaa
open Go.RowKit
theorem below_any (n m : Int) (w : World) : Calls Try.prog 79 #[.int .i64 n, .int .i64 m] w fun e w' => e = .returned (.bool (belowB n m)) ∧ w' = w := by
  go_enter Try.func79, Try.ntmps79
  go_wp2
  all_goals go_ret
  all_goals exact ⟨by simp [belowB, *] <;> omega, rfl⟩
theorem below_is {n m : Int} {q : Bool} (h : belowB n m = q) (w : World) : Calls Try.prog 79 #[.int .i64 n, .int .i64 m] w fun e w' => e = .returned (.bool q) ∧ w' = w := h ▸ below_any n m w
end Go.Proofs.Ytdkjfalhalepgaa
/- What Obj of package lay answers (layer 9): an object's word. -/
namespace Go.Proofs.Ytdkjfalhalepgaa
open Go.RowKit
theorem obj_any (i f : Int) (w : World) : Calls Try.prog 70 #[.int .i64 i, .int .i64 f] w fun e w' => e = .returned (.tuple #[.int .i64 (objI i f), .bool (objB i f)]) ∧ w' = w := by
  by_cases h1 : belowB i 32 = true
  · have hi := belowB_yes.1 h1
    by_cases h2 : belowB f 8 = true
    · have hf := belowB_yes.1 h2
      have hs : objB i f = true := objB_yes.2 ⟨hi.1, hi.2, hf.1, hf.2⟩
      rw [objI_yes hs, hs]
      have H1 := Lib.hid h1
      have H2 := Lib.hid h2
      clear h1 h2 hs
      go_enter Try.func70, Try.ntmps70
      go_wp2_with (go_at_call 79; (first | (with_reducible refine (below_is H1.out _).mono ?_) | (with_reducible refine (below_is H2.out _).mono ?_)); rintro e w' ⟨rfl, rfl⟩)
      go_ret2
      exact ⟨by go_num, rfl⟩
    · replace h2 : belowB f 8 = false := by simpa using h2
      have hs : objB i f = false := objB_no.2 (.inr (belowB_no.1 h2))
      rw [objI_no hs, hs]
      have H1 := Lib.hid h1
      have H2 := Lib.hid h2
      clear h1 h2 hs
      go_enter Try.func70, Try.ntmps70
      go_wp2_with (go_at_call 79; (first | (with_reducible refine (below_is H1.out _).mono ?_) | (with_reducible refine (below_is H2.out _).mono ?_)); rintro e w' ⟨rfl, rfl⟩)
      go_ret2
      exact ⟨rfl, rfl⟩
  · replace h1 : belowB i 32 = false := by simpa using h1
    have hs : objB i f = false := objB_no.2 (.inl (belowB_no.1 h1))
    rw [objI_no hs, hs]
    have H1 := Lib.hid h1
    clear h1 hs
    go_enter Try.func70, Try.ntmps70
    go_wp2_with (go_at_call 79; (with_reducible refine (below_is H1.out _).mono ?_); rintro e w' ⟨rfl, rfl⟩)
    go_ret2
    exact ⟨rfl, rfl⟩
theorem obj_is {i f x : Int} {q : Bool} (hx : objI i f = x) (h : objB i f = q) (w : World) : Calls Try.prog 70 #[.int .i64 i, .int .i64 f] w fun e w' => e = .returned (.tuple #[.int .i64 x, .bool q]) ∧ w' = w := hx ▸ h ▸ obj_any i f w
end Go.Proofs.Ytdkjfalhalepgaa
/- What Field of package lay answers (layer 9), of any view: a field's number. -/
namespace Go.Proofs.Ytdkjfalhalepgaa
open Go.RowKit
section
variable {σ : Type} {M : Mach σ} {T : TypeId} {v : Value} {fR fW : FuncId} {Mem : World → σ → Prop} {Ok : σ → Prop} {S R : List Nat} {w : World} {s : σ}
theorem field_any (V : VOk M T v fR fW Mem Ok S R) (hm : Mem w s) (o f : Int) :
    Calls Try.prog 43 #[.iface T v, .int .i64 o, .int .i64 f] w fun e w' => e = .returned (.int .i64 ((fieldP o f).run M s).1) ∧ Mem w' ((fieldP o f).run M s).2 ∧ Only S w w' := by
  have mR := V.mR
  have nR := V.nR
  have eR := V.eR
  unfold fieldP
  obtain ⟨a, ha⟩ : ∃ a, objI o f = a := ⟨_, rfl⟩
  cases hb : objB o f with
  | false =>
    have cO := Lib.hid (obj_is ha hb)
    clear hb ha
    go_enter Try.func43, Try.ntmps43
    go_wp2_with (go_at_call 70; (with_reducible refine (cO.out _).mono ?_); rintro e w' ⟨rfl, rfl⟩)
    go_ret
    exact ⟨rfl, hm, Only.refl _ _⟩
  | true =>
    rw [Vp.run_yes rfl, Vp.run_rd, Vp.run_ret, ha]
    have hr := V.rng s a (V.ok w s hm)
    have cR := V.rd w s a hm
    obtain ⟨x, s1, hrd⟩ : ∃ x s1, M.rd s a = (x, s1) := ⟨_, _, rfl⟩
    rw [hrd] at hr cR ⊢
    have cO := Lib.hid (obj_is ha hb)
    have h0 : 0 ≤ x := hr.1
    have h1 : x ≤ 18446744073709551615 := hr.2
    clear hb ha hm hrd hr
    by_cases hx : 4611686018427387904 < x
    · have HN : Hid (numI x = 0) := Lib.hid (by simp [numI, hx])
      go_enter Try.func43, Try.ntmps43
      go_wp2_with (first | (go_at_call 70; (with_reducible refine (cO.out _).mono ?_); rintro e w' ⟨rfl, rfl⟩) | ((with_reducible refine cR.mono ?_); clear cR; rintro e w1 ⟨rfl, hm1, ho1⟩))
      go_ret
      exact ⟨by rw [HN.out]; rfl, hm1, ho1⟩
    · have HN : Hid (numI x = x) := Lib.hid (by simp [numI, hx])
      have hx' : x ≤ 4611686018427387904 := by omega
      clear hx
      go_enter Try.func43, Try.ntmps43
      go_wp2_with (first | (go_at_call 70; (with_reducible refine (cO.out _).mono ?_); rintro e w' ⟨rfl, rfl⟩) | ((with_reducible refine cR.mono ?_); clear cR; rintro e w1 ⟨rfl, hm1, ho1⟩))
      go_ret
      exact ⟨by rw [HN.out]; rfl, hm1, ho1⟩
theorem field_is (V : VOk M T v fR fW Mem Ok S R) (hm : Mem w s) {o f x : Int} {s1 : σ} (h : (fieldP o f).run M s = (x, s1)) :
    Calls Try.prog 43 #[.iface T v, .int .i64 o, .int .i64 f] w fun e w' => e = .returned (.int .i64 x) ∧ Mem w' s1 ∧ Only S w w' := by
  have q := field_any V hm o f
  rwa [h] at q
theorem field_ok (V : VOk M T v fR fW Mem Ok S R) (hs : Ok s) (o f : Int) : Ok ((fieldP o f).run M s).2 := by
  unfold fieldP
  split
  · exact V.okR s _ hs
  · exact hs
theorem field_rng (V : VOk M T v fR fW Mem Ok S R) (hs : Ok s) (o f : Int) : 0 ≤ ((fieldP o f).run M s).1 ∧ ((fieldP o f).run M s).1 ≤ 4611686018427387904 := by
  unfold fieldP
  split
  · rw [Vp.run_rd, Vp.run_ret]
    exact numI_rng (V.rng s _ hs)
  · rw [Vp.run_ret]
    omega
end
end Go.Proofs.Ytdkjfalhalepgaa
/- What Ref of package lay answers (layer 9), of any view: the object that a field tells. -/
namespace Go.Proofs.Ytdkjfalhalepgaa
open Go.RowKit
section
variable {σ : Type} {M : Mach σ} {T : TypeId} {v : Value} {fR fW : FuncId} {Mem : World → σ → Prop} {Ok : σ → Prop} {S R : List Nat} {w : World} {s : σ}
theorem ref_any (V : VOk M T v fR fW Mem Ok S R) (hm : Mem w s) (o f : Int) :
    Calls Try.prog 58 #[.iface T v, .int .i64 o, .int .i64 f] w fun e w' => e = .returned (.tuple #[.int .i64 ((refP o f).run M s).1.1, .bool ((refP o f).run M s).1.2]) ∧ Mem w' ((refP o f).run M s).2 ∧ Only S w w' := by
  have hr := field_rng V (V.ok w s hm) o f
  obtain ⟨x, s1, hrd⟩ : ∃ x s1, (fieldP o f).run M s = (x, s1) := ⟨_, _, rfl⟩
  unfold refP
  rw [Vp.run_bind_is hrd, Vp.run_ret]
  have cF := field_is V hm hrd
  rw [hrd] at hr
  obtain ⟨h0, h1⟩ : 0 ≤ x ∧ x ≤ 4611686018427387904 := hr
  clear hrd hm
  cases hb : belowB (x - 1) 32 with
  | false =>
    have cB := Lib.hid (below_is hb)
    clear hb
    go_enter Try.func58, Try.ntmps58
    go_wp2_with (first | (go_at_call 79; (with_reducible refine (cB.out _).mono ?_); rintro e w' ⟨rfl, rfl⟩) | (go_at_call 43; (with_reducible refine cF.mono ?_); clear cF; rintro e w1 ⟨rfl, hm1, ho1⟩))
    go_ret2
    exact ⟨rfl, hm1, ho1⟩
  | true =>
    have cB := Lib.hid (below_is hb)
    clear hb
    go_enter Try.func58, Try.ntmps58
    go_wp2_with (first | (go_at_call 79; (with_reducible refine (cB.out _).mono ?_); rintro e w' ⟨rfl, rfl⟩) | (go_at_call 43; (with_reducible refine cF.mono ?_); clear cF; rintro e w1 ⟨rfl, hm1, ho1⟩))
    go_ret2
    exact ⟨rfl, hm1, ho1⟩
theorem ref_is (V : VOk M T v fR fW Mem Ok S R) (hm : Mem w s) {o f x : Int} {q : Bool} {s1 : σ} (h : (refP o f).run M s = ((x, q), s1)) :
    Calls Try.prog 58 #[.iface T v, .int .i64 o, .int .i64 f] w fun e w' => e = .returned (.tuple #[.int .i64 x, .bool q]) ∧ Mem w' s1 ∧ Only S w w' := by
  have q := ref_any V hm o f
  rwa [h] at q
end
end Go.Proofs.Ytdkjfalhalepgaa
/- What Put of package lay does (layer 9), to any view: a field becomes a number. -/
namespace Go.Proofs.Ytdkjfalhalepgaa
open Go.RowKit
section
variable {σ : Type} {M : Mach σ} {T : TypeId} {v : Value} {fR fW : FuncId} {Mem : World → σ → Prop} {Ok : σ → Prop} {S R : List Nat} {w : World} {s : σ}
theorem put_any (V : VOk M T v fR fW Mem Ok S R) (hm : Mem w s) (o f n : Int) (hn : n ≤ 9223372036854775807) :
    Calls Try.prog 42 #[.iface T v, .int .i64 o, .int .i64 f, .int .i64 n] w fun e w' => e = .returned (.tuple #[]) ∧ Mem w' ((putP o f n).run M s).2 ∧ Only S w w' := by
  have mW := V.mW
  have nW := V.nW
  have eW := V.eW
  unfold putP
  obtain ⟨a, ha⟩ : ∃ a, objI o f = a := ⟨_, rfl⟩
  cases hb : objB o f with
  | false =>
    rw [Vp.run_no (by simp), Vp.run_ret]
    have cO := Lib.hid (obj_is ha hb)
    clear hb ha
    go_enter Try.func42, Try.ntmps42
    go_wp2_with (go_at_call 70; (with_reducible refine (cO.out _).mono ?_); rintro e w' ⟨rfl, rfl⟩)
    go_end0
    exact ⟨rfl, hm, Only.refl _ _⟩
  | true =>
    have cO := Lib.hid (obj_is ha hb)
    by_cases h0 : 0 ≤ n
    · rw [Vp.run_yes ⟨rfl, h0⟩, Vp.run_wr, Vp.run_ret, ha]
      have cW := V.wr w s a n hm ⟨h0, by omega⟩
      clear hb ha hm
      go_enter Try.func42, Try.ntmps42
      go_wp2_with (first | (go_at_call 70; (with_reducible refine (cO.out _).mono ?_); rintro e w' ⟨rfl, rfl⟩) | ((with_reducible refine cW.mono ?_); clear cW; rintro e w1 ⟨rfl, hm1, ho1⟩))
      go_end0
      exact ⟨rfl, hm1, ho1⟩
    · rw [Vp.run_no (by simpa using h0), Vp.run_ret]
      have h0' : n < 0 := by omega
      clear hb ha h0
      go_enter Try.func42, Try.ntmps42
      go_wp2_with (go_at_call 70; (with_reducible refine (cO.out _).mono ?_); rintro e w' ⟨rfl, rfl⟩)
      go_end0
      exact ⟨rfl, hm, Only.refl _ _⟩
theorem put_is (V : VOk M T v fR fW Mem Ok S R) (hm : Mem w s) {o f n : Int} {s1 : σ} (hn : n ≤ 9223372036854775807) (h : (putP o f n).run M s = ((), s1)) :
    Calls Try.prog 42 #[.iface T v, .int .i64 o, .int .i64 f, .int .i64 n] w fun e w' => e = .returned (.tuple #[]) ∧ Mem w' s1 ∧ Only S w w' := by
  have q := put_any V hm o f n hn
  rwa [h] at q
end
end Go.Proofs.Ytdkjfalhalepgaa
/- What is, put, tell, setOn, side, State, On of package endp answer and do (layer 15), of any view. -/
namespace Go.Proofs.Ytdkjfalhalepgaa
open Go.RowKit
theorem eis_any (i : Int) (w : World) : Calls Try.prog 49 #[.int .i64 i] w fun e w' => e = .returned (.bool (objB i 0)) ∧ w' = w := by
  obtain ⟨a, ha⟩ : ∃ a, objI i 0 = a := ⟨_, rfl⟩
  obtain ⟨q, hq⟩ : ∃ q, objB i 0 = q := ⟨_, rfl⟩
  rw [hq]
  have cO := Lib.hid (obj_is ha hq)
  clear ha hq
  go_enter Try.func49, Try.ntmps49
  go_wp2_with (go_at_call 70; (with_reducible refine (cO.out _).mono ?_); rintro e w' ⟨rfl, rfl⟩)
  go_ret
  exact ⟨rfl, rfl⟩
theorem eis_is {i : Int} {q : Bool} (h : objB i 0 = q) (w : World) : Calls Try.prog 49 #[.int .i64 i] w fun e w' => e = .returned (.bool q) ∧ w' = w := h ▸ eis_any i w
theorem eside_is {n x : Int} (h : esideI n = x) (w : World) : Calls Try.prog 78 #[.int .i64 n] w fun e w' => e = .returned (.int .i64 x) ∧ w' = w := by
  subst h
  unfold esideI
  by_cases h2 : n = 2
  · subst h2
    go_enter Try.func78, Try.ntmps78
    go_wp2_with fail
    go_ret
    exact ⟨rfl, rfl⟩
  by_cases h6 : n = 6
  · subst h6
    go_enter Try.func78, Try.ntmps78
    go_wp2_with fail
    go_ret
    exact ⟨rfl, rfl⟩
  by_cases h3 : n = 3
  · subst h3
    go_enter Try.func78, Try.ntmps78
    go_wp2_with fail
    go_ret
    exact ⟨rfl, rfl⟩
  rw [if_neg h2, if_neg h6, if_neg h3]
  go_enter Try.func78, Try.ntmps78
  go_wp2_with fail
  go_ret
  exact ⟨rfl, rfl⟩
section
variable {σ : Type} {M : Mach σ} {T : TypeId} {v : Value} {fR fW : FuncId} {Mem : World → σ → Prop} {Ok : σ → Prop} {S R : List Nat} {w : World} {s : σ}
theorem field_in (V : VOk M T v fR fW Mem Ok S R) (hm : Mem w s) {o f x : Int} {s1 : σ} (h : (fieldP o f).run M s = (x, s1)) : 0 ≤ x ∧ x ≤ 4611686018427387904 := by
  have := field_rng V (V.ok w s hm) o f
  rw [h] at this
  exact this
theorem estt_is (V : VOk M T v fR fW Mem Ok S R) (hm : Mem w s) {t x : Int} {s1 : σ} (h : (fieldP t 1).run M s = (x, s1)) :
    Calls Try.prog 29 #[.iface T v, .int .i64 t] w fun e w' => e = .returned (.int .i64 x) ∧ Mem w' s1 ∧ Only S w w' := by
  have c := field_is V hm h
  clear h hm
  go_enter Try.func29, Try.ntmps29
  go_wp2_with ((with_reducible refine c.mono ?_); clear c; rintro e w1 ⟨rfl, hm1, ho1⟩)
  go_ret
  exact ⟨rfl, hm1, ho1⟩
theorem eput_is (V : VOk M T v fR fW Mem Ok S R) (hm : Mem w s) {o f n m : Int} {s1 : σ} (hn : max n 0 = m) (hn2 : n ≤ 9223372036854775807) (h : (putP o f m).run M s = ((), s1)) :
    Calls Try.prog 77 #[.iface T v, .int .i64 o, .int .i64 f, .int .i64 n] w fun e w' => e = .returned (.tuple #[]) ∧ Mem w' s1 ∧ Only S w w' := by
  have c := put_is V hm (by omega) h
  clear h hm
  by_cases h0 : 0 ≤ n
  · obtain rfl : n = m := by omega
    clear hn
    go_enter Try.func77, Try.ntmps77
    go_wp2_with fail
    (with_reducible refine c.mono ?_)
    clear c
    rintro e w1 ⟨rfl, hm1, ho1⟩
    go_wp2_with fail
    go_end0
    exact ⟨rfl, hm1, ho1⟩
  · obtain rfl : m = 0 := by omega
    clear hn
    have h0 : n < 0 := by omega
    go_enter Try.func77, Try.ntmps77
    go_wp2_with fail
    (with_reducible refine c.mono ?_)
    clear c
    rintro e w1 ⟨rfl, hm1, ho1⟩
    go_wp2_with fail
    go_end0
    exact ⟨rfl, hm1, ho1⟩
theorem etell_is (V : VOk M T v fR fW Mem Ok S R) (hm : Mem w s) {t n b : Int} {s1 : σ} (hn : n ≤ 9223372036854775807) (hb : b ≤ 9223372036854775807) (h : (etellP t n b).run M s = ((), s1)) :
    Calls Try.prog 52 #[.iface T v, .int .i64 t, .int .i64 n, .int .i64 b] w fun e w' => e = .returned (.tuple #[]) ∧ Mem w' s1 ∧ Only S w w' := by
  unfold etellP at h
  obtain ⟨s2, h2⟩ : ∃ s2, (putP t 3 (max n 0)).run M s = ((), s2) := ⟨_, rfl⟩
  rw [Vp.run_bind_is h2] at h
  have c := eput_is V hm rfl hn h2
  have HV := Lib.hid V
  have H := Lib.hid (And.intro h hb)
  clear h h2 hm V hb hn
  go_enter Try.func52, Try.ntmps52
  go_wp2_with fail
  (with_reducible refine c.mono ?_)
  clear c
  rintro e w1 ⟨rfl, hm1, ho1⟩
  have c := eput_is HV.out hm1 rfl H.out.2 H.out.1
  go_wp2_with fail
  (with_reducible refine c.mono ?_)
  clear c
  rintro e w2 ⟨rfl, hm2, ho2⟩
  go_wp2_with fail
  go_end0
  exact ⟨rfl, hm2, ho1.trans ho2⟩
theorem eson_is (V : VOk M T v fR fW Mem Ok S R) (hm : Mem w s) {t o : Int} {s1 : σ} (h0 : 0 ≤ o) (h1 : o ≤ 1000) (h : (eonP t o).run M s = ((), s1)) :
    Calls Try.prog 59 #[.iface T v, .int .i64 t, .int .i64 o] w fun e w' => e = .returned (.tuple #[]) ∧ Mem w' s1 ∧ Only S w w' := by
  unfold eonP at h
  obtain ⟨n, s2, h2⟩ : ∃ n s2, (fieldP t 5).run M s = (n, s2) := ⟨_, _, rfl⟩
  rw [Vp.run_bind_is h2] at h
  obtain ⟨hn0, hn1⟩ := field_in V hm h2
  have c := field_is V hm h2
  have HV := Lib.hid V
  have hx := Int.tmod_eq_emod_of_nonneg (b := 256) hn0
  have hx0 : 0 ≤ n % 256 := by omega
  have hx1 : n % 256 < 256 := by omega
  obtain ⟨z, hz⟩ : ∃ z, o * 256 + n % 256 = z := ⟨_, rfl⟩
  rw [hz] at h
  have hz0 : 0 ≤ z := by omega
  have hz1 : z ≤ 300000 := by omega
  have H := Lib.hid h
  clear h h2 hm V
  go_enter Try.func59, Try.ntmps59
  go_wp2_with fail
  (with_reducible refine c.mono ?_)
  clear c
  rintro e w1 ⟨rfl, hm1, ho1⟩
  have c := put_is HV.out hm1 (by omega) H.out
  go_wp2_with fail
  (with_reducible refine c.mono ?_)
  clear c
  rintro e w2 ⟨rfl, hm2, ho2⟩
  go_wp2_with fail
  go_end0
  exact ⟨rfl, hm2, ho1.trans ho2⟩
theorem eonq_is (V : VOk M T v fR fW Mem Ok S R) (hm : Mem w s) {t x : Int} {b : Bool} {s1 : σ} (h : (eonQ t).run M s = ((x, b), s1)) :
    Calls Try.prog 32 #[.iface T v, .int .i64 t] w fun e w' => e = .returned (.tuple #[.int .i64 x, .bool b]) ∧ Mem w' s1 ∧ Only S w w' := by
  unfold eonQ at h
  obtain ⟨n, s2, h2⟩ : ∃ n s2, (fieldP t 5).run M s = (n, s2) := ⟨_, _, rfl⟩
  rw [Vp.run_bind_is h2, Vp.run_ret] at h
  obtain ⟨hn0, hn1⟩ := field_in V hm h2
  have c := field_is V hm h2
  have hx := Int.tdiv_eq_ediv_of_nonneg (b := 256) hn0
  obtain ⟨z, hz⟩ : ∃ z, n / 256 - 1 = z := ⟨_, rfl⟩
  rw [hz] at h
  obtain ⟨q, hq⟩ : ∃ q, objB z 0 = q := ⟨_, rfl⟩
  rw [hq] at h
  have cO := Lib.hid (eis_is hq)
  have hz0 : -1 ≤ z := by omega
  have hz1 : z ≤ 4611686018427387904 := by omega
  cases q with
  | true =>
    rw [if_pos rfl] at h
    cases h
    clear h2 hm hq V
    go_enter Try.func32, Try.ntmps32
    go_wp2_with fail
    (with_reducible refine c.mono ?_)
    clear c
    rintro e w1 ⟨rfl, hm1, ho1⟩
    go_wp2_with (go_at_call 49; (with_reducible refine (cO.out _).mono ?_); rintro e w' ⟨rfl, rfl⟩)
    go_ret2
    exact ⟨rfl, hm1, ho1⟩
  | false =>
    rw [if_neg (by simp)] at h
    cases h
    clear h2 hm hq V
    go_enter Try.func32, Try.ntmps32
    go_wp2_with fail
    (with_reducible refine c.mono ?_)
    clear c
    rintro e w1 ⟨rfl, hm1, ho1⟩
    go_wp2_with (go_at_call 49; (with_reducible refine (cO.out _).mono ?_); rintro e w' ⟨rfl, rfl⟩)
    go_ret2
    exact ⟨rfl, hm1, ho1⟩
end
end Go.Proofs.Ytdkjfalhalepgaa
/- What is, next, leave of package queue answer and do (layer 14), of any view. -/
namespace Go.Proofs.Ytdkjfalhalepgaa
open Go.RowKit
theorem qis_any (i : Int) (w : World) : Calls Try.prog 86 #[.int .i64 i] w fun e w' => e = .returned (.bool (objB i 0)) ∧ w' = w := by
  obtain ⟨a, ha⟩ : ∃ a, objI i 0 = a := ⟨_, rfl⟩
  obtain ⟨q, hq⟩ : ∃ q, objB i 0 = q := ⟨_, rfl⟩
  rw [hq]
  have cO := Lib.hid (obj_is ha hq)
  clear ha hq
  go_enter Try.func86, Try.ntmps86
  go_wp2_with (go_at_call 70; (with_reducible refine (cO.out _).mono ?_); rintro e w' ⟨rfl, rfl⟩)
  go_ret
  exact ⟨rfl, rfl⟩
theorem qis_is {i : Int} {q : Bool} (h : objB i 0 = q) (w : World) : Calls Try.prog 86 #[.int .i64 i] w fun e w' => e = .returned (.bool q) ∧ w' = w := h ▸ qis_any i w
section
variable {σ : Type} {M : Mach σ} {T : TypeId} {v : Value} {fR fW : FuncId} {Mem : World → σ → Prop} {Ok : σ → Prop} {S R : List Nat} {w : World} {s : σ}
theorem refP_rng {o f y : Int} {b : Bool} {s1 : σ} (h : (refP o f).run M s = ((y, b), s1)) : (b = true ∧ 0 ≤ y ∧ y < 32) ∨ (b = false ∧ y = 0) := by
  obtain ⟨n, s2, h2⟩ : ∃ n s2, (fieldP o f).run M s = (n, s2) := ⟨_, _, rfl⟩
  unfold refP at h
  rw [Vp.run_bind_is h2, Vp.run_ret] at h
  have h := congrArg Prod.fst h
  by_cases hb : belowB (n - 1) 32 = true
  · simp only [if_pos hb] at h
    cases h
    exact .inl ⟨rfl, belowB_yes.1 hb⟩
  · simp only [if_neg hb] at h
    cases h
    exact .inr ⟨rfl, rfl⟩
theorem qnext_rng {i x : Int} {s1 : σ} (h : (qnextP i).run M s = (x, s1)) : 0 ≤ x ∧ x ≤ 32 := by
  obtain ⟨⟨y, b⟩, s2, h2⟩ : ∃ r s2, (refP i 2).run M s = (r, s2) := ⟨_, _, rfl⟩
  unfold qnextP at h
  rw [Vp.run_bind_is h2, Vp.run_ret] at h
  have h := congrArg Prod.fst h
  rcases refP_rng h2 with ⟨rfl, hy⟩ | ⟨rfl, hy⟩
  · have h : y + 1 = x := h
    omega
  · have h : 0 = x := h
    omega
theorem qnext_is (V : VOk M T v fR fW Mem Ok S R) (hm : Mem w s) {i x : Int} {s1 : σ} (h : (qnextP i).run M s = (x, s1)) :
    Calls Try.prog 90 #[.iface T v, .int .i64 i] w fun e w' => e = .returned (.int .i64 x) ∧ Mem w' s1 ∧ Only S w w' := by
  obtain ⟨⟨y, b⟩, s2, h2⟩ : ∃ r s2, (refP i 2).run M s = (r, s2) := ⟨_, _, rfl⟩
  unfold qnextP at h
  rw [Vp.run_bind_is h2, Vp.run_ret] at h
  have c := ref_is V hm h2
  rcases refP_rng h2 with ⟨rfl, hy0, hy1⟩ | ⟨rfl, hy⟩
  · cases h
    clear h2 hm
    go_enter Try.func90, Try.ntmps90
    go_wp2_with ((with_reducible refine c.mono ?_); clear c; rintro e w1 ⟨rfl, hm1, ho1⟩)
    go_ret
    exact ⟨rfl, hm1, ho1⟩
  · cases h
    clear h2 hm
    go_enter Try.func90, Try.ntmps90
    go_wp2_with ((with_reducible refine c.mono ?_); clear c; rintro e w1 ⟨rfl, hm1, ho1⟩)
    go_ret
    exact ⟨rfl, hm1, ho1⟩
set_option maxRecDepth 100000 in
theorem qleave_is (V : VOk M T v fR fW Mem Ok S R) (hm : Mem w s) {o a t : Int} {s1 : σ} (h0 : 0 ≤ a) (h1 : a ≤ 4611686018427387904) (h : (qleaveP o a t).run M s = ((), s1)) :
    Calls Try.prog 85 #[.iface T v, .int .i64 o, .int .i64 a, .int .i64 t] w fun e w' => e = .returned (.tuple #[]) ∧ Mem w' s1 ∧ Only S w w' := by
  unfold qleaveP at h
  obtain ⟨n, s2, h2⟩ : ∃ n s2, (qnextP t).run M s = (n, s2) := ⟨_, _, rfl⟩
  rw [Vp.run_bind_is h2] at h
  obtain ⟨s3, h3⟩ : ∃ s3, (putP a 2 n).run M s2 = ((), s3) := ⟨_, rfl⟩
  rw [Vp.run_bind_is h3] at h
  obtain ⟨s4, h4⟩ : ∃ s4, (putP t 2 0).run M s3 = ((), s4) := ⟨_, rfl⟩
  rw [Vp.run_bind_is h4] at h
  obtain ⟨m, s5, h5⟩ : ∃ m s5, (qnextP a).run M s4 = (m, s5) := ⟨_, _, rfl⟩
  rw [Vp.run_bind_is h5] at h
  have hn := qnext_rng h2
  have c2 := qnext_is V hm h2
  have HV := Lib.hid V
  have H3 := Lib.hid (And.intro h3 (And.intro h4 (And.intro h5 (And.intro h hn))))
  clear h h2 h3 h4 h5 hm V hn
  go_enter Try.func85, Try.ntmps85
  go_wp2_with fail
  (with_reducible refine c2.mono ?_)
  clear c2
  rintro e w1 ⟨rfl, hm1, ho1⟩
  have c3 := put_is HV.out hm1 (by have := H3.out.2.2.2.2; omega) H3.out.1
  go_wp2_with fail
  (with_reducible refine c3.mono ?_)
  clear c3
  rintro e w2 ⟨rfl, hm2, ho2⟩
  have c4 := put_is HV.out hm2 (by decide) H3.out.2.1
  go_wp2_with fail
  (with_reducible refine c4.mono ?_)
  clear c4
  rintro e w3 ⟨rfl, hm3, ho3⟩
  have c5 := qnext_is HV.out hm3 H3.out.2.2.1
  have HO := Lib.hid ((ho1.trans ho2).trans ho3)
  clear hm1 ho1 hm2 ho2 hm3 ho3
  go_wp2_with fail
  (with_reducible refine c5.mono ?_)
  clear c5
  rintro e w4 ⟨rfl, hm4, ho4⟩
  have HM := Lib.hid (And.intro hm4 (HO.out.trans ho4))
  clear hm4 ho4
  obtain ⟨-, -, -, h, -⟩ := H3.out
  by_cases hz : m = 0
  · subst hz
    rw [if_pos rfl] at h
    by_cases hao : a = o
    · rw [if_pos hao] at h
      have c6 := put_is HV.out HM.out.1 (by decide) h
      subst hao
      clear h
      go_wp2_with fail
      (with_reducible refine c6.mono ?_)
      clear c6
      rintro e w5 ⟨rfl, hm5, ho5⟩
      go_wp2_with fail
      go_end0
      exact ⟨rfl, hm5, HM.out.2.trans ho5⟩
    · rw [if_neg hao] at h
      have c6 := put_is HV.out HM.out.1 (by omega) h
      clear h
      go_wp2_with fail
      (with_reducible refine c6.mono ?_)
      clear c6
      rintro e w5 ⟨rfl, hm5, ho5⟩
      go_wp2_with fail
      go_end0
      exact ⟨rfl, hm5, HM.out.2.trans ho5⟩
  · rw [if_neg hz] at h
    cases h
    go_wp2_with fail
    refine bodyPost_ret (results_none rfl _ _ _) rfl ?_
    exact ⟨rfl, HM.out.1, HM.out.2⟩
end
end Go.Proofs.Ytdkjfalhalepgaa
/- What Slot of package lay answers (layer 9): a slot's word. -/
namespace Go.Proofs.Ytdkjfalhalepgaa
open Go.RowKit
theorem slot_any (i f : Int) (w : World) : Calls Try.prog 83 #[.int .i64 i, .int .i64 f] w fun e w' => e = .returned (.tuple #[.int .i64 (slotI i f), .bool (slotB i f)]) ∧ w' = w := by
  by_cases h1 : belowB i 96 = true
  · have hi := belowB_yes.1 h1
    by_cases h2 : belowB f 5 = true
    · have hf := belowB_yes.1 h2
      have hs : slotB i f = true := slotB_yes.2 ⟨hi.1, hi.2, hf.1, hf.2⟩
      rw [slotI_yes hs, hs]
      have H1 := Lib.hid h1
      have H2 := Lib.hid h2
      clear h1 h2 hs
      go_enter Try.func83, Try.ntmps83
      go_wp2_with (go_at_call 79; (first | (with_reducible refine (below_is H1.out _).mono ?_) | (with_reducible refine (below_is H2.out _).mono ?_)); rintro e w' ⟨rfl, rfl⟩)
      go_ret2
      exact ⟨by go_num, rfl⟩
    · replace h2 : belowB f 5 = false := by simpa using h2
      have hs : slotB i f = false := slotB_no.2 (.inr (belowB_no.1 h2))
      rw [slotI_no hs, hs]
      have H1 := Lib.hid h1
      have H2 := Lib.hid h2
      clear h1 h2 hs
      go_enter Try.func83, Try.ntmps83
      go_wp2_with (go_at_call 79; (first | (with_reducible refine (below_is H1.out _).mono ?_) | (with_reducible refine (below_is H2.out _).mono ?_)); rintro e w' ⟨rfl, rfl⟩)
      go_ret2
      exact ⟨rfl, rfl⟩
  · replace h1 : belowB i 96 = false := by simpa using h1
    have hs : slotB i f = false := slotB_no.2 (.inl (belowB_no.1 h1))
    rw [slotI_no hs, hs]
    have H1 := Lib.hid h1
    clear h1 hs
    go_enter Try.func83, Try.ntmps83
    go_wp2_with (go_at_call 79; (with_reducible refine (below_is H1.out _).mono ?_); rintro e w' ⟨rfl, rfl⟩)
    go_ret2
    exact ⟨rfl, rfl⟩
theorem slot_is {i f x : Int} {q : Bool} (hx : slotI i f = x) (h : slotB i f = q) (w : World) : Calls Try.prog 83 #[.int .i64 i, .int .i64 f] w fun e w' => e = .returned (.tuple #[.int .i64 x, .bool q]) ∧ w' = w := hx ▸ h ▸ slot_any i f w
end Go.Proofs.Ytdkjfalhalepgaa
