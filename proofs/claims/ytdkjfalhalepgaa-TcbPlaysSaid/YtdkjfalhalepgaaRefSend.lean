/- What the document's Send answers and does (layers 15 to 22). -/
import Derived.Test.YtdkjfalhalepgaaRefPop
import Derived.Test.YtdkjfalhalepgaaJ17
namespace Go.Proofs.Ytdkjfalhalepgaa
open Go.RowKit
section
variable {w w' : World} {p gs go : Nat} {S : RSt}
/-- the first of a queue, as it is called with -/
theorem Eok.first (h : Eok S) {ep r : Int} {l : List Int} (hq : (S.ob ep).queue = r :: l) : ∃ m : Nat, r = (m : Int) ∧ m < 32 ∧ l.length ≤ 900 := by
  have hr := h.ei.thr (o := ep) (t := r) (by rw [hq]; simp)
  obtain ⟨m, rfl, hm⟩ := nat_of hr.1
  have := h.qlen32 ep
  rw [hq, List.length_cons] at this
  exact ⟨m, rfl, hm, by omega⟩
theorem saidS_two (S : RSt) (t n b : Int) : ((S.upO t fun x => { x with word := n }).upO t fun x => { x with badge := b }) = saidS S t n b :=
  RSt.ext' rfl rfl rfl (fun i => by simp only [saidS, upO_at]; split <;> simp) rfl rfl
set_option maxRecDepth 100000 in
theorem rsend_any (h : RefM w p gs go S) (hk : Eok S) {ep t : Nat} (he : EpAt S (ep : Int)) (ht : t < 32) (n b : Int) (call : Bool) :
    Calls Try.prog 19 #[.pointer (some ⟨p, 0, none⟩), .int .i64 ep, .int .i64 t, .int .i64 b, .int .i64 n, .bool call] w fun e w' => e = .returned (.bool (sendA S ep call)) ∧ RefM w' p gs go (sendS S ep t b n call) ∧ Only [go] w w' := by
  have hep : ep < 32 := by have := he.rng; omega
  have h0 : (0 : Int) ≤ (ep : Int) := by omega
  have h1 : (ep : Int) < 32 := by omega
  have h2 : (0 : Int) ≤ (t : Int) := by omega
  have h3 : (t : Int) < 32 := by omega
  obtain ⟨co, c1⟩ := h.cObjs
  obtain ⟨A, cp, hcO, -⟩ := h.obj hep
  obtain ⟨wt, hwt⟩ : ∃ wt, (S.ob (ep : Int)).wait = wt := ⟨_, rfl⟩
  have c5 : w.cell? ⟨go, ep * 32 + 5, none⟩ = some (.int .i64 wt) := hwt ▸ hcO 5 _ rfl
  clear hcO
  unfold sendA sendS
  by_cases e2 : wt = 2
  · subst e2
    rw [if_pos hwt, if_pos hwt]
    obtain ⟨r, l, hq⟩ := hk.queue_wait ⟨he.rng, he.kind⟩ (by omega)
    obtain ⟨m, rfl, hm, hl⟩ := hk.first hq
    have cP := rpop_is h hep hq hl
    rw [headQ_is hq]
    clear hq hk he hwt h
    cases call with
    | false =>
      rw [if_neg (by simp)]
      go_enter Try.func19, Try.ntmps19
      go_wp2_with fail
      (with_reducible refine cP.mono ?_)
      clear cP
      rintro e w1 ⟨rfl, hr1, ho1⟩
      have c := rwake_any hr1 hm n b
      go_wp2_with fail
      (with_reducible refine c.mono ?_)
      clear c hr1
      rintro e w2 ⟨rfl, hr2, ho2⟩
      have c := rrest_any hr2 hep
      go_wp2_with fail
      (with_reducible refine c.mono ?_)
      clear c hr2
      rintro e w3 ⟨rfl, hr3, ho3⟩
      go_wp2_with fail
      go_ret
      exact ⟨rfl, hr3, (ho1.trans ho2).trans ho3⟩
    | true =>
      rw [if_pos rfl]
      go_enter Try.func19, Try.ntmps19
      go_wp2_with fail
      (with_reducible refine cP.mono ?_)
      clear cP
      rintro e w1 ⟨rfl, hr1, ho1⟩
      have c := rwake_any hr1 hm n b
      go_wp2_with fail
      (with_reducible refine c.mono ?_)
      clear c hr1
      rintro e w2 ⟨rfl, hr2, ho2⟩
      have c := rrest_any hr2 hep
      go_wp2_with fail
      (with_reducible refine c.mono ?_)
      clear c hr2
      rintro e w3 ⟨rfl, hr3, ho3⟩
      have c := rowe_any hr3 hm ht
      have HO := Lib.hid ((ho1.trans ho2).trans ho3)
      clear hr3 ho1 ho2 ho3
      go_wp2_with fail
      (with_reducible refine c.mono ?_)
      clear c
      rintro e w4 ⟨rfl, hr4, ho4⟩
      go_wp2_with fail
      go_ret
      exact ⟨rfl, hr4, HO.out.trans ho4⟩
  · have e2' : (wt == 2) = false := by simpa using e2
    rw [if_neg (fun z => e2 (hwt.symm.trans z)), if_neg (fun z => e2 (hwt.symm.trans z))]
    have hql : (S.ob (ep : Int)).queue.length ≤ 900 := Nat.le_trans (hk.qlen32 _) (by decide)
    obtain ⟨x, hx⟩ : ∃ x : Int, (if call = true then 6 else 2) = x := ⟨_, rfl⟩
    rw [hx]
    have cB := rblock_any h hep ht x hql
    clear hk he hwt h e2 hql
    cases call with
    | false =>
      rw [if_neg (by simp)] at hx
      subst hx
      go_enter Try.func19, Try.ntmps19
      go_wp2_with fail
      (with_reducible refine cB.mono ?_)
      clear cB c1 c5
      rintro e w1 ⟨rfl, hr1, ho1⟩
      obtain ⟨co, c1⟩ := hr1.cObjs
      obtain ⟨v, e, f⟩ := hr1.fld (j := 7) ht (by omega)
      have q1 := hr1.setF1 ht (j := 7) (by omega) (.int .i64 n) (fun x => { x with word := n }) (fun _ _ => rfl) (fun _ => rfl)
      have H1 := Lib.hid (And.intro q1.1 (ho1.trans q1.2))
      clear q1 hr1 ho1
      go_upto_region 13 with fail
      obtain ⟨w2, hw2⟩ : ∃ X, Hid (X = w1.setCell ⟨go, t * 32 + 7, none⟩ (.int .i64 n)) := ⟨_, Lib.hid rfl⟩
      rw [← hw2.out] at H1 ⊢
      clear c1 e f hw2
      obtain ⟨co, c1⟩ := H1.out.1.cObjs
      obtain ⟨v, e, f⟩ := H1.out.1.fld (j := 10) ht (by omega)
      have q1 := H1.out.1.setF1 ht (j := 10) (by omega) (.int .i64 b) (fun x => { x with badge := b }) (fun _ _ => rfl) (fun _ => rfl)
      have H2 := Lib.hid (And.intro q1.1 (H1.out.2.trans q1.2))
      clear q1
      go_upto_region 14 with fail
      obtain ⟨w3, hw3⟩ : ∃ X, Hid (X = w2.setCell ⟨go, t * 32 + 10, none⟩ (.int .i64 b)) := ⟨_, Lib.hid rfl⟩
      rw [← hw3.out] at H2 ⊢
      clear c1 e f hw3
      obtain ⟨co, c1⟩ := H2.out.1.cObjs
      obtain ⟨v, e, f⟩ := H2.out.1.fld (j := 5) hep (by omega)
      have q1 := H2.out.1.setF1 hep (j := 5) (by omega) (.int .i64 1) (fun x => { x with wait := 1 }) (fun _ _ => rfl) (fun _ => rfl)
      have H3 := Lib.hid (And.intro q1.1 (H2.out.2.trans q1.2))
      clear q1
      go_wp2_with fail
      go_ret
      refine ⟨rfl, ?_, H3.out.2⟩
      have e := H3.out.1
      rw [saidS_two] at e
      exact e
    | true =>
      rw [if_pos rfl] at hx
      subst hx
      go_enter Try.func19, Try.ntmps19
      go_wp2_with fail
      (with_reducible refine cB.mono ?_)
      clear cB c1 c5
      rintro e w1 ⟨rfl, hr1, ho1⟩
      obtain ⟨co, c1⟩ := hr1.cObjs
      obtain ⟨v, e, f⟩ := hr1.fld (j := 7) ht (by omega)
      have q1 := hr1.setF1 ht (j := 7) (by omega) (.int .i64 n) (fun x => { x with word := n }) (fun _ _ => rfl) (fun _ => rfl)
      have H1 := Lib.hid (And.intro q1.1 (ho1.trans q1.2))
      clear q1 hr1 ho1
      go_upto_region 13 with fail
      obtain ⟨w2, hw2⟩ : ∃ X, Hid (X = w1.setCell ⟨go, t * 32 + 7, none⟩ (.int .i64 n)) := ⟨_, Lib.hid rfl⟩
      rw [← hw2.out] at H1 ⊢
      clear c1 e f hw2
      obtain ⟨co, c1⟩ := H1.out.1.cObjs
      obtain ⟨v, e, f⟩ := H1.out.1.fld (j := 10) ht (by omega)
      have q1 := H1.out.1.setF1 ht (j := 10) (by omega) (.int .i64 b) (fun x => { x with badge := b }) (fun _ _ => rfl) (fun _ => rfl)
      have H2 := Lib.hid (And.intro q1.1 (H1.out.2.trans q1.2))
      clear q1
      go_upto_region 14 with fail
      obtain ⟨w3, hw3⟩ : ∃ X, Hid (X = w2.setCell ⟨go, t * 32 + 10, none⟩ (.int .i64 b)) := ⟨_, Lib.hid rfl⟩
      rw [← hw3.out] at H2 ⊢
      clear c1 e f hw3
      obtain ⟨co, c1⟩ := H2.out.1.cObjs
      obtain ⟨v, e, f⟩ := H2.out.1.fld (j := 5) hep (by omega)
      have q1 := H2.out.1.setF1 hep (j := 5) (by omega) (.int .i64 1) (fun x => { x with wait := 1 }) (fun _ _ => rfl) (fun _ => rfl)
      have H3 := Lib.hid (And.intro q1.1 (H2.out.2.trans q1.2))
      clear q1
      go_wp2_with fail
      go_ret
      refine ⟨rfl, ?_, H3.out.2⟩
      have e := H3.out.1
      rw [saidS_two] at e
      exact e
end
end Go.Proofs.Ytdkjfalhalepgaa
