/- What Send, Recv, Answer of package endp do (layer 15), to any view. -/
import Derived.Test.YtgbcgcmcfklnjaaEndB
namespace Go.Proofs.Ytgbcgcmcfklnjaa
open Go.RowKit
abbrev replyV (w b : Int) : Value := .agg #[.int .i64 0, .int .i64 w, .int .i64 b]
section
variable {σ : Type} {M : Mach σ} {T : TypeId} {v : Value} {fR fW : FuncId} {Mem : World → σ → Prop} {Ok : σ → Prop} {S R : List Nat} {w : World} {s : σ}
theorem epop_in {o sd x : Int} {s1 : σ} (h : (epopP o sd).run M s = ((x, true), s1)) : 0 ≤ x ∧ x < 32 := by
  unfold epopP at h
  obtain ⟨y, s2, h2⟩ : ∃ x s2, (fieldP o 1).run M s = (x, s2) := ⟨_, _, rfl⟩
  rw [Vp.run_bind_is h2] at h
  by_cases hy : y = sd
  · rw [if_pos hy] at h
    obtain ⟨⟨z, q⟩, s3, h3⟩ : ∃ r s3, (qpopP o).run M s2 = (r, s3) := ⟨_, _, rfl⟩
    rw [Vp.run_bind_is h3] at h
    cases q with
    | false =>
      rw [if_neg (by simp), Vp.run_ret] at h
      cases h
    | true =>
      obtain ⟨s4, h4⟩ : ∃ s4, (esettleP o).run M s3 = ((), s4) := ⟨_, rfl⟩
      rw [if_pos rfl, Vp.run_bind_is h4, Vp.run_ret] at h
      cases h
      unfold qpopP at h3
      obtain ⟨⟨z2, q2⟩, s5, h5⟩ : ∃ r s5, (refP o 2).run M s2 = (r, s5) := ⟨_, _, rfl⟩
      rw [Vp.run_bind_is h5] at h3
      cases q2 with
      | false =>
        rw [if_neg (by simp), Vp.run_ret] at h3
        cases h3
      | true =>
        obtain ⟨s6, h6⟩ : ∃ s6, (qleaveP o o z2).run M s5 = ((), s6) := ⟨_, rfl⟩
        rw [if_pos rfl, Vp.run_bind_is h6, Vp.run_ret] at h3
        cases h3
        rcases refP_rng h5 with h | h
        · exact h.2
        · cases h.1
  · rw [if_neg hy, Vp.run_ret] at h
    cases h
set_option maxRecDepth 100000 in
theorem vsend_is (V : VOk M T v fR fW Mem Ok S R) (hm : Mem w s) {o t b n : Int} {call q : Bool} {x : Int} {s1 : σ} (hn : n ≤ 9223372036854775807) (hb : b ≤ 9223372036854775807) (h : (esendP o t b n call).run M s = ((q, x), s1)) :
    Calls Try.prog 9 #[.iface T v, .int .i64 o, .int .i64 t, .int .i64 b, .int .i64 n, .bool call] w fun e w' => e = .returned (.tuple #[.bool q, errV x]) ∧ Mem w' s1 ∧ Only S w w' := by
  unfold esendP at h
  obtain ⟨qo, hqo⟩ : ∃ q, objB o 0 = q := ⟨_, rfl⟩
  obtain ⟨qt, hqt⟩ : ∃ q, objB t 0 = q := ⟨_, rfl⟩
  have cO := Lib.hid (eis_is hqo)
  have cT := Lib.hid (eis_is hqt)
  rw [hqo, hqt] at h
  cases qo with
  | false =>
    rw [if_neg (by simp), Vp.run_ret] at h
    cases h
    clear hqo hqt
    go_enter Try.func9, Try.ntmps9
    go_wp2_with ((with_reducible refine (cO.out _).mono ?_); rintro e w' ⟨rfl, rfl⟩)
    go_ret2
    exact ⟨rfl, hm, Only.refl _ _⟩
  | true =>
    cases qt with
    | false =>
      rw [if_neg (by simp), Vp.run_ret] at h
      cases h
      clear hqo hqt
      go_enter Try.func9, Try.ntmps9
      go_wp2_with ((first | (with_reducible refine (cO.out _).mono ?_) | (with_reducible refine (cT.out _).mono ?_)); rintro e w' ⟨rfl, rfl⟩)
      go_ret2
      exact ⟨rfl, hm, Only.refl _ _⟩
    | true =>
      have ho := objB_yes.1 hqo
      have ht := objB_yes.1 hqt
      rw [if_pos ⟨rfl, rfl⟩] at h
      obtain ⟨⟨r, p⟩, s2, h2⟩ : ∃ r s2, (epopP o 2).run M s = (r, s2) := ⟨_, _, rfl⟩
      rw [Vp.run_bind_is h2] at h
      have c := epop_is V hm h2
      have HV := Lib.hid V
      cases p with
      | true =>
        have hr := epop_in h2
        obtain ⟨s3, h3⟩ : ∃ s3, (ewakeP r n b).run M s2 = ((), s3) := ⟨_, rfl⟩
        rw [if_pos rfl, Vp.run_bind_is h3] at h
        obtain ⟨s4, h4⟩ : ∃ s4, (if call = true then eoweP r t else .ret () : Vp Unit).run M s3 = ((), s4) := ⟨_, rfl⟩
        rw [Vp.run_bind_is h4, Vp.run_ret] at h
        cases h
        cases call with
        | true =>
          rw [if_pos rfl] at h4
          have H := Lib.hid (And.intro h3 (And.intro h4 (And.intro hn hb)))
          clear hqo hqt h2 h3 h4 V hm hn hb
          go_enter Try.func9, Try.ntmps9
          go_wp2_with (first | ((first | (with_reducible refine (cO.out _).mono ?_) | (with_reducible refine (cT.out _).mono ?_)); rintro e w' ⟨rfl, rfl⟩))
          (with_reducible refine c.mono ?_)
          clear c cO cT
          rintro e w1 ⟨rfl, hm1, ho1⟩
          have c := ewk_is HV.out hm1 H.out.2.2.1 H.out.2.2.2 H.out.1
          go_wp2_with fail
          (with_reducible refine c.mono ?_)
          clear c
          rintro e w2 ⟨rfl, hm2, ho2⟩
          have c := eowe_is HV.out hm2 (by omega) (by omega) (by omega) (by omega) H.out.2.1
          go_wp2_with fail
          (with_reducible refine c.mono ?_)
          clear c
          rintro e w3 ⟨rfl, hm3, ho3⟩
          go_wp2_with fail
          go_ret2
          exact ⟨rfl, hm3, (ho1.trans ho2).trans ho3⟩
        | false =>
          rw [if_neg (by simp)] at h4
          cases h4
          have H := Lib.hid (And.intro h3 (And.intro hn hb))
          clear hqo hqt h2 h3 V hm hn hb
          go_enter Try.func9, Try.ntmps9
          go_wp2_with (first | ((first | (with_reducible refine (cO.out _).mono ?_) | (with_reducible refine (cT.out _).mono ?_)); rintro e w' ⟨rfl, rfl⟩))
          (with_reducible refine c.mono ?_)
          clear c cO cT
          rintro e w1 ⟨rfl, hm1, ho1⟩
          have c := ewk_is HV.out hm1 H.out.2.1 H.out.2.2 H.out.1
          go_wp2_with fail
          (with_reducible refine c.mono ?_)
          clear c
          rintro e w2 ⟨rfl, hm2, ho2⟩
          go_wp2_with fail
          go_ret2
          exact ⟨rfl, hm2, ho1.trans ho2⟩
      | false =>
        rw [if_neg (by simp)] at h
        obtain ⟨s3, h3⟩ : ∃ s3, (etellP t n b).run M s2 = ((), s3) := ⟨_, rfl⟩
        rw [Vp.run_bind_is h3] at h
        obtain ⟨m, hmm⟩ : ∃ m : Int, (if call = true then 6 else 2) = m := ⟨_, rfl⟩
        have hm6 : m ≤ 6 := by rw [← hmm]; split <;> omega
        rw [hmm] at h
        obtain ⟨s4, h4⟩ : ∃ s4, (ewaitP o t m).run M s3 = ((), s4) := ⟨_, rfl⟩
        rw [Vp.run_bind_is h4, Vp.run_ret] at h
        cases h
        have H := Lib.hid (And.intro h3 (And.intro h4 (And.intro hn hb)))
        clear hqo hqt h2 h3 h4 V hm hn hb
        cases call with
        | true =>
          rw [if_pos rfl] at hmm
          subst hmm
          go_enter Try.func9, Try.ntmps9
          go_wp2_with (first | ((first | (with_reducible refine (cO.out _).mono ?_) | (with_reducible refine (cT.out _).mono ?_)); rintro e w' ⟨rfl, rfl⟩))
          (with_reducible refine c.mono ?_)
          clear c cO cT
          rintro e w1 ⟨rfl, hm1, ho1⟩
          have c := etell_is HV.out hm1 H.out.2.2.1 H.out.2.2.2 H.out.1
          go_wp2_with fail
          (with_reducible refine c.mono ?_)
          clear c
          rintro e w2 ⟨rfl, hm2, ho2⟩
          have c := ewait_is HV.out hm2 (by omega) H.out.2.1
          go_wp2_with fail
          (with_reducible refine c.mono ?_)
          clear c
          rintro e w3 ⟨rfl, hm3, ho3⟩
          go_wp2_with fail
          go_ret2
          exact ⟨rfl, hm3, (ho1.trans ho2).trans ho3⟩
        | false =>
          rw [if_neg (by simp)] at hmm
          subst hmm
          go_enter Try.func9, Try.ntmps9
          go_wp2_with (first | ((first | (with_reducible refine (cO.out _).mono ?_) | (with_reducible refine (cT.out _).mono ?_)); rintro e w' ⟨rfl, rfl⟩))
          (with_reducible refine c.mono ?_)
          clear c cO cT
          rintro e w1 ⟨rfl, hm1, ho1⟩
          have c := etell_is HV.out hm1 H.out.2.2.1 H.out.2.2.2 H.out.1
          go_wp2_with fail
          (with_reducible refine c.mono ?_)
          clear c
          rintro e w2 ⟨rfl, hm2, ho2⟩
          have c := ewait_is HV.out hm2 (by omega) H.out.2.1
          go_wp2_with fail
          (with_reducible refine c.mono ?_)
          clear c
          rintro e w3 ⟨rfl, hm3, ho3⟩
          go_wp2_with fail
          go_ret2
          exact ⟨rfl, hm3, (ho1.trans ho2).trans ho3⟩
theorem vans_is (V : VOk M T v fR fW Mem Ok S R) (hm : Mem w s) {t n x : Int} {s1 : σ} (hn : n ≤ 9223372036854775807) (h : (eansP t n).run M s = (x, s1)) :
    Calls Try.prog 11 #[.iface T v, .int .i64 t, .int .i64 n] w fun e w' => e = .returned (errV x) ∧ Mem w' s1 ∧ Only S w w' := by
  unfold eansP at h
  obtain ⟨qt, hqt⟩ : ∃ q, objB t 0 = q := ⟨_, rfl⟩
  have cT := Lib.hid (eis_is hqt)
  rw [hqt] at h
  cases qt with
  | false =>
    rw [if_neg (by simp), Vp.run_ret] at h
    cases h
    clear hqt
    go_enter Try.func11, Try.ntmps11
    go_wp2_with ((with_reducible refine (cT.out _).mono ?_); rintro e w' ⟨rfl, rfl⟩)
    go_ret
    exact ⟨rfl, hm, Only.refl _ _⟩
  | true =>
    rw [if_pos rfl] at h
    obtain ⟨⟨r, p⟩, s2, h2⟩ : ∃ r s2, (refP t 6).run M s = (r, s2) := ⟨_, _, rfl⟩
    rw [Vp.run_bind_is h2] at h
    have c := ref_is V hm h2
    have HV := Lib.hid V
    cases p with
    | false =>
      rw [if_neg (by simp), Vp.run_ret] at h
      cases h
      clear hqt h2 V hm
      go_enter Try.func11, Try.ntmps11
      go_wp2_with (first | ((with_reducible refine (cT.out _).mono ?_); rintro e w' ⟨rfl, rfl⟩))
      (with_reducible refine c.mono ?_)
      clear c cT
      rintro e w1 ⟨rfl, hm1, ho1⟩
      go_wp2_with fail
      go_ret
      exact ⟨rfl, hm1, ho1⟩
    | true =>
      rw [if_pos rfl] at h
      obtain ⟨s3, h3⟩ : ∃ s3, (ewakeP r n 0).run M s2 = ((), s3) := ⟨_, rfl⟩
      rw [Vp.run_bind_is h3] at h
      obtain ⟨s4, h4⟩ : ∃ s4, (putP t 6 0).run M s3 = ((), s4) := ⟨_, rfl⟩
      rw [Vp.run_bind_is h4, Vp.run_ret] at h
      cases h
      have H := Lib.hid (And.intro h3 (And.intro h4 hn))
      clear hqt h2 h3 h4 V hm hn
      go_enter Try.func11, Try.ntmps11
      go_wp2_with (first | ((with_reducible refine (cT.out _).mono ?_); rintro e w' ⟨rfl, rfl⟩))
      (with_reducible refine c.mono ?_)
      clear c cT
      rintro e w1 ⟨rfl, hm1, ho1⟩
      have c := ewk_is HV.out hm1 H.out.2.2 (by decide) H.out.1
      go_wp2_with fail
      (with_reducible refine c.mono ?_)
      clear c
      rintro e w2 ⟨rfl, hm2, ho2⟩
      have c := put_is HV.out hm2 (by decide) H.out.2.1
      go_wp2_with fail
      (with_reducible refine c.mono ?_)
      clear c
      rintro e w3 ⟨rfl, hm3, ho3⟩
      go_wp2_with fail
      go_ret
      exact ⟨rfl, hm3, (ho1.trans ho2).trans ho3⟩
end
end Go.Proofs.Ytgbcgcmcfklnjaa
