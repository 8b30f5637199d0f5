/- What Highest of package tcb answers (layer 17), of any view. -/
import Derived.Test.YtdkjfalhalepgaaJ15
import Derived.Test.YtdkjfalhalepgaaJ13
import Derived.Test.YtdkjfalhalepgaaJ10
namespace Go.Proofs.Ytdkjfalhalepgaa
open Go.RowKit
section
variable {σ : Type} {M : Mach σ} {T : TypeId} {v : Value} {fR fW : FuncId} {Mem : World → σ → Prop} {Ok : σ → Prop} {S R : List Nat} {w : World} {s : σ}
set_option maxRecDepth 100000 in
theorem vthi_is (V : VOk M T v fR fW Mem Ok S R) (hm : Mem w s) {x : Int} {q : Bool} {s1 : σ} (h : (thiP 32 0 0 false).run M s = ((x, q), s1)) :
    Calls Try.prog 24 #[.iface T v] w fun e w' => e = .returned (.tuple #[.int .i64 x, .bool q]) ∧ Mem w' s1 ∧ Only S w w' := by
  have HV := Lib.hid V
  have H := Lib.hid (And.intro h hm)
  clear h hm V
  go_enter Try.func24, Try.ntmps24
  go_wp2_with fail
  go_loopw [4, 5, 7] (fun b f i wr => ∃ (k r : Nat) (bb : Int) (ff : Bool) (sr : σ), k + r = 32 ∧ i = .int .i64 k ∧ b = .int .i64 bb ∧ f = .bool ff ∧ Mem wr sr ∧ Only S w wr ∧ (thiP r (k : Int) bb ff).run M sr = ((x, q), s1)) (fun _ _ i _ => 32 - (intOf i).toNat)
  case atStart => exact ⟨0, 32, 0, false, s, rfl, rfl, rfl, rfl, H.out.2, Only.refl _ _, H.out.1⟩
  case round =>
    clear H
    obtain ⟨k, r, bb, ff, sr, hkr, rfl, rfl, rfl, hm, ho, h⟩ := hrel
    cases r with
    | zero =>
      obtain rfl : k = 32 := by omega
      cases h
      have HH := Lib.hid (And.intro hm ho)
      clear hm ho
      go_wp2_with fail
      go_ret2
      exact ⟨rfl, HH.out⟩
    | succ r =>
      have hlt : (k : Int) < 32 := by omega
      have hk1 : ((k + 1 : Nat) : Int) = (k : Int) + 1 := by omega
      unfold thiP at h
      obtain ⟨y, s2, h2⟩ : ∃ q s', (tbetP (k : Int) bb ff).run M sr = (q, s') := ⟨_, _, rfl⟩
      rw [Vp.run_bind_is h2] at h
      unfold tbetP at h2
      obtain ⟨qi, s3, h3⟩ : ∃ q s', (isP (k : Int) 5).run M sr = (q, s') := ⟨_, _, rfl⟩
      rw [Vp.run_bind_is h3] at h2
      have c := tis_is HV.out hm h3
      have HO := Lib.hid ho
      clear h3 hm ho
      cases qi with
      | false =>
        rw [if_neg (by simp), Vp.run_ret] at h2
        cases h2
        rw [if_neg (by simp)] at h
        have HN := Lib.hid h
        clear h
        go_wp2_with ((with_reducible refine c.mono ?_); clear c; rintro e w1 ⟨rfl, hm1, ho1⟩)
        exact ⟨⟨k + 1, r, bb, ff, _, by omega, by rw [hk1], rfl, rfl, hm1, HO.out.trans ho1, by rw [hk1]; exact HN.out⟩, by show 32 - ((k : Int) + 1).toNat < 32 - (k : Int).toNat; omega⟩
      | true =>
        rw [if_pos rfl] at h2
        obtain ⟨n, s4, h4⟩ : ∃ q s', (fieldP (k : Int) 1).run M s3 = (q, s') := ⟨_, _, rfl⟩
        rw [Vp.run_bind_is h4] at h2
        have H4 := Lib.hid h4
        clear h4
        by_cases hn : n = 1
        · subst hn
          rw [if_pos rfl] at h2
          cases ff with
          | false =>
            rw [if_neg (by simp), Vp.run_ret] at h2
            cases h2
            rw [if_pos rfl] at h
            have HN := Lib.hid h
            clear h
            go_wp2_with ((with_reducible refine c.mono ?_); clear c; rintro e w1 ⟨rfl, hm1, ho1⟩)
            have c := estt_is HV.out hm1 H4.out
            (with_reducible refine c.mono ?_)
            clear c
            rintro e w2 ⟨rfl, hm2, ho2⟩
            have HO2 := Lib.hid (HO.out.trans (ho1.trans ho2))
            clear hm1 ho1 ho2
            go_wp2_with fail
            exact ⟨⟨k + 1, r, (k : Int), true, _, by omega, by rw [hk1], rfl, rfl, hm2, HO2.out, by rw [hk1]; exact HN.out⟩, by show 32 - ((k : Int) + 1).toNat < 32 - (k : Int).toNat; omega⟩
          | true =>
            rw [if_pos rfl] at h2
            obtain ⟨y1, s5, h5⟩ : ∃ q s', (tprioP (k : Int)).run M s4 = (q, s') := ⟨_, _, rfl⟩
            rw [Vp.run_bind_is h5] at h2
            obtain ⟨y2, s6, h6⟩ : ∃ q s', (tprioP bb).run M s5 = (q, s') := ⟨_, _, rfl⟩
            rw [Vp.run_bind_is h6, Vp.run_ret] at h2
            have H56 := Lib.hid (And.intro h5 h6)
            clear h5 h6
            by_cases hlt2 : y2 < y1
            · rw [decide_eq_true hlt2] at h2
              cases h2
              rw [if_pos rfl] at h
              have HN := Lib.hid h
              clear h
              go_wp2_with ((with_reducible refine c.mono ?_); clear c; rintro e w1 ⟨rfl, hm1, ho1⟩)
              have c := estt_is HV.out hm1 H4.out
              (with_reducible refine c.mono ?_)
              clear c
              rintro e w2 ⟨rfl, hm2, ho2⟩
              have HO2 := Lib.hid (HO.out.trans (ho1.trans ho2))
              clear hm1 ho1 ho2
              have c := tprio_is HV.out hm2 H56.out.1
              go_wp2_with fail
              (with_reducible refine c.mono ?_)
              clear c
              rintro e w3 ⟨rfl, hm3, ho3⟩
              have c := tprio_is HV.out hm3 H56.out.2
              go_wp2_with fail
              (with_reducible refine c.mono ?_)
              clear c
              rintro e w4 ⟨rfl, hm4, ho4⟩
              have HO4 := Lib.hid (HO2.out.trans (ho3.trans ho4))
              clear hm2 hm3 ho3 ho4
              go_wp2_with fail
              exact ⟨⟨k + 1, r, (k : Int), true, _, by omega, by rw [hk1], rfl, rfl, hm4, HO4.out, by rw [hk1]; exact HN.out⟩, by show 32 - ((k : Int) + 1).toNat < 32 - (k : Int).toNat; omega⟩
            · rw [decide_eq_false hlt2] at h2
              cases h2
              rw [if_neg (by simp)] at h
              have HN := Lib.hid h
              clear h
              go_wp2_with ((with_reducible refine c.mono ?_); clear c; rintro e w1 ⟨rfl, hm1, ho1⟩)
              have c := estt_is HV.out hm1 H4.out
              (with_reducible refine c.mono ?_)
              clear c
              rintro e w2 ⟨rfl, hm2, ho2⟩
              have HO2 := Lib.hid (HO.out.trans (ho1.trans ho2))
              clear hm1 ho1 ho2
              have c := tprio_is HV.out hm2 H56.out.1
              go_wp2_with fail
              (with_reducible refine c.mono ?_)
              clear c
              rintro e w3 ⟨rfl, hm3, ho3⟩
              have c := tprio_is HV.out hm3 H56.out.2
              go_wp2_with fail
              (with_reducible refine c.mono ?_)
              clear c
              rintro e w4 ⟨rfl, hm4, ho4⟩
              have HO4 := Lib.hid (HO2.out.trans (ho3.trans ho4))
              clear hm2 hm3 ho3 ho4
              go_wp2_with fail
              exact ⟨⟨k + 1, r, bb, true, _, by omega, by rw [hk1], rfl, rfl, hm4, HO4.out, by rw [hk1]; exact HN.out⟩, by show 32 - ((k : Int) + 1).toNat < 32 - (k : Int).toNat; omega⟩
        · rw [if_neg hn, Vp.run_ret] at h2
          cases h2
          rw [if_neg (by simp)] at h
          have HN := Lib.hid h
          clear h
          go_wp2_with ((with_reducible refine c.mono ?_); clear c; rintro e w1 ⟨rfl, hm1, ho1⟩)
          have c := estt_is HV.out hm1 H4.out
          (with_reducible refine c.mono ?_)
          clear c
          rintro e w2 ⟨rfl, hm2, ho2⟩
          have HO2 := Lib.hid (HO.out.trans (ho1.trans ho2))
          clear hm1 ho1 ho2
          go_wp2_with fail
          exact ⟨⟨k + 1, r, bb, ff, _, by omega, by rw [hk1], rfl, rfl, hm2, HO2.out, by rw [hk1]; exact HN.out⟩, by show 32 - ((k : Int) + 1).toNat < 32 - (k : Int).toNat; omega⟩
end
end Go.Proofs.Ytdkjfalhalepgaa
/- What Send, Recv, Answer of package endp do (layer 15), to any view. -/
namespace Go.Proofs.Ytdkjfalhalepgaa
open Go.RowKit
abbrev replyV (w b : Int) : Value := .agg #[.int .i64 0, .int .i64 w, .int .i64 b]
section
variable {σ : Type} {M : Mach σ} {T : TypeId} {v : Value} {fR fW : FuncId} {Mem : World → σ → Prop} {Ok : σ → Prop} {S R : List Nat} {w : World} {s : σ}
theorem epop_in {o sd x : Int} {s1 : σ} (h : (epopP o sd).run M s = ((x, true), s1)) : 0 ≤ x ∧ x < 32 := by
  unfold epopP at h
  obtain ⟨y, s2, h2⟩ : ∃ x s2, (fieldP o 1).run M s = (x, s2) := ⟨_, _, rfl⟩
  rw [Vp.run_bind_is h2] at h
  by_cases hy : y = sd
  · rw [if_pos hy] at h
    obtain ⟨⟨z, q⟩, s3, h3⟩ : ∃ r s3, (qpopP o).run M s2 = (r, s3) := ⟨_, _, rfl⟩
    rw [Vp.run_bind_is h3] at h
    cases q with
    | false =>
      rw [if_neg (by simp), Vp.run_ret] at h
      cases h
    | true =>
      obtain ⟨s4, h4⟩ : ∃ s4, (esettleP o).run M s3 = ((), s4) := ⟨_, rfl⟩
      rw [if_pos rfl, Vp.run_bind_is h4, Vp.run_ret] at h
      cases h
      unfold qpopP at h3
      obtain ⟨⟨z2, q2⟩, s5, h5⟩ : ∃ r s5, (refP o 2).run M s2 = (r, s5) := ⟨_, _, rfl⟩
      rw [Vp.run_bind_is h5] at h3
      cases q2 with
      | false =>
        rw [if_neg (by simp), Vp.run_ret] at h3
        cases h3
      | true =>
        obtain ⟨s6, h6⟩ : ∃ s6, (qleaveP o o z2).run M s5 = ((), s6) := ⟨_, rfl⟩
        rw [if_pos rfl, Vp.run_bind_is h6, Vp.run_ret] at h3
        cases h3
        rcases refP_rng h5 with h | h
        · exact h.2
        · cases h.1
  · rw [if_neg hy, Vp.run_ret] at h
    cases h
set_option maxRecDepth 100000 in
theorem vsend_is (V : VOk M T v fR fW Mem Ok S R) (hm : Mem w s) {o t b n : Int} {call q : Bool} {x : Int} {s1 : σ} (hn : n ≤ 9223372036854775807) (hb : b ≤ 9223372036854775807) (h : (esendP o t b n call).run M s = ((q, x), s1)) :
    Calls Try.prog 18 #[.iface T v, .int .i64 o, .int .i64 t, .int .i64 b, .int .i64 n, .bool call] w fun e w' => e = .returned (.tuple #[.bool q, errV x]) ∧ Mem w' s1 ∧ Only S w w' := by
  unfold esendP at h
  obtain ⟨qo, hqo⟩ : ∃ q, objB o 0 = q := ⟨_, rfl⟩
  obtain ⟨qt, hqt⟩ : ∃ q, objB t 0 = q := ⟨_, rfl⟩
  have cO := Lib.hid (eis_is hqo)
  have cT := Lib.hid (eis_is hqt)
  rw [hqo, hqt] at h
  cases qo with
  | false =>
    rw [if_neg (by simp), Vp.run_ret] at h
    cases h
    clear hqo hqt
    go_enter Try.func18, Try.ntmps18
    go_wp2_with ((with_reducible refine (cO.out _).mono ?_); rintro e w' ⟨rfl, rfl⟩)
    go_ret2
    exact ⟨rfl, hm, Only.refl _ _⟩
  | true =>
    cases qt with
    | false =>
      rw [if_neg (by simp), Vp.run_ret] at h
      cases h
      clear hqo hqt
      go_enter Try.func18, Try.ntmps18
      go_wp2_with ((first | (with_reducible refine (cO.out _).mono ?_) | (with_reducible refine (cT.out _).mono ?_)); rintro e w' ⟨rfl, rfl⟩)
      go_ret2
      exact ⟨rfl, hm, Only.refl _ _⟩
    | true =>
      have ho := objB_yes.1 hqo
      have ht := objB_yes.1 hqt
      rw [if_pos ⟨rfl, rfl⟩] at h
      obtain ⟨⟨r, p⟩, s2, h2⟩ : ∃ r s2, (epopP o 2).run M s = (r, s2) := ⟨_, _, rfl⟩
      rw [Vp.run_bind_is h2] at h
      have c := epop_is V hm h2
      have HV := Lib.hid V
      cases p with
      | true =>
        have hr := epop_in h2
        obtain ⟨s3, h3⟩ : ∃ s3, (ewakeP r n b).run M s2 = ((), s3) := ⟨_, rfl⟩
        rw [if_pos rfl, Vp.run_bind_is h3] at h
        obtain ⟨s4, h4⟩ : ∃ s4, (if call = true then eoweP r t else .ret () : Vp Unit).run M s3 = ((), s4) := ⟨_, rfl⟩
        rw [Vp.run_bind_is h4, Vp.run_ret] at h
        cases h
        cases call with
        | true =>
          rw [if_pos rfl] at h4
          have H := Lib.hid (And.intro h3 (And.intro h4 (And.intro hn hb)))
          clear hqo hqt h2 h3 h4 V hm hn hb
          go_enter Try.func18, Try.ntmps18
          go_wp2_with (first | ((first | (with_reducible refine (cO.out _).mono ?_) | (with_reducible refine (cT.out _).mono ?_)); rintro e w' ⟨rfl, rfl⟩))
          (with_reducible refine c.mono ?_)
          clear c cO cT
          rintro e w1 ⟨rfl, hm1, ho1⟩
          have c := ewk_is HV.out hm1 H.out.2.2.1 H.out.2.2.2 H.out.1
          go_wp2_with fail
          (with_reducible refine c.mono ?_)
          clear c
          rintro e w2 ⟨rfl, hm2, ho2⟩
          have c := eowe_is HV.out hm2 (by omega) (by omega) (by omega) (by omega) H.out.2.1
          go_wp2_with fail
          (with_reducible refine c.mono ?_)
          clear c
          rintro e w3 ⟨rfl, hm3, ho3⟩
          go_wp2_with fail
          go_ret2
          exact ⟨rfl, hm3, (ho1.trans ho2).trans ho3⟩
        | false =>
          rw [if_neg (by simp)] at h4
          cases h4
          have H := Lib.hid (And.intro h3 (And.intro hn hb))
          clear hqo hqt h2 h3 V hm hn hb
          go_enter Try.func18, Try.ntmps18
          go_wp2_with (first | ((first | (with_reducible refine (cO.out _).mono ?_) | (with_reducible refine (cT.out _).mono ?_)); rintro e w' ⟨rfl, rfl⟩))
          (with_reducible refine c.mono ?_)
          clear c cO cT
          rintro e w1 ⟨rfl, hm1, ho1⟩
          have c := ewk_is HV.out hm1 H.out.2.1 H.out.2.2 H.out.1
          go_wp2_with fail
          (with_reducible refine c.mono ?_)
          clear c
          rintro e w2 ⟨rfl, hm2, ho2⟩
          go_wp2_with fail
          go_ret2
          exact ⟨rfl, hm2, ho1.trans ho2⟩
      | false =>
        rw [if_neg (by simp)] at h
        obtain ⟨s3, h3⟩ : ∃ s3, (etellP t n b).run M s2 = ((), s3) := ⟨_, rfl⟩
        rw [Vp.run_bind_is h3] at h
        obtain ⟨m, hmm⟩ : ∃ m : Int, (if call = true then 6 else 2) = m := ⟨_, rfl⟩
        have hm6 : m ≤ 6 := by rw [← hmm]; split <;> omega
        rw [hmm] at h
        obtain ⟨s4, h4⟩ : ∃ s4, (ewaitP o t m).run M s3 = ((), s4) := ⟨_, rfl⟩
        rw [Vp.run_bind_is h4, Vp.run_ret] at h
        cases h
        have H := Lib.hid (And.intro h3 (And.intro h4 (And.intro hn hb)))
        clear hqo hqt h2 h3 h4 V hm hn hb
        cases call with
        | true =>
          rw [if_pos rfl] at hmm
          subst hmm
          go_enter Try.func18, Try.ntmps18
          go_wp2_with (first | ((first | (with_reducible refine (cO.out _).mono ?_) | (with_reducible refine (cT.out _).mono ?_)); rintro e w' ⟨rfl, rfl⟩))
          (with_reducible refine c.mono ?_)
          clear c cO cT
          rintro e w1 ⟨rfl, hm1, ho1⟩
          have c := etell_is HV.out hm1 H.out.2.2.1 H.out.2.2.2 H.out.1
          go_wp2_with fail
          (with_reducible refine c.mono ?_)
          clear c
          rintro e w2 ⟨rfl, hm2, ho2⟩
          have c := ewait_is HV.out hm2 (by omega) H.out.2.1
          go_wp2_with fail
          (with_reducible refine c.mono ?_)
          clear c
          rintro e w3 ⟨rfl, hm3, ho3⟩
          go_wp2_with fail
          go_ret2
          exact ⟨rfl, hm3, (ho1.trans ho2).trans ho3⟩
        | false =>
          rw [if_neg (by simp)] at hmm
          subst hmm
          go_enter Try.func18, Try.ntmps18
          go_wp2_with (first | ((first | (with_reducible refine (cO.out _).mono ?_) | (with_reducible refine (cT.out _).mono ?_)); rintro e w' ⟨rfl, rfl⟩))
          (with_reducible refine c.mono ?_)
          clear c cO cT
          rintro e w1 ⟨rfl, hm1, ho1⟩
          have c := etell_is HV.out hm1 H.out.2.2.1 H.out.2.2.2 H.out.1
          go_wp2_with fail
          (with_reducible refine c.mono ?_)
          clear c
          rintro e w2 ⟨rfl, hm2, ho2⟩
          have c := ewait_is HV.out hm2 (by omega) H.out.2.1
          go_wp2_with fail
          (with_reducible refine c.mono ?_)
          clear c
          rintro e w3 ⟨rfl, hm3, ho3⟩
          go_wp2_with fail
          go_ret2
          exact ⟨rfl, hm3, (ho1.trans ho2).trans ho3⟩
theorem vans_is (V : VOk M T v fR fW Mem Ok S R) (hm : Mem w s) {t n x : Int} {s1 : σ} (hn : n ≤ 9223372036854775807) (h : (eansP t n).run M s = (x, s1)) :
    Calls Try.prog 30 #[.iface T v, .int .i64 t, .int .i64 n] w fun e w' => e = .returned (errV x) ∧ Mem w' s1 ∧ Only S w w' := by
  unfold eansP at h
  obtain ⟨qt, hqt⟩ : ∃ q, objB t 0 = q := ⟨_, rfl⟩
  have cT := Lib.hid (eis_is hqt)
  rw [hqt] at h
  cases qt with
  | false =>
    rw [if_neg (by simp), Vp.run_ret] at h
    cases h
    clear hqt
    go_enter Try.func30, Try.ntmps30
    go_wp2_with ((with_reducible refine (cT.out _).mono ?_); rintro e w' ⟨rfl, rfl⟩)
    go_ret
    exact ⟨rfl, hm, Only.refl _ _⟩
  | true =>
    rw [if_pos rfl] at h
    obtain ⟨⟨r, p⟩, s2, h2⟩ : ∃ r s2, (refP t 6).run M s = (r, s2) := ⟨_, _, rfl⟩
    rw [Vp.run_bind_is h2] at h
    have c := ref_is V hm h2
    have HV := Lib.hid V
    cases p with
    | false =>
      rw [if_neg (by simp), Vp.run_ret] at h
      cases h
      clear hqt h2 V hm
      go_enter Try.func30, Try.ntmps30
      go_wp2_with (first | ((with_reducible refine (cT.out _).mono ?_); rintro e w' ⟨rfl, rfl⟩))
      (with_reducible refine c.mono ?_)
      clear c cT
      rintro e w1 ⟨rfl, hm1, ho1⟩
      go_wp2_with fail
      go_ret
      exact ⟨rfl, hm1, ho1⟩
    | true =>
      rw [if_pos rfl] at h
      obtain ⟨s3, h3⟩ : ∃ s3, (ewakeP r n 0).run M s2 = ((), s3) := ⟨_, rfl⟩
      rw [Vp.run_bind_is h3] at h
      obtain ⟨s4, h4⟩ : ∃ s4, (putP t 6 0).run M s3 = ((), s4) := ⟨_, rfl⟩
      rw [Vp.run_bind_is h4, Vp.run_ret] at h
      cases h
      have H := Lib.hid (And.intro h3 (And.intro h4 hn))
      clear hqt h2 h3 h4 V hm hn
      go_enter Try.func30, Try.ntmps30
      go_wp2_with (first | ((with_reducible refine (cT.out _).mono ?_); rintro e w' ⟨rfl, rfl⟩))
      (with_reducible refine c.mono ?_)
      clear c cT
      rintro e w1 ⟨rfl, hm1, ho1⟩
      have c := ewk_is HV.out hm1 H.out.2.2 (by decide) H.out.1
      go_wp2_with fail
      (with_reducible refine c.mono ?_)
      clear c
      rintro e w2 ⟨rfl, hm2, ho2⟩
      have c := put_is HV.out hm2 (by decide) H.out.2.1
      go_wp2_with fail
      (with_reducible refine c.mono ?_)
      clear c
      rintro e w3 ⟨rfl, hm3, ho3⟩
      go_wp2_with fail
      go_ret
      exact ⟨rfl, hm3, (ho1.trans ho2).trans ho3⟩
end
end Go.Proofs.Ytdkjfalhalepgaa
/- What Recv of package endp does (layer 15), to any view. -/
namespace Go.Proofs.Ytdkjfalhalepgaa
open Go.RowKit
section
variable {σ : Type} {M : Mach σ} {T : TypeId} {v : Value} {fR fW : FuncId} {Mem : World → σ → Prop} {Ok : σ → Prop} {S R : List Nat} {w : World} {s : σ}
theorem blk3 {g : Nat} {t : TypeId} {a b c : Value} (h : Blk w g t #[a, b, c]) : w.cell? ⟨g, 0, none⟩ = some a ∧ w.cell? ⟨g, 1, none⟩ = some b ∧ w.cell? ⟨g, 2, none⟩ = some c ∧ w.frozen? ⟨g, 0, none⟩ = false ∧ w.frozen? ⟨g, 1, none⟩ = false ∧ w.frozen? ⟨g, 2, none⟩ = false :=
  ⟨h.cell 0, h.cell 1, h.cell 2, h.frozen 0, h.frozen 1, h.frozen 2⟩
/-- the result's own block is written: of all else nothing turns -/
theorem put3 {w0 : World} (V : VOk M T v fR fW Mem Ok S R) (hm : Mem w s) (ho : Only S w0 w) {g : Nat} (hg : w0.heap.size ≤ g) (hR : g ∉ R) (a b c : Value) :
    Mem (((w.setCell ⟨g, 0, none⟩ a).setCell ⟨g, 1, none⟩ b).setCell ⟨g, 2, none⟩ c) s ∧ Only S w0 (((w.setCell ⟨g, 0, none⟩ a).setCell ⟨g, 1, none⟩ b).setCell ⟨g, 2, none⟩ c) :=
  ⟨V.put (V.put (V.put hm hR 0 a) hR 1 b) hR 2 c, ((ho.setCell (.inr hg) a).setCell (.inr hg) b).setCell (.inr hg) c⟩
set_option maxRecDepth 100000 in
theorem vrecv_is (V : VOk M T v fR fW Mem Ok S R) (hm : Mem w s) {o t n b x : Int} {q : Bool} {s1 : σ} (h : (erecvP o t).run M s = ((n, b, q, x), s1)) :
    Calls Try.prog 20 #[.iface T v, .int .i64 o, .int .i64 t] w fun e w' => e = .returned (.tuple #[replyV n b, .bool q, errV x]) ∧ Mem w' s1 ∧ Only S w w' := by
  unfold erecvP at h
  obtain ⟨qo, hqo⟩ : ∃ q, objB o 0 = q := ⟨_, rfl⟩
  obtain ⟨qt, hqt⟩ : ∃ q, objB t 0 = q := ⟨_, rfl⟩
  have cO := Lib.hid (eis_is hqo)
  have cT := Lib.hid (eis_is hqt)
  rw [hqo, hqt] at h
  have hr : w.heap.size ∉ R := V.fresh hm (Nat.le_refl _)
  have hs : w.heap.size ∉ S := V.freshS hm (Nat.le_refl _)
  have o0 : Only [] w (w.alloc (.cells #[.int .i64 0, .int .i64 0, .int .i64 0] 46)) := (Only.refl [] w).alloc _
  have hm0 := V.only0 hm o0
  have ho0 : Only S w (w.alloc (.cells #[.int .i64 0, .int .i64 0, .int .i64 0] 46)) := (Only.refl S w).alloc _
  have hb0 := Blk.new w 46 #[.int .i64 0, .int .i64 0, .int .i64 0]
  have HR := Lib.hid (And.intro hr hs)
  clear o0 hm hr hs
  cases qo with
  | false =>
    rw [if_neg (by simp), Vp.run_ret] at h
    cases h
    clear hqo hqt
    obtain ⟨k0, k1, k2, f0, f1, f2⟩ := blk3 hb0
    go_enter Try.func20, Try.ntmps20
    go_wp2_with ((with_reducible refine (cO.out _).mono ?_); rintro e w' ⟨rfl, rfl⟩)
    refine bodyPost_ret (v := .tuple #[replyV 0 0, .bool false, errV 2]) (by simp [results, Try.results20, go_sem, k0, k1, k2, replyV, errV]) rfl ⟨rfl, hm0, ho0⟩
  | true =>
    cases qt with
    | false =>
      rw [if_neg (by simp), Vp.run_ret] at h
      cases h
      clear hqo hqt
      obtain ⟨k0, k1, k2, f0, f1, f2⟩ := blk3 hb0
      go_enter Try.func20, Try.ntmps20
      go_wp2_with ((first | (with_reducible refine (cO.out _).mono ?_) | (with_reducible refine (cT.out _).mono ?_)); rintro e w' ⟨rfl, rfl⟩)
      refine bodyPost_ret (v := .tuple #[replyV 0 0, .bool false, errV 2]) (by simp [results, Try.results20, go_sem, k0, k1, k2, replyV, errV]) rfl ⟨rfl, hm0, ho0⟩
    | true =>
      have HB := Lib.hid (And.intro hb0 ho0)
      clear hb0 ho0
      have ho := objB_yes.1 hqo
      have ht := objB_yes.1 hqt
      rw [if_pos ⟨rfl, rfl⟩] at h
      obtain ⟨⟨r, p⟩, s2, h2⟩ : ∃ r s2, (refP t 6).run M s = (r, s2) := ⟨_, _, rfl⟩
      rw [Vp.run_bind_is h2] at h
      have c := ref_is V hm0 h2
      have HV := Lib.hid V
      cases p with
      | true =>
        rw [if_pos rfl, Vp.run_ret] at h
        cases h
        clear hqo hqt h2 V hm0
        go_enter Try.func20, Try.ntmps20
        go_wp2_with (first | ((first | (with_reducible refine (cO.out _).mono ?_) | (with_reducible refine (cT.out _).mono ?_)); rintro e w' ⟨rfl, rfl⟩))
        (with_reducible refine c.mono ?_)
        clear c cO cT
        rintro e w1 ⟨rfl, hm1, ho1⟩
        obtain ⟨k0, k1, k2, f0, f1, f2⟩ := blk3 (ho1.blk HB.out.1 HR.out.2)
        have HE := Lib.hid (put3 HV.out hm1 (HB.out.2.trans ho1) (Nat.le_refl _) HR.out.1 (.int .i64 0) (.int .i64 0) (.int .i64 0))
        clear hm1 ho1
        go_wp2_with fail
        refine bodyPost_ret (v := .tuple #[replyV 0 0, .bool false, errV 10]) (by simp [results, Try.results20, go_sem, k0, k1, k2, replyV, errV]) rfl ⟨rfl, HE.out.1, HE.out.2⟩
      | false =>
        rw [if_neg (by simp)] at h
        obtain ⟨⟨y, p⟩, s3, h3⟩ : ∃ r s3, (epopP o 1).run M s2 = (r, s3) := ⟨_, _, rfl⟩
        rw [Vp.run_bind_is h3] at h
        cases p with
        | false =>
          rw [if_neg (by simp)] at h
          obtain ⟨s4, h4⟩ : ∃ s4, (ewaitP o t 3).run M s3 = ((), s4) := ⟨_, rfl⟩
          rw [Vp.run_bind_is h4, Vp.run_ret] at h
          cases h
          have H := Lib.hid (And.intro h3 h4)
          clear hqo hqt h2 h3 h4 V hm0
          go_enter Try.func20, Try.ntmps20
          go_wp2_with (first | ((first | (with_reducible refine (cO.out _).mono ?_) | (with_reducible refine (cT.out _).mono ?_)); rintro e w' ⟨rfl, rfl⟩))
          (with_reducible refine c.mono ?_)
          clear c cO cT
          rintro e w1 ⟨rfl, hm1, ho1⟩
          have c := epop_is HV.out hm1 H.out.1
          go_wp2_with fail
          (with_reducible refine c.mono ?_)
          clear c
          rintro e w2 ⟨rfl, hm2, ho2⟩
          have c := ewait_is HV.out hm2 (by decide) H.out.2
          go_wp2_with fail
          (with_reducible refine c.mono ?_)
          clear c
          rintro e w3 ⟨rfl, hm3, ho3⟩
          have ho := (ho1.trans ho2).trans ho3
          obtain ⟨k0, k1, k2, f0, f1, f2⟩ := blk3 (ho.blk HB.out.1 HR.out.2)
          have HE := Lib.hid (put3 HV.out hm3 (HB.out.2.trans ho) (Nat.le_refl _) HR.out.1 (.int .i64 0) (.int .i64 0) (.int .i64 0))
          clear hm1 ho1 hm2 ho2 hm3 ho3 ho
          go_wp2_with fail
          refine bodyPost_ret (v := .tuple #[replyV 0 0, .bool false, errV 0]) (by simp [results, Try.results20, go_sem, k0, k1, k2, replyV, errV]) rfl ⟨rfl, HE.out.1, HE.out.2⟩
        | true =>
          have hy := epop_in h3
          rw [if_pos rfl] at h
          obtain ⟨a, s4, h4⟩ : ∃ a s4, (fieldP y 3).run M s3 = (a, s4) := ⟨_, _, rfl⟩
          rw [Vp.run_bind_is h4] at h
          obtain ⟨d, s5, h5⟩ : ∃ a s5, (fieldP y 4).run M s4 = (a, s5) := ⟨_, _, rfl⟩
          rw [Vp.run_bind_is h5] at h
          obtain ⟨m, s6, h6⟩ : ∃ a s6, (fieldP y 1).run M s5 = (a, s6) := ⟨_, _, rfl⟩
          rw [Vp.run_bind_is h6] at h
          obtain ⟨s7, h7⟩ : ∃ s7, (etookP t y m).run M s6 = ((), s7) := ⟨_, rfl⟩
          rw [Vp.run_bind_is h7, Vp.run_ret] at h
          cases h
          have H := Lib.hid (And.intro h3 (And.intro h4 (And.intro h5 (And.intro h6 h7))))
          clear hqo hqt h2 h3 h4 h5 h6 h7 V hm0
          go_enter Try.func20, Try.ntmps20
          go_wp2_with (first | ((first | (with_reducible refine (cO.out _).mono ?_) | (with_reducible refine (cT.out _).mono ?_)); rintro e w' ⟨rfl, rfl⟩))
          (with_reducible refine c.mono ?_)
          clear c cO cT
          rintro e w1 ⟨rfl, hm1, ho1⟩
          have c := epop_is HV.out hm1 H.out.1
          go_wp2_with fail
          (with_reducible refine c.mono ?_)
          clear c
          rintro e w2 ⟨rfl, hm2, ho2⟩
          have c := field_is HV.out hm2 H.out.2.1
          go_wp2_with fail
          (with_reducible refine c.mono ?_)
          clear c
          rintro e w3 ⟨rfl, hm3, ho3⟩
          have c := field_is HV.out hm3 H.out.2.2.1
          go_wp2_with fail
          (with_reducible refine c.mono ?_)
          clear c
          rintro e w4 ⟨rfl, hm4, ho4⟩
          have ho := ((ho1.trans ho2).trans ho3).trans ho4
          have hsz := HB.out.2.size
          have hb4 := (ho.blk HB.out.1 HR.out.2)
          have hR4 : w4.heap.size ∉ R := HV.out.fresh hm4 (Nat.le_refl _)
          have hS4 : w4.heap.size ∉ S := HV.out.freshS hm4 (Nat.le_refl _)
          have HX := Lib.hid (And.intro hb4 (And.intro (HB.out.2.trans ho) (And.intro hm4 (And.intro hR4 hS4))))
          clear hm1 ho1 hm2 ho2 hm3 ho3 hm4 ho4 ho hsz hb4 hR4 hS4
          go_upto_region 11 with fail
          have hb5 := HX.out.1.alloc (.cells #[.int .i64 0, .int .i64 n, .int .i64 b] 46)
          have hb6 := Blk.new w4 46 #[.int .i64 0, .int .i64 n, .int .i64 b]
          have hm5 := HV.out.only0 HX.out.2.2.1 ((Only.refl [] w4).alloc (.cells #[.int .i64 0, .int .i64 n, .int .i64 b] 46))
          have ho5 := HX.out.2.1.alloc (.cells #[.int .i64 0, .int .i64 n, .int .i64 b] 46)
          have hx := HX.out.2.2.2
          clear HX HB
          generalize w4.alloc (.cells #[.int .i64 0, .int .i64 n, .int .i64 b] 46) = w5 at *
          generalize w4.heap.size = g2 at *
          have HX := Lib.hid (And.intro hb5 (And.intro hb6 (And.intro ho5 hx)))
          have c := estt_is HV.out hm5 H.out.2.2.2.1
          clear hb5 hb6 hm5 ho5 hx
          go_upto_region 12 with fail
          (with_reducible refine c.mono ?_)
          clear c
          rintro e w6 ⟨rfl, hm6, ho6⟩
          obtain ⟨-, -, -, -, h7⟩ := H.out
          unfold etookP at h7
          by_cases m2 : m = 2
          · rw [if_pos m2] at h7
            subst m2
            have c := ewk_is HV.out hm6 (by decide) (by decide) h7
            clear h7 H
            go_wp2_with fail
            (with_reducible refine c.mono ?_)
            clear c
            rintro e w7 ⟨rfl, hmX, ho7⟩
            have ho := ho6.trans ho7
            clear hm6 ho6 ho7
            obtain ⟨k0, k1, k2, f0, f1, f2⟩ := blk3 (ho.blk HX.out.1 HR.out.2)
            obtain ⟨l0, l1, l2, -, -, -⟩ := blk3 (ho.blk HX.out.2.1 HX.out.2.2.2.2)
            have HE := Lib.hid (put3 HV.out hmX (HX.out.2.2.1.trans ho) (Nat.le_refl _) HR.out.1 (.int .i64 0) (.int .i64 n) (.int .i64 b))
            clear hmX ho
            go_wp2_with fail
            refine bodyPost_ret (v := .tuple #[replyV n b, .bool true, errV 0]) (by simp [results, Try.results20, go_sem, k0, k1, k2, replyV, errV]) rfl ⟨rfl, HE.out.1, HE.out.2⟩
          rw [if_neg m2] at h7
          by_cases m6 : m = 6
          · rw [if_pos m6] at h7
            subst m6
            obtain ⟨s8, h8⟩ : ∃ s8, (eonP y 0).run M s6 = ((), s8) := ⟨_, rfl⟩
            rw [Vp.run_bind_is h8] at h7
            have c := eson_is HV.out hm6 (by decide) (by decide) h8
            have H7 := Lib.hid h7
            clear h7 H h8 m2
            go_wp2_with fail
            (with_reducible refine c.mono ?_)
            clear c
            rintro e w7 ⟨rfl, hm7, ho7⟩
            have c := eowe_is HV.out hm7 (by omega) (by omega) (by omega) (by omega) H7.out
            go_wp2_with fail
            (with_reducible refine c.mono ?_)
            clear c
            rintro e w8 ⟨rfl, hmX, ho8⟩
            have ho := (ho6.trans ho7).trans ho8
            clear hm6 ho6 hm7 ho7 ho8
            obtain ⟨k0, k1, k2, f0, f1, f2⟩ := blk3 (ho.blk HX.out.1 HR.out.2)
            obtain ⟨l0, l1, l2, -, -, -⟩ := blk3 (ho.blk HX.out.2.1 HX.out.2.2.2.2)
            have HE := Lib.hid (put3 HV.out hmX (HX.out.2.2.1.trans ho) (Nat.le_refl _) HR.out.1 (.int .i64 0) (.int .i64 n) (.int .i64 b))
            clear hmX ho
            go_wp2_with fail
            refine bodyPost_ret (v := .tuple #[replyV n b, .bool true, errV 0]) (by simp [results, Try.results20, go_sem, k0, k1, k2, replyV, errV]) rfl ⟨rfl, HE.out.1, HE.out.2⟩
          rw [if_neg m6] at h7
          cases h7
          have hmX := hm6
          have ho := ho6
          clear hm6 ho6 H
          obtain ⟨k0, k1, k2, f0, f1, f2⟩ := blk3 (ho.blk HX.out.1 HR.out.2)
          obtain ⟨l0, l1, l2, -, -, -⟩ := blk3 (ho.blk HX.out.2.1 HX.out.2.2.2.2)
          have HE := Lib.hid (put3 HV.out hmX (HX.out.2.2.1.trans ho) (Nat.le_refl _) HR.out.1 (.int .i64 0) (.int .i64 n) (.int .i64 b))
          clear hmX ho
          go_wp2_with fail
          refine bodyPost_ret (v := .tuple #[replyV n b, .bool true, errV 0]) (by simp [results, Try.results20, go_sem, k0, k1, k2, replyV, errV]) rfl ⟨rfl, HE.out.1, HE.out.2⟩
end
end Go.Proofs.Ytdkjfalhalepgaa
/- Package endp's calls on plain words that tell a sound state (layer 15). -/
namespace Go.Proofs.Ytdkjfalhalepgaa
open Go.RowKit
abbrev pvw (g : Nat) : Value := .iface PwT (.slice (some ⟨g, 0, none⟩) 738 738)
section
variable {g : Nat} {w : World} {S : RSt} {ep t b n : Int}
theorem esend_is (hm : MemP g 738 UT w (wordsG S)) (h : Eok S) (he : EpAt S ep) (ht : S.Thr t) (h1 : (S.ob t).state = 1) (hn : b40 n) (hb : b40 b) (call : Bool) :
    Calls Try.prog 18 #[pvw g, .int .i64 ep, .int .i64 t, .int .i64 b, .int .i64 n, .bool call] w fun e w' => e = .returned (.tuple #[.bool (sendA S ep call), .nilIface]) ∧ MemP g 738 UT w' (wordsG (sendS S ep t b n call)) ∧ Only [g] w w' := by
  obtain ⟨L', h2, q⟩ := h.wok.esend h he ht h1 hn hb call
  exact (vsend_is (viewP g 738 738 UT) hm (by have := hn.2; omega) (by have := hb.2; omega) h2).mono fun e w' ⟨he, hm', ho⟩ => ⟨he, q.words ▸ hm', ho⟩
theorem erecv_bad (hm : MemP g 738 UT w (wordsG S)) (h : Eok S) (he : EpAt S ep) (ht : S.Thr t) (h1 : (S.ob t).state = 1) (h0 : 0 ≤ (S.ob t).owes) :
    Calls Try.prog 20 #[pvw g, .int .i64 ep, .int .i64 t] w fun e w' => e = .returned (.tuple #[replyV 0 0, .bool false, errV 10]) ∧ MemP g 738 UT w' (wordsG S) ∧ Only [g] w w' := by
  exact vrecv_is (viewP g 738 738 UT) hm (h.wok.erecv_bad h he ht h0)
theorem erecv_told (hm : MemP g 738 UT w (wordsG S)) (h : Eok S) (he : EpAt S ep) (ht : S.Thr t) (h1 : (S.ob t).state = 1) (h0 : ¬ 0 ≤ (S.ob t).owes) (h2 : (S.ob ep).wait = 1) :
    Calls Try.prog 20 #[pvw g, .int .i64 ep, .int .i64 t] w fun e w' => e = .returned (.tuple #[replyV (S.ob (headQ S ep)).word (S.ob (headQ S ep)).badge, .bool true, .nilIface]) ∧ MemP g 738 UT w' (wordsG (recvS S ep t)) ∧ Only [g] w w' := by
  obtain ⟨L', h3, q⟩ := h.wok.erecv_told h he ht h1 h0 h2
  exact (vrecv_is (viewP g 738 738 UT) hm h3).mono fun e w' ⟨he, hm', ho⟩ => ⟨he, q.words ▸ hm', ho⟩
theorem erecv_waits (hm : MemP g 738 UT w (wordsG S)) (h : Eok S) (he : EpAt S ep) (ht : S.Thr t) (h1 : (S.ob t).state = 1) (h0 : ¬ 0 ≤ (S.ob t).owes) (h2 : (S.ob ep).wait ≠ 1) :
    Calls Try.prog 20 #[pvw g, .int .i64 ep, .int .i64 t] w fun e w' => e = .returned (.tuple #[replyV 0 0, .bool false, .nilIface]) ∧ MemP g 738 UT w' (wordsG (recvS S ep t)) ∧ Only [g] w w' := by
  obtain ⟨L', h3, q⟩ := h.wok.erecv_waits h he ht h1 h0 h2
  exact (vrecv_is (viewP g 738 738 UT) hm h3).mono fun e w' ⟨he, hm', ho⟩ => ⟨he, q.words ▸ hm', ho⟩
theorem eans_is (hm : MemP g 738 UT w (wordsG S)) (h : Eok S) (ht : S.Thr t) (hn : b40 n) :
    Calls Try.prog 30 #[pvw g, .int .i64 t, .int .i64 n] w fun e w' => e = .returned (errV (if (S.ob t).owes < 0 then 10 else 0)) ∧ MemP g 738 UT w' (wordsG (ansS S t n)) ∧ Only [g] w w' := by
  obtain ⟨L', h2, q⟩ := h.wok.eans h ht hn
  exact (vans_is (viewP g 738 738 UT) hm (by have := hn.2; omega) h2).mono fun e w' ⟨he, hm', ho⟩ => ⟨he, q.words ▸ hm', ho⟩
theorem estate_is (hm : MemP g 738 UT w (wordsG S)) (h : Eok S) (ht : S.Thr t) :
    Calls Try.prog 29 #[pvw g, .int .i64 t] w fun e w' => e = .returned (.int .i64 (S.ob t).state) ∧ MemP g 738 UT w' (wordsG S) ∧ Only [g] w w' := by
  exact estt_is (viewP g 738 738 UT) hm (by rw [fieldP_plain, (h.wok.thr ht).1])
theorem eon_is (hm : MemP g 738 UT w (wordsG S)) (h : Eok S) (ht : S.Thr t) :
    Calls Try.prog 32 #[pvw g, .int .i64 t] w fun e w' => e = .returned (.tuple #[.int .i64 (if 0 ≤ (S.ob t).on then (S.ob t).on else 0), .bool (decide (0 ≤ (S.ob t).on))]) ∧ MemP g 738 UT w' (wordsG S) ∧ Only [g] w w' := by
  have hp := h.pr t ht
  have h1 := h.ei.one1 t ht
  have h2 : (S.ob t).on < 32 := by
    by_cases e : 0 ≤ (S.ob t).on
    · have hm := (h.ei.on t ht _ e).1 rfl
      have := (h.ei.qf.own _ (fun e => by rw [e] at hm; simp at hm)).1
      omega
    · omega
  have e : (eonQ t).run machP (wordsG S) = ((if 0 ≤ (S.ob t).on then (S.ob t).on else 0, decide (0 ≤ (S.ob t).on)), wordsG S) := by
    unfold eonQ
    rw [Vp.run_bind_is fieldP_plain, (h.wok.thr ht).2.2.2.1, Vp.run_ret, show ((S.ob t).prio + 256 * ((S.ob t).on + 1)) / 256 - 1 = (S.ob t).on by omega]
    by_cases e : 0 ≤ (S.ob t).on
    · rw [if_pos (objB_in ⟨e, h2⟩ ⟨by omega, by omega⟩), if_pos e, decide_eq_true e]
    · rw [if_neg (fun z => e (objB_yes.1 z).1), if_neg e, decide_eq_false e]
  exact eonq_is (viewP g 738 738 UT) hm e
end
end Go.Proofs.Ytdkjfalhalepgaa
