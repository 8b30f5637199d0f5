/- What Wake, owe, settle, Block, wait, pop of package endp do (layer 15), to any view. -/
import Derived.Test.YtgbcgcmcfklnjaaEndA
import Derived.Test.YtgbcgcmcfklnjaaJ13
namespace Go.Proofs.Ytgbcgcmcfklnjaa
open Go.RowKit
section
variable {σ : Type} {M : Mach σ} {T : TypeId} {v : Value} {fR fW : FuncId} {Mem : World → σ → Prop} {Ok : σ → Prop} {S R : List Nat} {w : World} {s : σ}
set_option maxRecDepth 100000 in
theorem ewk_is (V : VOk M T v fR fW Mem Ok S R) (hm : Mem w s) {t n b : Int} {s1 : σ} (hn : n ≤ 9223372036854775807) (hb : b ≤ 9223372036854775807) (h : (ewakeP t n b).run M s = ((), s1)) :
    Calls Try.prog 19 #[.iface T v, .int .i64 t, .int .i64 n, .int .i64 b] w fun e w' => e = .returned (.tuple #[]) ∧ Mem w' s1 ∧ Only S w w' := by
  unfold ewakeP at h
  obtain ⟨st, s2, h2⟩ : ∃ x s2, (fieldP t 1).run M s = (x, s2) := ⟨_, _, rfl⟩
  rw [Vp.run_bind_is h2] at h
  obtain ⟨s3, h3⟩ : ∃ s3, (if st = 4 then putP t 2 0 else .ret () : Vp Unit).run M s2 = ((), s3) := ⟨_, rfl⟩
  rw [Vp.run_bind_is h3] at h
  obtain ⟨s4, h4⟩ : ∃ s4, (putP t 1 1).run M s3 = ((), s4) := ⟨_, rfl⟩
  rw [Vp.run_bind_is h4] at h
  obtain ⟨s5, h5⟩ : ∃ s5, (eonP t 0).run M s4 = ((), s5) := ⟨_, rfl⟩
  rw [Vp.run_bind_is h5] at h
  have c := estt_is V hm h2
  have HV := Lib.hid V
  have H := Lib.hid (And.intro h4 (And.intro h5 (And.intro h (And.intro hn hb))))
  clear h h2 h4 h5 hm V hn hb
  by_cases h4 : st = 4
  · subst h4
    rw [if_pos rfl] at h3
    have H3 := Lib.hid h3
    clear h3
    go_enter Try.func19, Try.ntmps19
    go_wp2_with fail
    (with_reducible refine c.mono ?_)
    clear c
    rintro e w1 ⟨rfl, hm1, ho1⟩
    have c := put_is HV.out hm1 (by decide) H3.out
    go_wp2_with fail
    (with_reducible refine c.mono ?_)
    clear c
    rintro e w2 ⟨rfl, hm2, ho2⟩
    have c := put_is HV.out hm2 (by decide) H.out.1
    go_wp2_with fail
    (with_reducible refine c.mono ?_)
    clear c
    rintro e w3 ⟨rfl, hm3, ho3⟩
    have c := eson_is HV.out hm3 (by decide) (by decide) H.out.2.1
    have HO := Lib.hid ((ho1.trans ho2).trans ho3)
    clear hm1 ho1 hm2 ho2 hm3 ho3
    go_wp2_with fail
    (with_reducible refine c.mono ?_)
    clear c
    rintro e w4 ⟨rfl, hm4, ho4⟩
    have c := etell_is HV.out hm4 H.out.2.2.2.1 H.out.2.2.2.2 H.out.2.2.1
    go_wp2_with fail
    (with_reducible refine c.mono ?_)
    clear c
    rintro e w5 ⟨rfl, hm5, ho5⟩
    go_wp2_with fail
    go_end0
    exact ⟨rfl, hm5, (HO.out.trans ho4).trans ho5⟩
  · rw [if_neg h4] at h3
    cases h3
    go_enter Try.func19, Try.ntmps19
    go_wp2_with fail
    (with_reducible refine c.mono ?_)
    clear c
    rintro e w1 ⟨rfl, hm1, ho1⟩
    have c := put_is HV.out hm1 (by decide) H.out.1
    go_wp2_with fail
    (with_reducible refine c.mono ?_)
    clear c
    rintro e w3 ⟨rfl, hm3, ho3⟩
    have c := eson_is HV.out hm3 (by decide) (by decide) H.out.2.1
    have HO := Lib.hid (ho1.trans ho3)
    clear hm1 ho1 hm3 ho3
    go_wp2_with fail
    (with_reducible refine c.mono ?_)
    clear c
    rintro e w4 ⟨rfl, hm4, ho4⟩
    have c := etell_is HV.out hm4 H.out.2.2.2.1 H.out.2.2.2.2 H.out.2.2.1
    go_wp2_with fail
    (with_reducible refine c.mono ?_)
    clear c
    rintro e w5 ⟨rfl, hm5, ho5⟩
    go_wp2_with fail
    go_end0
    exact ⟨rfl, hm5, (HO.out.trans ho4).trans ho5⟩
theorem eowe_is (V : VOk M T v fR fW Mem Ok S R) (hm : Mem w s) {t c : Int} {s1 : σ} (ht : t ≤ 4611686018427387904) (ht0 : 0 ≤ t) (hc0 : 0 ≤ c) (hc : c ≤ 4611686018427387904) (h : (eoweP t c).run M s = ((), s1)) :
    Calls Try.prog 20 #[.iface T v, .int .i64 t, .int .i64 c] w fun e w' => e = .returned (.tuple #[]) ∧ Mem w' s1 ∧ Only S w w' := by
  unfold eoweP at h
  obtain ⟨s2, h2⟩ : ∃ s2, (putP c 1 4).run M s = ((), s2) := ⟨_, rfl⟩
  rw [Vp.run_bind_is h2] at h
  obtain ⟨s3, h3⟩ : ∃ s3, (putP c 2 (t + 1)).run M s2 = ((), s3) := ⟨_, rfl⟩
  rw [Vp.run_bind_is h3] at h
  have k := put_is V hm (by decide) h2
  have HV := Lib.hid V
  have H := Lib.hid (And.intro h3 h)
  clear h h2 h3 hm V
  go_enter Try.func20, Try.ntmps20
  go_wp2_with fail
  (with_reducible refine k.mono ?_)
  clear k
  rintro e w1 ⟨rfl, hm1, ho1⟩
  have k := put_is HV.out hm1 (by omega) H.out.1
  go_wp2_with fail
  (with_reducible refine k.mono ?_)
  clear k
  rintro e w2 ⟨rfl, hm2, ho2⟩
  have k := put_is HV.out hm2 (by omega) H.out.2
  go_wp2_with fail
  (with_reducible refine k.mono ?_)
  clear k
  rintro e w3 ⟨rfl, hm3, ho3⟩
  go_wp2_with fail
  go_end0
  exact ⟨rfl, hm3, (ho1.trans ho2).trans ho3⟩
set_option maxRecDepth 100000 in
theorem esettle_is (V : VOk M T v fR fW Mem Ok S R) (hm : Mem w s) {o : Int} {s1 : σ} (h : (esettleP o).run M s = ((), s1)) :
    Calls Try.prog 28 #[.iface T v, .int .i64 o] w fun e w' => e = .returned (.tuple #[]) ∧ Mem w' s1 ∧ Only S w w' := by
  unfold esettleP at h
  obtain ⟨L, s2, h2⟩ : ∃ x s2, (qwayF 32 o).run M s = (x, s2) := ⟨_, _, rfl⟩
  rw [Vp.run_bind_is h2] at h
  have k := vlist_is V hm h2
  have HV := Lib.hid V
  have hlen := qwayF_len (M := M) 32 o s
  rw [h2] at hlen
  have hlen : L.length ≤ 32 := hlen
  clear h2 hm V
  by_cases hL : L = []
  · subst hL
    rw [if_pos rfl] at h
    have H := Lib.hid h
    clear h
    go_enter Try.func28, Try.ntmps28
    go_wp2_with fail
    (with_reducible refine k.mono ?_)
    clear k
    rintro e w1 ⟨u, rfl, ⟨A, cp, rfl, hc⟩, hm1, ho1⟩
    clear hc
    have c := put_is HV.out hm1 (by decide) H.out
    go_wp2_with fail
    (with_reducible refine c.mono ?_)
    clear c
    rintro e w2 ⟨rfl, hm2, ho2⟩
    go_wp2_with fail
    go_end0
    exact ⟨rfl, hm2, ho1.trans ho2⟩
  · rw [if_neg hL] at h
    cases h
    have hl0 : ¬ L.length = 0 := fun e => hL (List.eq_nil_of_length_eq_zero e)
    have hl1 : ¬ (L.length : Int) = 0 := by omega
    clear hL
    go_enter Try.func28, Try.ntmps28
    go_wp2_with fail
    (with_reducible refine k.mono ?_)
    clear k
    rintro e w1 ⟨u, rfl, ⟨A, cp, rfl, hc⟩, hm1, ho1⟩
    clear hc
    go_wp2_with fail
    go_end0
    exact ⟨rfl, hm1, ho1⟩
set_option maxRecDepth 100000 in
theorem eblock_is (V : VOk M T v fR fW Mem Ok S R) (hm : Mem w s) {o t n : Int} {s1 : σ} (hn : n ≤ 9223372036854775807) (h : (eblockP o t n).run M s = ((), s1)) :
    Calls Try.prog 30 #[.iface T v, .int .i64 o, .int .i64 t, .int .i64 n] w fun e w' => e = .returned (.tuple #[]) ∧ Mem w' s1 ∧ Only S w w' := by
  unfold eblockP at h
  obtain ⟨qo, hqo⟩ : ∃ q, objB o 0 = q := ⟨_, rfl⟩
  obtain ⟨qt, hqt⟩ : ∃ q, objB t 0 = q := ⟨_, rfl⟩
  have cO := Lib.hid (eis_is hqo)
  have cT := Lib.hid (eis_is hqt)
  rw [hqo, hqt] at h
  cases qo with
  | false =>
    rw [if_neg (by simp), Vp.run_ret] at h
    cases h
    clear hqo hqt
    go_enter Try.func30, Try.ntmps30
    go_wp2_with ((with_reducible refine (cO.out _).mono ?_); rintro e w' ⟨rfl, rfl⟩)
    refine bodyPost_ret (results_none rfl _ _ _) rfl ?_
    exact ⟨rfl, hm, Only.refl _ _⟩
  | true =>
    cases qt with
    | false =>
      rw [if_neg (by simp), Vp.run_ret] at h
      cases h
      clear hqo hqt
      go_enter Try.func30, Try.ntmps30
      go_wp2_with ((first | (with_reducible refine (cO.out _).mono ?_) | (with_reducible refine (cT.out _).mono ?_)); rintro e w' ⟨rfl, rfl⟩)
      refine bodyPost_ret (results_none rfl _ _ _) rfl ?_
      exact ⟨rfl, hm, Only.refl _ _⟩
    | true =>
      have ho := objB_yes.1 hqo
      have ht := objB_yes.1 hqt
      rw [if_pos ⟨rfl, rfl⟩] at h
      obtain ⟨s2, h2⟩ : ∃ s2, (putP t 1 (max n 0)).run M s = ((), s2) := ⟨_, rfl⟩
      rw [Vp.run_bind_is h2] at h
      obtain ⟨s3, h3⟩ : ∃ s3, (eonP t (o + 1)).run M s2 = ((), s3) := ⟨_, rfl⟩
      rw [Vp.run_bind_is h3] at h
      obtain ⟨x, s4, h4⟩ : ∃ x s4, (qpushP o t).run M s3 = (x, s4) := ⟨_, _, rfl⟩
      rw [Vp.run_bind_is h4, Vp.run_ret] at h
      cases h
      have c := eput_is V hm rfl hn h2
      have HV := Lib.hid V
      have H := Lib.hid (And.intro h3 h4)
      clear hqo hqt h2 h3 h4 V hm
      go_enter Try.func30, Try.ntmps30
      go_wp2_with (first | ((first | (with_reducible refine (cO.out _).mono ?_) | (with_reducible refine (cT.out _).mono ?_)); rintro e w' ⟨rfl, rfl⟩))
      (with_reducible refine c.mono ?_)
      clear c cO cT
      rintro e w1 ⟨rfl, hm1, ho1⟩
      have c := eson_is HV.out hm1 (by omega) (by omega) H.out.1
      go_wp2_with fail
      (with_reducible refine c.mono ?_)
      clear c
      rintro e w2 ⟨rfl, hm2, ho2⟩
      have c := vpush_is HV.out hm2 H.out.2
      go_wp2_with fail
      (with_reducible refine c.mono ?_)
      clear c
      rintro e w3 ⟨rfl, hm3, ho3⟩
      go_wp2_with fail
      go_end0
      exact ⟨rfl, hm3, (ho1.trans ho2).trans ho3⟩
theorem ewait_is (V : VOk M T v fR fW Mem Ok S R) (hm : Mem w s) {o t n : Int} {s1 : σ} (hn : n ≤ 9223372036854775807) (h : (ewaitP o t n).run M s = ((), s1)) :
    Calls Try.prog 22 #[.iface T v, .int .i64 o, .int .i64 t, .int .i64 n] w fun e w' => e = .returned (.tuple #[]) ∧ Mem w' s1 ∧ Only S w w' := by
  unfold ewaitP at h
  obtain ⟨s2, h2⟩ : ∃ s2, (eblockP o t n).run M s = ((), s2) := ⟨_, rfl⟩
  rw [Vp.run_bind_is h2] at h
  obtain ⟨x, hx⟩ : ∃ x, esideI n = x := ⟨_, rfl⟩
  have hx1 : x ≤ 2 := by rw [← hx]; unfold esideI; repeat' split <;> omega
  have cS := Lib.hid (eside_is hx)
  rw [hx] at h
  have c := eblock_is V hm hn h2
  have HV := Lib.hid V
  have H := Lib.hid h
  clear h h2 hm V hx
  go_enter Try.func22, Try.ntmps22
  go_wp2_with fail
  (with_reducible refine c.mono ?_)
  clear c
  rintro e w1 ⟨rfl, hm1, ho1⟩
  go_wp2_with fail
  (with_reducible refine (cS.out _).mono ?_)
  rintro e w2 ⟨rfl, hw⟩
  subst hw
  have c := put_is HV.out hm1 (by omega) H.out
  go_wp2_with fail
  (with_reducible refine c.mono ?_)
  clear c
  rintro e w2 ⟨rfl, hm2, ho2⟩
  go_wp2_with fail
  go_end0
  exact ⟨rfl, hm2, ho1.trans ho2⟩
set_option maxRecDepth 100000 in
theorem epop_is (V : VOk M T v fR fW Mem Ok S R) (hm : Mem w s) {o sd x : Int} {b : Bool} {s1 : σ} (h : (epopP o sd).run M s = ((x, b), s1)) :
    Calls Try.prog 18 #[.iface T v, .int .i64 o, .int .i64 sd] w fun e w' => e = .returned (.tuple #[.int .i64 x, .bool b]) ∧ Mem w' s1 ∧ Only S w w' := by
  unfold epopP at h
  obtain ⟨y, s2, h2⟩ : ∃ x s2, (fieldP o 1).run M s = (x, s2) := ⟨_, _, rfl⟩
  rw [Vp.run_bind_is h2] at h
  have c := field_is V hm h2
  have HV := Lib.hid V
  clear h2 hm V
  by_cases hy : y = sd
  · rw [if_pos hy] at h
    subst hy
    obtain ⟨⟨z, q⟩, s3, h3⟩ : ∃ r s3, (qpopP o).run M s2 = (r, s3) := ⟨_, _, rfl⟩
    rw [Vp.run_bind_is h3] at h
    cases q with
    | false =>
      rw [if_neg (by simp), Vp.run_ret] at h
      cases h
      have H := Lib.hid h3
      clear h3
      go_enter Try.func18, Try.ntmps18
      go_wp2_with fail
      (with_reducible refine c.mono ?_)
      clear c
      rintro e w1 ⟨rfl, hm1, ho1⟩
      have c := vpop_is HV.out hm1 H.out
      go_wp2_with fail
      (with_reducible refine c.mono ?_)
      clear c
      rintro e w2 ⟨rfl, hm2, ho2⟩
      go_wp2_with fail
      go_ret2
      exact ⟨rfl, hm2, ho1.trans ho2⟩
    | true =>
      obtain ⟨s4, h4⟩ : ∃ s4, (esettleP o).run M s3 = ((), s4) := ⟨_, rfl⟩
      rw [if_pos rfl, Vp.run_bind_is h4, Vp.run_ret] at h
      cases h
      have H := Lib.hid (And.intro h3 h4)
      clear h3 h4
      go_enter Try.func18, Try.ntmps18
      go_wp2_with fail
      (with_reducible refine c.mono ?_)
      clear c
      rintro e w1 ⟨rfl, hm1, ho1⟩
      have c := vpop_is HV.out hm1 H.out.1
      go_wp2_with fail
      (with_reducible refine c.mono ?_)
      clear c
      rintro e w2 ⟨rfl, hm2, ho2⟩
      have c := esettle_is HV.out hm2 H.out.2
      go_wp2_with fail
      (with_reducible refine c.mono ?_)
      clear c
      rintro e w3 ⟨rfl, hm3, ho3⟩
      go_wp2_with fail
      go_ret2
      exact ⟨rfl, hm3, (ho1.trans ho2).trans ho3⟩
  · rw [if_neg hy, Vp.run_ret] at h
    cases h
    go_enter Try.func18, Try.ntmps18
    go_wp2_with fail
    (with_reducible refine c.mono ?_)
    clear c
    rintro e w1 ⟨rfl, hm1, ho1⟩
    go_wp2_with fail
    go_ret2
    exact ⟨rfl, hm1, ho1⟩
end
end Go.Proofs.Ytgbcgcmcfklnjaa
