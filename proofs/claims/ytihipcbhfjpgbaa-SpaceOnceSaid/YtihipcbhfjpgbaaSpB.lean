/- What package space's Map and Unmap do (layer 18), to any view. -/
import Derived.Test.YtihipcbhfjpgbaaSpA
namespace Go.Proofs.Ytihipcbhfjpgbaa
open Go.RowKit
section
variable {σ : Type} {M : Mach σ} {T : TypeId} {v : Value} {fR fW : FuncId} {Mem : World → σ → Prop} {Ok : σ → Prop} {S R : List Nat} {w : World} {s : σ}
theorem refV_in (V : VOk M T v fR fW Mem Ok S R) (hm : Mem w s) {o f x : Int} {q : Bool} {s1 : σ} (h : (refP o f).run M s = ((x, q), s1)) : 0 ≤ x ∧ x < 32 := by
  unfold refP at h
  obtain ⟨n, s2, h2⟩ : ∃ b s2, (fieldP o f).run M s = (b, s2) := ⟨_, _, rfl⟩
  rw [Vp.run_bind_is h2, Vp.run_ret] at h
  split at h
  · next e =>
    have := belowB_yes.1 e
    cases h
    omega
  · cases h
    omega
theorem vsmap_is (V : VOk M T v fR fW Mem Ok S R) (hm : Mem w s) {f o p r x : Int} {s1 : σ} (h : (smapP f o p r).run M s = (x, s1)) :
    Calls Try.prog 10 #[.iface T v, .int .i64 f, .int .i64 o, .int .i64 p, .int .i64 r] w fun e w' => e = .returned (errV x) ∧ Mem w' s1 ∧ Only S w w' := by
  unfold smapP at h
  obtain ⟨a, s2, h2⟩ : ∃ b s2, (isP f 6).run M s = (b, s2) := ⟨_, _, rfl⟩
  rw [Vp.run_bind_is h2] at h
  have c := is_is V hm (by decide) h2
  have HV := Lib.hid V
  have hF := Lib.hid (fun e : a = true => isV_in (e ▸ h2))
  clear h2 hm V
  cases a with
  | false =>
    rw [if_pos rfl, Vp.run_ret] at h
    cases h
    go_enter Try.func10, Try.ntmps10
    go_wp2_with ((with_reducible refine c.mono ?_); clear c; rintro e w1 ⟨rfl, hm1, ho1⟩)
    go_ret
    exact ⟨rfl, hm1, ho1⟩
  | true =>
  have hF' := hF.out rfl
  clear hF
  rw [if_neg (by simp)] at h
  obtain ⟨b, s3, h3⟩ : ∃ b s3, (isP o 7).run M s2 = (b, s3) := ⟨_, _, rfl⟩
  rw [Vp.run_bind_is h3] at h
  have H3 := Lib.hid h3
  have hO := Lib.hid (fun e : b = true => isV_in (e ▸ h3))
  clear h3
  go_enter Try.func10, Try.ntmps10
  go_wp2_with ((with_reducible refine c.mono ?_); clear c; rintro e w1 ⟨rfl, hm1, ho1⟩)
  have c := is_is HV.out hm1 (by decide) H3.out
  (with_reducible refine c.mono ?_)
  clear c
  rintro e w2 ⟨rfl, hm2, ho2⟩
  replace ho2 := ho1.trans ho2
  clear ho1 hm1 H3
  cases b with
  | false =>
    rw [if_pos rfl, Vp.run_ret] at h
    cases h
    go_wp2_with fail
    go_ret
    exact ⟨rfl, hm2, ho2⟩
  | true =>
  have hO' := hO.out rfl
  clear hO
  rw [if_neg (by simp)] at h
  have c := spg_in p w2
  by_cases hp : 0 ≤ p ∧ p < 4
  rotate_left
  · rw [if_pos (by omega), Vp.run_ret] at h
    cases h
    rw [decide_eq_false hp] at c
    go_wp2_with ((with_reducible refine c.mono ?_); clear c; rintro e w3 ⟨rfl, rfl⟩)
    go_ret
    exact ⟨rfl, hm2, ho2⟩
  rw [decide_eq_true hp] at c
  by_cases hr : 0 ≤ r ∧ r < 8
  rotate_left
  · rw [if_pos (by omega), Vp.run_ret] at h
    cases h
    by_cases hr0 : r < 0
    · go_wp2_with ((with_reducible refine c.mono ?_); clear c; rintro e w3 ⟨rfl, rfl⟩)
      go_ret
      exact ⟨rfl, hm2, ho2⟩
    · have hr1 : 7 < r := by omega
      go_wp2_with ((with_reducible refine c.mono ?_); clear c; rintro e w3 ⟨rfl, rfl⟩)
      go_ret
      exact ⟨rfl, hm2, ho2⟩
  rw [if_neg (by omega)] at h
  obtain ⟨⟨y, q⟩, s4, h4⟩ : ∃ b s4, (refP f 1).run M s3 = (b, s4) := ⟨_, _, rfl⟩
  rw [Vp.run_bind_is h4] at h
  have cR := ref_is HV.out hm2 h4
  clear h4
  cases q with
  | true =>
    rw [if_pos rfl, Vp.run_ret] at h
    cases h
    go_wp2_with (first | ((with_reducible refine c.mono ?_); clear c; rintro e w3 ⟨rfl, rfl⟩) | ((with_reducible refine cR.mono ?_); clear cR; rintro e w3 ⟨rfl, hm3, ho3⟩))
    go_ret
    exact ⟨rfl, hm3, ho2.trans ho3⟩
  | false =>
  rw [if_neg (by simp)] at h
  go_wp2_with (first | ((with_reducible refine c.mono ?_); clear c; rintro e w3 ⟨rfl, rfl⟩) | ((with_reducible refine cR.mono ?_); clear cR; rintro e w3 ⟨rfl, hm3, ho3⟩))
  replace ho3 := ho2.trans ho3
  clear ho2 hm2
  obtain ⟨⟨z, u, q⟩, s5, h5⟩ : ∃ b s', (spageP o p).run M s4 = (b, s') := ⟨_, _, rfl⟩
  rw [Vp.run_bind_is h5] at h
  have c := vspage_is HV.out hm3 h5
  clear h5
  cases q with
  | true =>
    rw [if_pos rfl, Vp.run_ret] at h
    cases h
    (with_reducible refine c.mono ?_)
    clear c
    rintro e w4 ⟨rfl, hm4, ho4⟩
    go_wp2_with fail
    go_ret
    exact ⟨rfl, hm4, ho3.trans ho4⟩
  | false =>
  rw [if_neg (by simp)] at h
  (with_reducible refine c.mono ?_)
  clear c
  rintro e w4 ⟨rfl, hm4, ho4⟩
  replace ho4 := ho3.trans ho4
  clear ho3 hm3
  obtain ⟨s6, h6⟩ : ∃ s6, (putP o (1 + p) ((f + 1) * 8 + r)).run M s5 = ((), s6) := ⟨_, rfl⟩
  rw [Vp.run_bind_is h6] at h
  obtain ⟨s7, h7⟩ : ∃ s7, (putP f 1 (o + 1)).run M s6 = ((), s7) := ⟨_, rfl⟩
  rw [Vp.run_bind_is h7] at h
  obtain ⟨s8, h8⟩ : ∃ s8, (putP f 2 p).run M s7 = ((), s8) := ⟨_, rfl⟩
  rw [Vp.run_bind_is h8, Vp.run_ret] at h
  cases h
  have H := Lib.hid (And.intro h7 h8)
  have c := put_is HV.out hm4 (by omega) h6
  clear h6 h7 h8
  have HO := Lib.hid ho4
  clear ho4 hm4
  go_wp2_with fail
  (with_reducible refine c.mono ?_)
  clear c
  rintro e w5 ⟨rfl, hm5, ho5⟩
  have c := put_is HV.out hm5 (by omega) H.out.1
  go_wp2_with fail
  (with_reducible refine c.mono ?_)
  clear c
  rintro e w6 ⟨rfl, hm6, ho6⟩
  have c := put_is HV.out hm6 (by omega) H.out.2
  go_wp2_with fail
  (with_reducible refine c.mono ?_)
  clear c
  rintro e w7 ⟨rfl, hm7, ho7⟩
  go_wp2_with fail
  go_ret
  exact ⟨rfl, hm7, ((HO.out.trans ho5).trans ho6).trans ho7⟩
theorem vsunm_is (V : VOk M T v fR fW Mem Ok S R) (hm : Mem w s) {f x : Int} {s1 : σ} (h : (sunmP f).run M s = (x, s1)) :
    Calls Try.prog 8 #[.iface T v, .int .i64 f] w fun e w' => e = .returned (errV x) ∧ Mem w' s1 ∧ Only S w w' := by
  unfold sunmP at h
  obtain ⟨a, s2, h2⟩ : ∃ b s2, (isP f 6).run M s = (b, s2) := ⟨_, _, rfl⟩
  rw [Vp.run_bind_is h2] at h
  have c := is_is V hm (by decide) h2
  have HV := Lib.hid V
  clear h2 hm V
  cases a with
  | false =>
    rw [if_pos rfl, Vp.run_ret] at h
    cases h
    go_enter Try.func8, Try.ntmps8
    go_wp2_with ((with_reducible refine c.mono ?_); clear c; rintro e w1 ⟨rfl, hm1, ho1⟩)
    go_ret
    exact ⟨rfl, hm1, ho1⟩
  | true =>
  rw [if_neg (by simp)] at h
  obtain ⟨⟨o, q⟩, s3, h3⟩ : ∃ b s3, (refP f 1).run M s2 = (b, s3) := ⟨_, _, rfl⟩
  rw [Vp.run_bind_is h3] at h
  have H3 := Lib.hid h3
  clear h3
  go_enter Try.func8, Try.ntmps8
  go_wp2_with ((with_reducible refine c.mono ?_); clear c; rintro e w1 ⟨rfl, hm1, ho1⟩)
  have c := ref_is HV.out hm1 H3.out
  have ho := refV_in HV.out hm1 H3.out
  cases q with
  | false =>
    rw [if_pos rfl, Vp.run_ret] at h
    cases h
    (with_reducible refine c.mono ?_)
    clear c
    rintro e w2 ⟨rfl, hm2, ho2⟩
    go_wp2_with fail
    go_ret
    exact ⟨rfl, hm2, ho1.trans ho2⟩
  | true =>
  rw [if_neg (by simp)] at h
  (with_reducible refine c.mono ?_)
  clear c
  rintro e w2 ⟨rfl, hm2, ho2⟩
  replace ho2 := ho1.trans ho2
  clear ho1 hm1 H3
  obtain ⟨p, s4, h4⟩ : ∃ b s4, (fieldP f 2).run M s3 = (b, s4) := ⟨_, _, rfl⟩
  rw [Vp.run_bind_is h4] at h
  have c := field_is HV.out hm2 h4
  obtain ⟨p0, p1⟩ := field_in HV.out hm2 h4
  clear h4
  go_wp2_with fail
  (with_reducible refine c.mono ?_)
  clear c
  rintro e w3 ⟨rfl, hm3, ho3⟩
  replace ho3 := ho2.trans ho3
  clear ho2 hm2
  obtain ⟨⟨z, u, q⟩, s5, h5⟩ : ∃ b s4', (spageP o p).run M s4 = (b, s4') := ⟨_, _, rfl⟩
  rw [Vp.run_bind_is h5] at h
  have c := vspage_is HV.out hm3 h5
  clear h5
  go_wp2_with fail
  (with_reducible refine c.mono ?_)
  clear c
  rintro e w4 ⟨rfl, hm4, ho4⟩
  replace ho4 := ho3.trans ho4
  clear ho3 hm3
  obtain ⟨s6, h6⟩ : ∃ s6, (sfreeP f p o (z, u, q)).run M s5 = ((), s6) := ⟨_, rfl⟩
  rw [Vp.run_bind_is h6] at h
  obtain ⟨s7, h7⟩ : ∃ s7, (putP f 1 0).run M s6 = ((), s7) := ⟨_, rfl⟩
  rw [Vp.run_bind_is h7] at h
  obtain ⟨s8, h8⟩ : ∃ s8, (putP f 2 0).run M s7 = ((), s8) := ⟨_, rfl⟩
  rw [Vp.run_bind_is h8, Vp.run_ret] at h
  cases h
  have H := Lib.hid (And.intro h7 h8)
  have HO := Lib.hid ho4
  clear h7 h8 ho4
  unfold sfreeP at h6
  by_cases hy : q = true ∧ z = f
  · rw [if_pos hy] at h6
    obtain ⟨rfl, rfl⟩ := hy
    have c := put_is HV.out hm4 (by decide) h6
    clear h6 hm4
    go_wp2_with fail
    (with_reducible refine c.mono ?_)
    clear c
    rintro e w5 ⟨rfl, hm5, ho5⟩
    have c := put_is HV.out hm5 (by decide) H.out.1
    go_wp2_with fail
    (with_reducible refine c.mono ?_)
    clear c
    rintro e w6 ⟨rfl, hm6, ho6⟩
    have c := put_is HV.out hm6 (by decide) H.out.2
    go_wp2_with fail
    (with_reducible refine c.mono ?_)
    clear c
    rintro e w7 ⟨rfl, hm7, ho7⟩
    go_wp2_with fail
    go_ret
    exact ⟨rfl, hm7, ((HO.out.trans ho5).trans ho6).trans ho7⟩
  · rw [if_neg hy, Vp.run_ret] at h6
    cases h6
    have c := put_is HV.out hm4 (by decide) H.out.1
    clear hm4
    cases q with
    | false =>
      go_wp2_with fail
      (with_reducible refine c.mono ?_)
      clear c
      rintro e w6 ⟨rfl, hm6, ho6⟩
      have c := put_is HV.out hm6 (by decide) H.out.2
      go_wp2_with fail
      (with_reducible refine c.mono ?_)
      clear c
      rintro e w7 ⟨rfl, hm7, ho7⟩
      go_wp2_with fail
      go_ret
      exact ⟨rfl, hm7, (HO.out.trans ho6).trans ho7⟩
    | true =>
      have hz : ¬ (z = f) := fun e => hy ⟨rfl, e⟩
      go_wp2_with fail
      (with_reducible refine c.mono ?_)
      clear c
      rintro e w6 ⟨rfl, hm6, ho6⟩
      have c := put_is HV.out hm6 (by decide) H.out.2
      go_wp2_with fail
      (with_reducible refine c.mono ?_)
      clear c
      rintro e w7 ⟨rfl, hm7, ho7⟩
      go_wp2_with fail
      go_ret
      exact ⟨rfl, hm7, (HO.out.trans ho6).trans ho7⟩
end
end Go.Proofs.Ytihipcbhfjpgbaa
