/- What is, next, leave of package queue answer and do (layer 14), of any view. -/
import Derived.Test.YtloeofhchfaieaaJ13
import Derived.Test.YtloeofhchfaieaaQueV
namespace Go.Proofs.Ytloeofhchfaieaa
open Go.RowKit
theorem qis_any (i : Int) (w : World) : Calls Try.prog 43 #[.int .i64 i] w fun e w' => e = .returned (.bool (objB i 0)) ∧ w' = w := by
  obtain ⟨a, ha⟩ : ∃ a, objI i 0 = a := ⟨_, rfl⟩
  obtain ⟨q, hq⟩ : ∃ q, objB i 0 = q := ⟨_, rfl⟩
  rw [hq]
  have cO := Lib.hid (obj_is ha hq)
  clear ha hq
  go_enter Try.func43, Try.ntmps43
  go_wp2_with (go_at_call 33; (with_reducible refine (cO.out _).mono ?_); rintro e w' ⟨rfl, rfl⟩)
  go_ret
  exact ⟨rfl, rfl⟩
theorem qis_is {i : Int} {q : Bool} (h : objB i 0 = q) (w : World) : Calls Try.prog 43 #[.int .i64 i] w fun e w' => e = .returned (.bool q) ∧ w' = w := h ▸ qis_any i w
section
variable {σ : Type} {M : Mach σ} {T : TypeId} {v : Value} {fR fW : FuncId} {Mem : World → σ → Prop} {Ok : σ → Prop} {S R : List Nat} {w : World} {s : σ}
theorem refP_rng {o f y : Int} {b : Bool} {s1 : σ} (h : (refP o f).run M s = ((y, b), s1)) : (b = true ∧ 0 ≤ y ∧ y < 32) ∨ (b = false ∧ y = 0) := by
  obtain ⟨n, s2, h2⟩ : ∃ n s2, (fieldP o f).run M s = (n, s2) := ⟨_, _, rfl⟩
  unfold refP at h
  rw [Vp.run_bind_is h2, Vp.run_ret] at h
  have h := congrArg Prod.fst h
  by_cases hb : belowB (n - 1) 32 = true
  · simp only [if_pos hb] at h
    cases h
    exact .inl ⟨rfl, belowB_yes.1 hb⟩
  · simp only [if_neg hb] at h
    cases h
    exact .inr ⟨rfl, rfl⟩
theorem qnext_rng {i x : Int} {s1 : σ} (h : (qnextP i).run M s = (x, s1)) : 0 ≤ x ∧ x ≤ 32 := by
  obtain ⟨⟨y, b⟩, s2, h2⟩ : ∃ r s2, (refP i 2).run M s = (r, s2) := ⟨_, _, rfl⟩
  unfold qnextP at h
  rw [Vp.run_bind_is h2, Vp.run_ret] at h
  have h := congrArg Prod.fst h
  rcases refP_rng h2 with ⟨rfl, hy⟩ | ⟨rfl, hy⟩
  · have h : y + 1 = x := h
    omega
  · have h : 0 = x := h
    omega
theorem qnext_is (V : VOk M T v fR fW Mem Ok S R) (hm : Mem w s) {i x : Int} {s1 : σ} (h : (qnextP i).run M s = (x, s1)) :
    Calls Try.prog 42 #[.iface T v, .int .i64 i] w fun e w' => e = .returned (.int .i64 x) ∧ Mem w' s1 ∧ Only S w w' := by
  obtain ⟨⟨y, b⟩, s2, h2⟩ : ∃ r s2, (refP i 2).run M s = (r, s2) := ⟨_, _, rfl⟩
  unfold qnextP at h
  rw [Vp.run_bind_is h2, Vp.run_ret] at h
  have c := ref_is V hm h2
  rcases refP_rng h2 with ⟨rfl, hy0, hy1⟩ | ⟨rfl, hy⟩
  · cases h
    clear h2 hm
    go_enter Try.func42, Try.ntmps42
    go_wp2_with ((with_reducible refine c.mono ?_); clear c; rintro e w1 ⟨rfl, hm1, ho1⟩)
    go_ret
    exact ⟨rfl, hm1, ho1⟩
  · cases h
    clear h2 hm
    go_enter Try.func42, Try.ntmps42
    go_wp2_with ((with_reducible refine c.mono ?_); clear c; rintro e w1 ⟨rfl, hm1, ho1⟩)
    go_ret
    exact ⟨rfl, hm1, ho1⟩
set_option maxRecDepth 100000 in
theorem qleave_is (V : VOk M T v fR fW Mem Ok S R) (hm : Mem w s) {o a t : Int} {s1 : σ} (h0 : 0 ≤ a) (h1 : a ≤ 4611686018427387904) (h : (qleaveP o a t).run M s = ((), s1)) :
    Calls Try.prog 35 #[.iface T v, .int .i64 o, .int .i64 a, .int .i64 t] w fun e w' => e = .returned (.tuple #[]) ∧ Mem w' s1 ∧ Only S w w' := by
  unfold qleaveP at h
  obtain ⟨n, s2, h2⟩ : ∃ n s2, (qnextP t).run M s = (n, s2) := ⟨_, _, rfl⟩
  rw [Vp.run_bind_is h2] at h
  obtain ⟨s3, h3⟩ : ∃ s3, (putP a 2 n).run M s2 = ((), s3) := ⟨_, rfl⟩
  rw [Vp.run_bind_is h3] at h
  obtain ⟨s4, h4⟩ : ∃ s4, (putP t 2 0).run M s3 = ((), s4) := ⟨_, rfl⟩
  rw [Vp.run_bind_is h4] at h
  obtain ⟨m, s5, h5⟩ : ∃ m s5, (qnextP a).run M s4 = (m, s5) := ⟨_, _, rfl⟩
  rw [Vp.run_bind_is h5] at h
  have hn := qnext_rng h2
  have c2 := qnext_is V hm h2
  have HV := Lib.hid V
  have H3 := Lib.hid (And.intro h3 (And.intro h4 (And.intro h5 (And.intro h hn))))
  clear h h2 h3 h4 h5 hm V hn
  go_enter Try.func35, Try.ntmps35
  go_wp2_with fail
  (with_reducible refine c2.mono ?_)
  clear c2
  rintro e w1 ⟨rfl, hm1, ho1⟩
  have c3 := put_is HV.out hm1 (by have := H3.out.2.2.2.2; omega) H3.out.1
  go_wp2_with fail
  (with_reducible refine c3.mono ?_)
  clear c3
  rintro e w2 ⟨rfl, hm2, ho2⟩
  have c4 := put_is HV.out hm2 (by decide) H3.out.2.1
  go_wp2_with fail
  (with_reducible refine c4.mono ?_)
  clear c4
  rintro e w3 ⟨rfl, hm3, ho3⟩
  have c5 := qnext_is HV.out hm3 H3.out.2.2.1
  have HO := Lib.hid ((ho1.trans ho2).trans ho3)
  clear hm1 ho1 hm2 ho2 hm3 ho3
  go_wp2_with fail
  (with_reducible refine c5.mono ?_)
  clear c5
  rintro e w4 ⟨rfl, hm4, ho4⟩
  have HM := Lib.hid (And.intro hm4 (HO.out.trans ho4))
  clear hm4 ho4
  obtain ⟨-, -, -, h, -⟩ := H3.out
  by_cases hz : m = 0
  · subst hz
    rw [if_pos rfl] at h
    by_cases hao : a = o
    · rw [if_pos hao] at h
      have c6 := put_is HV.out HM.out.1 (by decide) h
      subst hao
      clear h
      go_wp2_with fail
      (with_reducible refine c6.mono ?_)
      clear c6
      rintro e w5 ⟨rfl, hm5, ho5⟩
      go_wp2_with fail
      go_end0
      exact ⟨rfl, hm5, HM.out.2.trans ho5⟩
    · rw [if_neg hao] at h
      have c6 := put_is HV.out HM.out.1 (by omega) h
      clear h
      go_wp2_with fail
      (with_reducible refine c6.mono ?_)
      clear c6
      rintro e w5 ⟨rfl, hm5, ho5⟩
      go_wp2_with fail
      go_end0
      exact ⟨rfl, hm5, HM.out.2.trans ho5⟩
  · rw [if_neg hz] at h
    cases h
    go_wp2_with fail
    refine bodyPost_ret (results_none rfl _ _ _) rfl ?_
    exact ⟨rfl, HM.out.1, HM.out.2⟩
end
end Go.Proofs.Ytloeofhchfaieaa
