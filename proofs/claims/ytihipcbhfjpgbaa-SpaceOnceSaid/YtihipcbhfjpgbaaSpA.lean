/- What package space's calls do (layer 18), to any view. -/
import Derived.Test.YtihipcbhfjpgbaaJ11
import Derived.Test.YtihipcbhfjpgbaaJ12
namespace Go.Proofs.Ytihipcbhfjpgbaa
open Go.RowKit
theorem spg_in (p : Int) (w : World) : Calls Try.prog 24 #[.int .i64 p] w fun e w' => e = .returned (.bool (decide (0 ≤ p ∧ p < 4))) ∧ w' = w := by
  go_enter Try.func24, Try.ntmps24
  by_cases h0 : p < 0
  · have h0' : ¬ (0 ≤ p) := by omega
    rw [decide_eq_false (fun z => h0' z.1)]
    go_wp2_with fail
    go_ret
    exact ⟨rfl, rfl⟩
  have h0' : 0 ≤ p := by omega
  by_cases h1 : p < 4
  · rw [decide_eq_true ⟨h0', h1⟩]
    go_wp2_with fail
    go_ret
    exact ⟨rfl, rfl⟩
  · rw [decide_eq_false (fun z => h1 z.2)]
    go_wp2_with fail
    go_ret
    exact ⟨rfl, rfl⟩
theorem sis_in (i : Int) (w : World) : Calls Try.prog 25 #[.int .i64 i] w fun e w' => e = .returned (.bool (belowB i 32)) ∧ w' = w := by
  have c := obj_any i 0 w
  have e : objB i 0 = belowB i 32 := by unfold objB belowB; congr 1; simp
  rw [e] at c
  go_enter Try.func25, Try.ntmps25
  go_wp2_with ((with_reducible refine c.mono ?_); clear c; rintro e w1 ⟨rfl, rfl⟩)
  go_ret
  exact ⟨rfl, rfl⟩
section
variable {σ : Type} {M : Mach σ} {T : TypeId} {v : Value} {fR fW : FuncId} {Mem : World → σ → Prop} {Ok : σ → Prop} {S R : List Nat} {w : World} {s : σ}
theorem isV_in {o k : Int} {s1 : σ} (h : (isP o k).run M s = (true, s1)) : 0 ≤ o ∧ o < 32 := by
  unfold isP at h
  split at h
  · next e => have := objB_yes.1 e.1; omega
  · simp [Vp.run] at h
theorem vspage_is (V : VOk M T v fR fW Mem Ok S R) (hm : Mem w s) {o p x r : Int} {q : Bool} {s1 : σ} (h : (spageP o p).run M s = ((x, r, q), s1)) :
    Calls Try.prog 14 #[.iface T v, .int .i64 o, .int .i64 p] w fun e w' => e = .returned (.tuple #[.int .i64 x, .int .i64 r, .bool q]) ∧ Mem w' s1 ∧ Only S w w' := by
  unfold spageP at h
  obtain ⟨b, s2, h2⟩ : ∃ b s2, (isP o 7).run M s = (b, s2) := ⟨_, _, rfl⟩
  rw [Vp.run_bind_is h2] at h
  have c := is_is V hm (by decide) h2
  have HV := Lib.hid V
  clear h2 hm V
  cases b with
  | false =>
    rw [if_pos (.inl rfl), Vp.run_ret] at h
    cases h
    go_enter Try.func14, Try.ntmps14
    go_wp2_with ((with_reducible refine c.mono ?_); clear c; rintro e w1 ⟨rfl, hm1, ho1⟩)
    go_ret3
    exact ⟨rfl, hm1, ho1⟩
  | true =>
    by_cases hp : 0 ≤ p ∧ p < 4
    · rw [if_neg (by simp; omega)] at h
      obtain ⟨n, s3, h3⟩ : ∃ b s3, (fieldP o (1 + p)).run M s2 = (b, s3) := ⟨_, _, rfl⟩
      rw [Vp.run_bind_is h3, Vp.run_ret] at h
      have H3 := Lib.hid h3
      clear h3
      obtain ⟨b, hb⟩ : ∃ b, belowB (n / 8 - 1) 32 = b := ⟨_, rfl⟩
      rw [hb] at h
      go_enter Try.func14, Try.ntmps14
      go_wp2_with ((with_reducible refine c.mono ?_); clear c; rintro e w1 ⟨rfl, hm1, ho1⟩)
      have c := spg_in p w1
      rw [decide_eq_true hp] at c
      (with_reducible refine c.mono ?_)
      clear c
      rintro e w2 ⟨rfl, rfl⟩
      have c := field_is HV.out hm1 H3.out
      obtain ⟨n0, n1⟩ := field_in HV.out hm1 H3.out
      have hd := Int.tdiv_eq_ediv_of_nonneg (b := 8) n0
      have hx := Int.tmod_eq_emod_of_nonneg (b := 8) n0
      go_wp2_with fail
      (with_reducible refine c.mono ?_)
      clear c
      rintro e w3 ⟨rfl, hm3, ho3⟩
      have c := sis_in (n / 8 - 1) w3
      rw [hb] at c
      cases b with
      | false =>
        rw [if_neg (by simp)] at h
        cases h
        go_wp2_with fail
        (with_reducible refine c.mono ?_)
        clear c
        rintro e w4 ⟨rfl, rfl⟩
        go_wp2_with fail
        go_ret3
        exact ⟨rfl, hm3, ho1.trans ho3⟩
      | true =>
        rw [if_pos rfl] at h
        cases h
        go_wp2_with fail
        (with_reducible refine c.mono ?_)
        clear c
        rintro e w4 ⟨rfl, rfl⟩
        go_wp2_with fail
        go_ret3
        exact ⟨rfl, hm3, ho1.trans ho3⟩
    · rw [if_pos (by omega), Vp.run_ret] at h
      cases h
      go_enter Try.func14, Try.ntmps14
      go_wp2_with ((with_reducible refine c.mono ?_); clear c; rintro e w1 ⟨rfl, hm1, ho1⟩)
      have c := spg_in p w1
      rw [decide_eq_false hp] at c
      (with_reducible refine c.mono ?_)
      clear c
      rintro e w2 ⟨rfl, rfl⟩
      go_wp2_with fail
      go_ret3
      exact ⟨rfl, hm1, ho1⟩
end
end Go.Proofs.Ytihipcbhfjpgbaa
