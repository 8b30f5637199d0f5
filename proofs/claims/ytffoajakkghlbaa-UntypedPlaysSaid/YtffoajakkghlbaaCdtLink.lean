/- What Link and Unlink of package cdt do and answer (layer 10), to any view. -/
import Derived.Test.YtffoajakkghlbaaJ7
namespace Go.Proofs.Ytffoajakkghlbaa
open Go.RowKit
theorem slotB0_yes {i : Int} : slotB i 0 = true ↔ 0 ≤ i ∧ i ≤ 95 := by rw [slotB_yes]; omega
section
variable {σ : Type} {M : Mach σ} {T : TypeId} {v : Value} {fR fW : FuncId} {Mem : World → σ → Prop} {Ok : σ → Prop} {S R : List Nat} {w : World} {s : σ}
set_option maxHeartbeats 1000000 in
theorem link_is (V : VOk M T v fR fW Mem Ok S R) (hm : Mem w s) {k p n : Int} {s1 : σ} (h : (linkP k p).run M s = (n, s1)) :
    Calls Try.prog 42 #[.iface T v, .int .i64 k, .int .i64 p] w fun e w' => e = .returned (errV n) ∧ Mem w' s1 ∧ Only S w w' := by
  unfold linkP at h
  by_cases h1 : slotB k 0 = false ∨ slotB p 0 = false
  · rw [Vp.run_yes h1, Vp.run_ret] at h
    cases h
    have h2 : slotB k 0 = false ∨ (slotB k 0 = true ∧ slotB p 0 = false) := by
      rcases h1 with h | h
      · exact .inl h
      · cases slotB k 0 with
        | false => exact .inl rfl
        | true => exact .inr ⟨rfl, h⟩
    rcases h2 with h2 | ⟨h2, h3⟩
    · have c1 := Lib.hid (cis_is h2)
      obtain ⟨q, hq⟩ : ∃ q, slotB p 0 = q := ⟨_, rfl⟩
      have c2 := Lib.hid (cis_is hq)
      clear h1 h2 hq
      go_enter Try.func42, Try.ntmps42
      go_wp2_with (first | ((with_reducible refine (c1.out _).mono ?_); rintro e w1 ⟨rfl, rfl⟩) | ((with_reducible refine (c2.out _).mono ?_); rintro e w1 ⟨rfl, rfl⟩))
      go_ret
      exact ⟨rfl, hm, Only.refl _ _⟩
    · have c1 := Lib.hid (cis_is h2)
      have c2 := Lib.hid (cis_is h3)
      clear h1 h2 h3
      go_enter Try.func42, Try.ntmps42
      go_wp2_with (first | ((with_reducible refine (c1.out _).mono ?_); rintro e w1 ⟨rfl, rfl⟩) | ((with_reducible refine (c2.out _).mono ?_); rintro e w1 ⟨rfl, rfl⟩))
      go_ret
      exact ⟨rfl, hm, Only.refl _ _⟩
  rw [Vp.run_no h1] at h
  have hk : slotB k 0 = true := by cases hh : slotB k 0 <;> simp_all
  have hp : slotB p 0 = true := by cases hh : slotB p 0 <;> simp_all
  have ik := slotB0_yes.1 hk
  have ip := slotB0_yes.1 hp
  have c1 := Lib.hid (cis_is hk)
  have c2 := Lib.hid (cis_is hp)
  clear h1 hk hp
  by_cases hkp : k = p
  · rw [Vp.run_yes hkp, Vp.run_ret] at h
    cases h
    have hb : (k == p) = true := by simp [hkp]
    clear hkp
    go_enter Try.func42, Try.ntmps42
    go_wp2_with (first | ((with_reducible refine (c1.out _).mono ?_); rintro e w1 ⟨rfl, rfl⟩) | ((with_reducible refine (c2.out _).mono ?_); rintro e w1 ⟨rfl, rfl⟩))
    go_ret
    exact ⟨rfl, hm, Only.refl _ _⟩
  rw [Vp.run_no hkp] at h
  have hb : (k == p) = false := by simp [hkp]
  obtain ⟨x, s2, h2⟩ : ∃ x s2, (toldP k 1).run M s = (x, s2) := ⟨_, _, rfl⟩
  rw [Vp.run_bind_is h2] at h
  have c3 := cparent_is V hm h2
  have hs2 := told_ok V (V.ok w s hm) h2
  clear hkp hm h2
  by_cases hx : x ≠ -1
  · rw [Vp.run_yes hx, Vp.run_ret] at h
    cases h
    have hxb : (x != -1) = true := by simp [hx]
    clear hx
    go_enter Try.func42, Try.ntmps42
    go_wp2_with (first | ((with_reducible refine (c1.out _).mono ?_); rintro e w1 ⟨rfl, rfl⟩) | ((with_reducible refine (c2.out _).mono ?_); rintro e w1 ⟨rfl, rfl⟩) | ((with_reducible refine c3.mono ?_); clear c3; rintro e w1 ⟨rfl, hm1, ho1⟩))
    go_ret
    exact ⟨rfl, hm1, ho1⟩
  rw [Vp.run_no hx] at h
  obtain rfl : x = -1 := by simpa using hx
  obtain ⟨y, s3, h3⟩ : ∃ y s3, (toldP p 2).run M s2 = (y, s3) := ⟨_, _, rfl⟩
  rw [Vp.run_bind_is h3] at h
  obtain ⟨s4, h4⟩ : ∃ s4, (tellP y 4 k).run M s3 = ((), s4) := ⟨_, rfl⟩
  rw [Vp.run_bind_is h4] at h
  obtain ⟨s5, h5⟩ : ∃ s5, (tellP p 2 k).run M s4 = ((), s5) := ⟨_, rfl⟩
  rw [Vp.run_bind_is h5] at h
  obtain ⟨s6, h6⟩ : ∃ s6, (standP k p y (-1)).run M s5 = ((), s6) := ⟨_, rfl⟩
  rw [Vp.run_bind_is h6, Vp.run_ret] at h
  cases h
  have ry := told_rng V hs2 h3
  have HV := Lib.hid V
  have H := Lib.hid (And.intro h3 (And.intro h4 (And.intro h5 (And.intro h6 (And.intro ry (And.intro ik ip))))))
  clear V h3 h4 h5 h6 ry ik ip hx hs2
  go_enter Try.func42, Try.ntmps42
  go_wp2_with (first | ((with_reducible refine (c1.out _).mono ?_); rintro e w1 ⟨rfl, rfl⟩) | ((with_reducible refine (c2.out _).mono ?_); rintro e w1 ⟨rfl, rfl⟩) | ((with_reducible refine c3.mono ?_); clear c3; rintro e w1 ⟨rfl, hm1, ho1⟩))
  obtain ⟨q3, q4, q5, q6, qy, qk, qp⟩ := H.out
  (with_reducible refine (told_is HV.out hm1 q3).mono ?_)
  rintro e w2 ⟨rfl, hm2, ho2⟩
  go_wp2_with fail
  (with_reducible refine (tell_is HV.out hm2 (by omega) qk.2 q4).mono ?_)
  rintro e w3 ⟨rfl, hm3, ho3⟩
  go_wp2_with fail
  (with_reducible refine (tell_is HV.out hm3 (by omega) qk.2 q5).mono ?_)
  rintro e w4 ⟨rfl, hm4, ho4⟩
  go_wp2_with fail
  (with_reducible refine (stand_is HV.out hm4 ⟨by omega, qp.2⟩ qy ⟨by omega, by omega⟩ q6).mono ?_)
  rintro e w5 ⟨rfl, hm5, ho5⟩
  clear qy qk qp
  go_wp2_with fail
  go_ret
  exact ⟨rfl, hm5, (((ho1.trans ho2).trans ho3).trans ho4).trans ho5⟩
end
end Go.Proofs.Ytffoajakkghlbaa
