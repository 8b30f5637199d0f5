/- What Link and Unlink of package cdt do and answer (layer 10), to any view. -/
import Derived.Test.YtlhcigpllkigdaaJ4
import Derived.Test.YtlhcigpllkigdaaJ3
namespace Go.Proofs.Ytlhcigpllkigdaa
open Go.RowKit
theorem slotB0_yes {i : Int} : slotB i 0 = true ↔ 0 ≤ i ∧ i ≤ 95 := by rw [slotB_yes]; omega
theorem slotB0_no {i : Int} : slotB i 0 = false ↔ i < 0 ∨ 95 < i := by rw [slotB_no]; omega
section
variable {σ : Type} {M : Mach σ} {T : TypeId} {v : Value} {fR fW : FuncId} {Mem : World → σ → Prop} {Ok : σ → Prop} {S R : List Nat} {w : World} {s : σ}
set_option maxHeartbeats 1000000 in
theorem link_is (V : VOk M T v fR fW Mem Ok S R) (hm : Mem w s) {k p n : Int} {s1 : σ} (h : (linkP k p).run M s = (n, s1)) :
    Calls Try.prog 45 #[.iface T v, .int .i64 k, .int .i64 p] w fun e w' => e = .returned (errV n) ∧ Mem w' s1 ∧ Only S w w' := by
  unfold linkP at h
  by_cases h1 : slotB k 0 = false ∨ slotB p 0 = false
  · rw [Vp.run_yes h1, Vp.run_ret] at h
    cases h
    have h2 : slotB k 0 = false ∨ (slotB k 0 = true ∧ slotB p 0 = false) := by
      rcases h1 with h | h
      · exact .inl h
      · cases slotB k 0 with
        | false => exact .inl rfl
        | true => exact .inr ⟨rfl, h⟩
    rcases h2 with h2 | ⟨h2, h3⟩
    · have c1 := Lib.hid (cis_is h2)
      obtain ⟨q, hq⟩ : ∃ q, slotB p 0 = q := ⟨_, rfl⟩
      have c2 := Lib.hid (cis_is hq)
      clear h1 h2 hq
      go_enter Try.func45, Try.ntmps45
      go_wp2_with (first | ((with_reducible refine (c1.out _).mono ?_); rintro e w1 ⟨rfl, rfl⟩) | ((with_reducible refine (c2.out _).mono ?_); rintro e w1 ⟨rfl, rfl⟩))
      go_ret
      exact ⟨rfl, hm, Only.refl _ _⟩
    · have c1 := Lib.hid (cis_is h2)
      have c2 := Lib.hid (cis_is h3)
      clear h1 h2 h3
      go_enter Try.func45, Try.ntmps45
      go_wp2_with (first | ((with_reducible refine (c1.out _).mono ?_); rintro e w1 ⟨rfl, rfl⟩) | ((with_reducible refine (c2.out _).mono ?_); rintro e w1 ⟨rfl, rfl⟩))
      go_ret
      exact ⟨rfl, hm, Only.refl _ _⟩
  rw [Vp.run_no h1] at h
  have hk : slotB k 0 = true := by cases hh : slotB k 0 <;> simp_all
  have hp : slotB p 0 = true := by cases hh : slotB p 0 <;> simp_all
  have ik := slotB0_yes.1 hk
  have ip := slotB0_yes.1 hp
  have c1 := Lib.hid (cis_is hk)
  have c2 := Lib.hid (cis_is hp)
  clear h1 hk hp
  by_cases hkp : k = p
  · rw [Vp.run_yes hkp, Vp.run_ret] at h
    cases h
    have hb : (k == p) = true := by simp [hkp]
    clear hkp
    go_enter Try.func45, Try.ntmps45
    go_wp2_with (first | ((with_reducible refine (c1.out _).mono ?_); rintro e w1 ⟨rfl, rfl⟩) | ((with_reducible refine (c2.out _).mono ?_); rintro e w1 ⟨rfl, rfl⟩))
    go_ret
    exact ⟨rfl, hm, Only.refl _ _⟩
  rw [Vp.run_no hkp] at h
  have hb : (k == p) = false := by simp [hkp]
  obtain ⟨x, s2, h2⟩ : ∃ x s2, (toldP k 1).run M s = (x, s2) := ⟨_, _, rfl⟩
  rw [Vp.run_bind_is h2] at h
  have c3 := cparent_is V hm h2
  have hs2 := told_ok V (V.ok w s hm) h2
  clear hkp hm h2
  by_cases hx : x ≠ -1
  · rw [Vp.run_yes hx, Vp.run_ret] at h
    cases h
    have hxb : (x != -1) = true := by simp [hx]
    clear hx
    go_enter Try.func45, Try.ntmps45
    go_wp2_with (first | ((with_reducible refine (c1.out _).mono ?_); rintro e w1 ⟨rfl, rfl⟩) | ((with_reducible refine (c2.out _).mono ?_); rintro e w1 ⟨rfl, rfl⟩) | ((with_reducible refine c3.mono ?_); clear c3; rintro e w1 ⟨rfl, hm1, ho1⟩))
    go_ret
    exact ⟨rfl, hm1, ho1⟩
  rw [Vp.run_no hx] at h
  obtain rfl : x = -1 := by simpa using hx
  obtain ⟨y, s3, h3⟩ : ∃ y s3, (toldP p 2).run M s2 = (y, s3) := ⟨_, _, rfl⟩
  rw [Vp.run_bind_is h3] at h
  obtain ⟨s4, h4⟩ : ∃ s4, (tellP y 4 k).run M s3 = ((), s4) := ⟨_, rfl⟩
  rw [Vp.run_bind_is h4] at h
  obtain ⟨s5, h5⟩ : ∃ s5, (tellP p 2 k).run M s4 = ((), s5) := ⟨_, rfl⟩
  rw [Vp.run_bind_is h5] at h
  obtain ⟨s6, h6⟩ : ∃ s6, (standP k p y (-1)).run M s5 = ((), s6) := ⟨_, rfl⟩
  rw [Vp.run_bind_is h6, Vp.run_ret] at h
  cases h
  have ry := told_rng V hs2 h3
  have HV := Lib.hid V
  have H := Lib.hid (And.intro h3 (And.intro h4 (And.intro h5 (And.intro h6 (And.intro ry (And.intro ik ip))))))
  clear V h3 h4 h5 h6 ry ik ip hx hs2
  go_enter Try.func45, Try.ntmps45
  go_wp2_with (first | ((with_reducible refine (c1.out _).mono ?_); rintro e w1 ⟨rfl, rfl⟩) | ((with_reducible refine (c2.out _).mono ?_); rintro e w1 ⟨rfl, rfl⟩) | ((with_reducible refine c3.mono ?_); clear c3; rintro e w1 ⟨rfl, hm1, ho1⟩))
  obtain ⟨q3, q4, q5, q6, qy, qk, qp⟩ := H.out
  (with_reducible refine (told_is HV.out hm1 q3).mono ?_)
  rintro e w2 ⟨rfl, hm2, ho2⟩
  go_wp2_with fail
  (with_reducible refine (tell_is HV.out hm2 (by omega) qk.2 q4).mono ?_)
  rintro e w3 ⟨rfl, hm3, ho3⟩
  go_wp2_with fail
  (with_reducible refine (tell_is HV.out hm3 (by omega) qk.2 q5).mono ?_)
  rintro e w4 ⟨rfl, hm4, ho4⟩
  go_wp2_with fail
  (with_reducible refine (stand_is HV.out hm4 ⟨by omega, qp.2⟩ qy ⟨by omega, by omega⟩ q6).mono ?_)
  rintro e w5 ⟨rfl, hm5, ho5⟩
  clear qy qk qp
  go_wp2_with fail
  go_ret
  exact ⟨rfl, hm5, (((ho1.trans ho2).trans ho3).trans ho4).trans ho5⟩
set_option maxHeartbeats 1000000 in
theorem unlink_is (V : VOk M T v fR fW Mem Ok S R) (hm : Mem w s) {k n : Int} {s1 : σ} (h : (unlinkP k).run M s = (n, s1)) :
    Calls Try.prog 30 #[.iface T v, .int .i64 k] w fun e w' => e = .returned (errV n) ∧ Mem w' s1 ∧ Only S w w' := by
  unfold unlinkP at h
  cases hk : slotB k 0 with
  | false =>
    rw [Vp.run_yes hk, Vp.run_ret] at h
    cases h
    have c1 := Lib.hid (cis_is hk)
    clear hk
    go_enter Try.func30, Try.ntmps30
    go_wp2_with ((with_reducible refine (c1.out _).mono ?_); rintro e w1 ⟨rfl, rfl⟩)
    go_ret
    exact ⟨rfl, hm, Only.refl _ _⟩
  | true =>
    rw [Vp.run_no (by simp [hk])] at h
    have c1 := Lib.hid (cis_is hk)
    obtain ⟨a, b, c, s2, h2⟩ : ∃ a b c s2, (placeP k).run M s = ((a, b, c), s2) := ⟨_, _, _, _, rfl⟩
    rw [Vp.run_bind_is h2] at h
    have c2 := place_is V hm h2
    have r2 := place_rng V (V.ok w s hm) h2
    have HV := Lib.hid V
    have HL := Lib.hid (V.lt w s)
    clear hk h2 hm
    by_cases ha : a = -1
    · rw [Vp.run_yes ha, Vp.run_ret] at h
      cases h
      have hxb : (a != -1) = false := by simp [ha]
      clear ha
      go_enter Try.func30, Try.ntmps30
      go_wp2_with (first | ((with_reducible refine (c1.out _).mono ?_); rintro e w1 ⟨rfl, rfl⟩) | ((with_reducible refine c2.mono ?_); clear c2; rintro e w1 ⟨rfl, hm1, ho1⟩; have hz1 := ho1.size))
      go_ret
      exact ⟨rfl, HV.out.only0 hm1 ((Only.refl [] _).alloc _), ho1.alloc _⟩
    · rw [Vp.run_no ha] at h
      obtain ⟨s3, h3⟩ : ∃ s3, (besideP a b c b c).run M s2 = ((), s3) := ⟨_, rfl⟩
      rw [Vp.run_bind_is h3] at h
      obtain ⟨s4, h4⟩ : ∃ s4, (standP k (-1) (-1) (-1)).run M s3 = ((), s4) := ⟨_, rfl⟩
      rw [Vp.run_bind_is h4, Vp.run_ret] at h
      cases h
      have hxb : (a != -1) = true := by simp [ha]
      have H := Lib.hid (And.intro h3 (And.intro h4 r2))
      clear h3 h4 r2 ha V
      go_enter Try.func30, Try.ntmps30
      go_wp2_with (first | ((with_reducible refine (c1.out _).mono ?_); rintro e w1 ⟨rfl, rfl⟩) | ((with_reducible refine c2.mono ?_); clear c2; rintro e w1 ⟨rfl, hm1, ho1⟩))
      obtain ⟨q3, q4, qa, qb, qc⟩ := H.out
      have hm1' := HV.out.only0 hm1 ((Only.refl [] _).alloc (.cells (plArr a b c) PlT))
      (with_reducible refine (beside_is HV.out hm1' qb qc q3).mono ?_)
      rintro e w2 ⟨rfl, hm2, ho2⟩
      go_wp2_with fail
      (with_reducible refine (nowhere_any _).mono ?_)
      rintro e w3 ⟨rfl, ho3⟩
      have hm3 := HV.out.only0 hm2 ho3
      go_wp2_with fail
      (with_reducible refine (stand_is HV.out hm3 ⟨by omega, by omega⟩ ⟨by omega, by omega⟩ ⟨by omega, by omega⟩ q4).mono ?_)
      rintro e w4 ⟨rfl, hm4, ho4⟩
      clear qa qb qc
      go_wp2_with fail
      go_ret
      exact ⟨rfl, hm4, (((ho1.alloc _).trans ho2).trans (ho3.more (S' := S) (fun _ _ hx => absurd hx List.not_mem_nil))).trans ho4⟩
end
end Go.Proofs.Ytlhcigpllkigdaa
