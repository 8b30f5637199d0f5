/- What Retype of package untyped does and answers (layer 13), to any view. -/
import Derived.Test.YtffoajakkghlbaaUntBtw
import Derived.Test.YtffoajakkghlbaaJ10
import Derived.Test.YtffoajakkghlbaaUntGive
import Derived.Test.YtffoajakkghlbaaLayTake
namespace Go.Proofs.Ytffoajakkghlbaa
open Go.RowKit
theorem newF_le {k b sl c : Int} (hc : costZ k b = c) (h0 : ¬ c < 0) (hs : sl ≤ 96) (j : Nat) : newF k b sl j ≤ 9223372036854775807 := by
  obtain ⟨hk, hb⟩ := costZ_kind (k := k) (b := b) (by omega)
  have hr := costZ_rng k b
  unfold newF
  repeat' split
  all_goals omega
section
variable {σ : Type} {M : Mach σ} {T : TypeId} {v : Value} {fR fW : FuncId} {Mem : World → σ → Prop} {Ok : σ → Prop} {S R : List Nat} {w : World} {s : σ}
theorem take_rng (V : VOk M T v fR fW Mem Ok S R) (hs : Ok s) {a b x y n : Int} {s1 : σ} (h : (takeP a b).run M s = ((x, y, n), s1)) : (0 ≤ x ∧ x ≤ 96) ∧ 0 ≤ y ∧ y ≤ 32 := by
  have hr := used_rng V hs
  unfold takeP at h
  by_cases h1 : a < 0 ∨ b < 0
  · rw [Vp.run_yes h1, Vp.run_ret] at h
    cases h
    omega
  · rw [Vp.run_no h1, Vp.run_bind] at h
    by_cases h2 : 96 - (usedP.run M s).1.1 < a ∨ 32 - (usedP.run M s).1.2 < b
    · rw [Vp.run_yes h2, Vp.run_ret] at h
      cases h
      omega
    · rw [Vp.run_no h2, Vp.run_wr, Vp.run_wr, Vp.run_ret] at h
      cases h
      exact hr
set_option maxRecDepth 100000 in
set_option maxHeartbeats 2000000 in
theorem vret_is (V : VOk M T v fR fW Mem Ok S R) (hm : Mem w s) {f t k b x n : Int} {s1 : σ} (h : (uretP f t k b).run M s = ((x, n), s1)) :
    Calls Try.prog 12 #[.iface T v, .int .i64 f, .int .i64 t, .int .i64 k, .int .i64 b] w fun e w' => e = .returned (.tuple #[.int .i64 x, errV n]) ∧ Mem w' s1 ∧ Only S w w' := by
  unfold uretP at h
  obtain ⟨⟨m, en⟩, s2, h2⟩ : ∃ r s2, (ubtwP f t).run M s = (r, s2) := ⟨_, _, rfl⟩
  rw [Vp.run_bind_is h2] at h
  dsimp only at h
  have c1 := ubtw_is V hm h2
  have HV := Lib.hid V
  clear h2 hm V
  by_cases h0 : en ≠ 0
  · rw [Vp.run_yes h0, Vp.run_ret] at h
    cases h
    rw [errV_some h0] at c1 ⊢
    clear h0
    go_enter Try.func12, Try.ntmps12
    go_wp2_with fail
    (with_reducible refine c1.mono ?_)
    clear c1
    rintro e w1 ⟨rfl, hm1, ho1⟩
    go_wp2_with fail
    go_ret2
    exact ⟨rfl, hm1, ho1⟩
  rw [Vp.run_no h0] at h
  obtain rfl : en = 0 := by simpa using h0
  rw [errV_nil] at c1
  obtain ⟨c, hc⟩ : ∃ c, costZ k b = c := ⟨_, rfl⟩
  rw [hc] at h
  have cC : ∀ W, Calls Try.prog 7 #[.int .i64 k, .int .i64 b] W fun e w' => e = .returned (.tuple #[.int .i64 (if c < 0 then 0 else c), .bool (!decide (c < 0))]) ∧ W = w' := by subst hc; exact fun W => ucost_eq k b W
  clear h0
  by_cases h1 : c < 0
  · rw [Vp.run_yes h1, Vp.run_ret] at h
    cases h
    rw [if_pos h1, show (!decide (c < 0)) = false by simp [h1]] at cC
    have HC := Lib.hid cC
    clear cC hc h1
    go_enter Try.func12, Try.ntmps12
    go_wp2_with fail
    (with_reducible refine c1.mono ?_)
    clear c1
    rintro e w1 ⟨rfl, hm1, ho1⟩
    go_wp2_with ((with_reducible refine (HC.out _).mono ?_); rintro e w' ⟨rfl, rfl⟩)
    go_ret2
    exact ⟨rfl, hm1, ho1⟩
  rw [Vp.run_no h1] at h
  rw [if_neg h1, show (!decide (c < 0)) = true by simp [h1]] at cC
  have HC := Lib.hid cC
  obtain ⟨l, s3, h3⟩ : ∃ l s3, (uleftP m).run M s2 = (l, s3) := ⟨_, _, rfl⟩
  rw [Vp.run_bind_is h3] at h
  have H3 := Lib.hid h3
  have cr := costZ_rng k b
  rw [hc] at cr
  have cr0 : 1 ≤ c := by omega
  have cr1 : c ≤ 257 := by omega
  clear cC h3 cr
  by_cases h4 : l < c
  · rw [Vp.run_yes h4, Vp.run_ret] at h
    cases h
    clear hc h1
    go_enter Try.func12, Try.ntmps12
    go_wp2_with fail
    (with_reducible refine c1.mono ?_)
    clear c1
    rintro e w1 ⟨rfl, hm1, ho1⟩
    have c3 := vleft_is HV.out hm1 H3.out
    clear hm1
    go_wp2_with (first | ((with_reducible refine (HC.out _).mono ?_); rintro e w' ⟨rfl, rfl⟩) | ((with_reducible refine c3.mono ?_); clear c3; rintro e w3 ⟨rfl, hm3, ho3⟩; replace ho3 := ho1.trans ho3))
    go_ret2
    exact ⟨rfl, hm3, ho3⟩
  rw [Vp.run_no h4] at h
  obtain ⟨z, hz⟩ : ∃ z, slotsZ k b = z := ⟨_, rfl⟩
  rw [hz] at h
  have HZ := Lib.hid fun W => uslots_is hc h1 hz W
  obtain ⟨⟨sl, ob, et⟩, s4, h5⟩ : ∃ r s4, (takeP z 1).run M s3 = (r, s4) := ⟨_, _, rfl⟩
  rw [Vp.run_bind_is h5] at h
  dsimp only at h
  have H5 := Lib.hid h5
  have HQ := Lib.hid (And.intro hc h1)
  clear h5 hz hc h1
  by_cases h6 : et ≠ 0
  · rw [Vp.run_yes h6, Vp.run_ret] at h
    cases h
    have HE := Lib.hid h6
    rw [errV_some h6]
    clear h6
    go_enter Try.func12, Try.ntmps12
    go_wp2_with fail
    (with_reducible refine c1.mono ?_)
    clear c1
    rintro e w1 ⟨rfl, hm1, ho1⟩
    have c3 := vleft_is HV.out hm1 H3.out
    clear hm1
    go_wp2_with (first | ((with_reducible refine (HC.out _).mono ?_); rintro e w' ⟨rfl, rfl⟩) | ((with_reducible refine (HZ.out _).mono ?_); rintro e w' ⟨rfl, rfl⟩) | ((with_reducible refine c3.mono ?_); clear c3; rintro e w3 ⟨rfl, hm3, ho3⟩; replace ho3 := ho1.trans ho3; have c4 := take_is HV.out hm3 H5.out; rw [errV_some HE.out] at c4; clear hm3) | ((with_reducible refine c4.mono ?_); clear c4; rintro e w4 ⟨rfl, hm4, ho4⟩; replace ho4 := ho3.trans ho4))
    go_ret2
    exact ⟨rfl, hm4, ho4⟩
  rw [Vp.run_no h6] at h
  obtain rfl : et = 0 := by simpa using h6
  obtain ⟨u, s5, h7⟩ : ∃ u s5, (fieldP m 2).run M s4 = (u, s5) := ⟨_, _, rfl⟩
  rw [Vp.run_bind_is h7] at h
  obtain ⟨F, hF⟩ : ∃ F, newF k b sl = F := ⟨_, rfl⟩
  rw [hF] at h
  obtain ⟨s6, h8⟩ : ∃ s6, (uputsP ob F 0 8).run M s5 = ((), s6) := ⟨_, rfl⟩
  rw [Vp.run_bind_is h8] at h
  obtain ⟨s7, h9⟩ : ∃ s7, (putP m 2 (u + c)).run M s6 = ((), s7) := ⟨_, rfl⟩
  rw [Vp.run_bind_is h9] at h
  obtain ⟨eg, s8, h10⟩ : ∃ eg s8, (ugiveP f t (fullC k ob)).run M s7 = (eg, s8) := ⟨_, _, rfl⟩
  rw [Vp.run_bind_is h10] at h
  have H7 := Lib.hid h7
  have H8 := Lib.hid h8
  have H9 := Lib.hid h9
  have H10 := Lib.hid h10
  have HF := Lib.hid hF
  have H := Lib.hid h
  obtain ⟨ev, hev⟩ : ∃ ev, Hid (errV n = ev) := ⟨_, Lib.hid rfl⟩
  rw [hev.out]
  clear h6 h7 h8 h9 h10 hF h
  go_enter Try.func12, Try.ntmps12
  go_wp2_with fail
  (with_reducible refine c1.mono ?_)
  clear c1
  rintro e w1 ⟨rfl, hm1, ho1⟩
  have c3 := vleft_is HV.out hm1 H3.out
  clear hm1
  go_wp2_with (first | ((with_reducible refine (HC.out _).mono ?_); rintro e w' ⟨rfl, rfl⟩) | ((with_reducible refine (HZ.out _).mono ?_); rintro e w' ⟨rfl, rfl⟩) | ((with_reducible refine c3.mono ?_); clear c3; rintro e w3 ⟨rfl, hm3, ho3⟩; replace ho3 := ho1.trans ho3; have c4 := take_is HV.out hm3 H5.out; rw [errV_nil] at c4) | ((with_reducible refine c4.mono ?_); clear c4; rintro e w4 ⟨rfl, hm4, ho4⟩; replace ho4 := ho3.trans ho4; have c5 := field_is HV.out hm4 H7.out) | fail)
  have hs4 := HV.out.ok _ _ hm4
  have ru := field_rng HV.out hs4 m 2
  rw [H7.out] at ru
  replace ru : 0 ≤ u ∧ u ≤ 4611686018427387904 := ru
  have rt := take_rng HV.out (HV.out.ok _ _ hm3) H5.out
  have hw1 : IntKind.i64.wrap (u + c) = u + c := IntWalk.i64_in _ (by omega)
  have HL := Lib.hid fun j => HF.out ▸ newF_le HQ.out.1 (by have := HQ.out.2; omega) rt.1.2 j
  have HFR := Lib.hid fun W => ufresh_is (w := W) (by rw [HQ.out.1]; have := HQ.out.2; omega) HF.out
  have HU := Lib.hid (show u + c ≤ 9223372036854775807 by omega)
  clear hm3 hm4 hs4 ru rt
  (with_reducible refine c5.mono ?_)
  clear c5
  rintro e w5 ⟨rfl, hm5, ho5⟩
  replace ho5 := ho4.trans ho5
  clear ho4 ho3 ho1
  go_wp2_with fail
  (with_reducible refine (HFR.out _).mono ?_)
  rintro e w6 ⟨rfl, ho6⟩
  have c6 := uput_is HV.out (HV.out.only0 hm5 ho6) HL.out H8.out
  replace ho6 := ho5.trans (ho6.more (S' := S) (fun _ _ hx => absurd hx List.not_mem_nil))
  clear hm5 ho5
  go_wp2_with fail
  (with_reducible refine c6.mono ?_)
  clear c6
  rintro e w7 ⟨rfl, hm7, ho7⟩
  have c7 := put_is HV.out hm7 HU.out H9.out
  replace ho7 := ho6.trans ho7
  clear ho6 hm7
  go_wp2_with fail
  (with_reducible refine c7.mono ?_)
  clear c7
  rintro e w8 ⟨rfl, hm8, ho8⟩
  have c8 : Calls Try.prog 31 #[.iface T v, .int .i64 f, .int .i64 t, .agg #[.int .i64 k, .int .i64 7, .int .i64 ob, .int .i64 0, .int .i64 0, .int .i64 0]] w8 fun e w' => e = .returned (errV eg) ∧ Mem w' s8 ∧ Only S w8 w' := ugive_is (c := fullC k ob) HV.out hm8 H10.out
  replace ho8 := ho7.trans ho8
  clear ho7 hm8
  have HE := H.out
  clear H
  by_cases he : eg ≠ 0
  · rw [Vp.run_yes he, Vp.run_ret] at HE
    cases HE
    have hq := Lib.hid (errV_some he)
    rw [errV_some he] at c8
    clear he
    go_wp2_with fail
    (with_reducible refine c8.mono ?_)
    clear c8
    rintro e w9 ⟨rfl, hm9, ho9⟩
    go_wp2_with fail
    go_ret2
    exact ⟨by rw [← hev.out, hq.out]; rfl, hm9, ho8.trans ho9⟩
  · rw [Vp.run_no he, Vp.run_ret] at HE
    obtain rfl : eg = 0 := by simpa using he
    rw [errV_nil] at c8
    clear he
    go_wp2_with fail
    (with_reducible refine c8.mono ?_)
    clear c8
    rintro e w9 ⟨rfl, hm9, ho9⟩
    go_wp2_with fail
    go_ret2
    cases HE
    exact ⟨by rw [← hev.out]; rfl, hm9, ho8.trans ho9⟩
end
end Go.Proofs.Ytffoajakkghlbaa
