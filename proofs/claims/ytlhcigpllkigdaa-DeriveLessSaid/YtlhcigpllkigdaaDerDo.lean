/- do of layer 12's statements: a deed is done with the words of a sound state. -/
import Derived.Test.YtlhcigpllkigdaaJ12
import Derived.Test.YtlhcigpllkigdaaJ13
namespace Go.Proofs.Ytlhcigpllkigdaa
open Go.RowKit
/-- a number modulo 8, as the statements pick -/
def pk8 (c : Int) : Int := if c < 0 then (-(c + 1)) % 8 else c % 8
theorem pk8_rng (c : Int) : 0 ≤ pk8 c ∧ pk8 c ≤ 7 := by
  unfold pk8
  split <;> omega
theorem pk8_eight (c : Int) : pk8 c = 0 ∨ pk8 c = 1 ∨ pk8 c = 2 ∨ pk8 c = 3 ∨ pk8 c = 4 ∨ pk8 c = 5 ∨ pk8 c = 6 ∨ pk8 c = 7 := by
  have := pk8_rng c
  omega
theorem pick8_any (c : Int) (h0 : -9223372036854775808 ≤ c) (h1 : c ≤ 9223372036854775807) (w : World) : Calls Try.prog 18 #[.int .i64 c, .int .i64 8] w fun e w' => e = .returned (.int .i64 (pk8 c)) ∧ w' = w := by
  by_cases h : c < 0
  · have e1 : pk8 c = -((c + 1).tmod 8) := by unfold pk8; rw [if_pos h, ← Int.neg_tmod, Int.tmod_eq_emod_of_nonneg (by omega)]
    rw [e1]
    clear e1
    go_enter Try.func18, Try.ntmps18
    go_wp2
    go_ret
    exact ⟨rfl, rfl⟩
  · have e1 : pk8 c = c % 8 := by unfold pk8; rw [if_neg h]
    rw [e1]
    clear e1
    go_enter Try.func18, Try.ntmps18
    go_wp2
    go_ret
    exact ⟨rfl, rfl⟩
def stepN (S : RSt) (d : D5) : Int :=
  if pk8 d.what = 0 ∨ pk8 d.what = 1 then derN S d.a d.b d.m 0 false else if pk8 d.what = 2 ∨ pk8 d.what = 3 then derN S d.a d.b d.m d.n true else if pk8 d.what = 4 then movN S d.a d.b 0 0 false
  else if pk8 d.what = 5 then movN S d.a d.b d.m d.n true else if pk8 d.what = 6 then delN S d.a else (oneA S d.a).2
def stepO (S : RSt) (d : D5) : Bool := if pk8 d.what = 7 then (oneA S d.a).1 else false
def stepS (S : RSt) (d : D5) : RSt :=
  if pk8 d.what = 0 ∨ pk8 d.what = 1 then derS S d.a d.b d.m 0 false else if pk8 d.what = 2 ∨ pk8 d.what = 3 then derS S d.a d.b d.m d.n true else if pk8 d.what = 4 then movS S d.a d.b 0 0 false
  else if pk8 d.what = 5 then movS S d.a d.b d.m d.n true else if pk8 d.what = 6 then delS S d.a else oneS S d.a
section
variable {S : RSt} {d : D5}
theorem step_0 (h : pk8 d.what = 0) : stepN S d = derN S d.a d.b d.m 0 false ∧ stepO S d = false ∧ stepS S d = derS S d.a d.b d.m 0 false := by
  unfold stepN stepO stepS
  rw [h]
  simp
theorem step_1 (h : pk8 d.what = 1) : stepN S d = derN S d.a d.b d.m 0 false ∧ stepO S d = false ∧ stepS S d = derS S d.a d.b d.m 0 false := by
  unfold stepN stepO stepS
  rw [h]
  simp
theorem step_2 (h : pk8 d.what = 2) : stepN S d = derN S d.a d.b d.m d.n true ∧ stepO S d = false ∧ stepS S d = derS S d.a d.b d.m d.n true := by
  unfold stepN stepO stepS
  rw [h]
  simp
theorem step_3 (h : pk8 d.what = 3) : stepN S d = derN S d.a d.b d.m d.n true ∧ stepO S d = false ∧ stepS S d = derS S d.a d.b d.m d.n true := by
  unfold stepN stepO stepS
  rw [h]
  simp
theorem step_4 (h : pk8 d.what = 4) : stepN S d = movN S d.a d.b 0 0 false ∧ stepO S d = false ∧ stepS S d = movS S d.a d.b 0 0 false := by
  unfold stepN stepO stepS
  rw [h]
  simp
theorem step_5 (h : pk8 d.what = 5) : stepN S d = movN S d.a d.b d.m d.n true ∧ stepO S d = false ∧ stepS S d = movS S d.a d.b d.m d.n true := by
  unfold stepN stepO stepS
  rw [h]
  simp
theorem step_6 (h : pk8 d.what = 6) : stepN S d = delN S d.a ∧ stepO S d = false ∧ stepS S d = delS S d.a := by
  unfold stepN stepO stepS
  rw [h]
  simp
theorem step_7 (h : pk8 d.what = 7) : stepN S d = (oneA S d.a).2 ∧ stepO S d = (oneA S d.a).1 ∧ stepS S d = oneS S d.a := by
  unfold stepN stepO stepS
  rw [h]
  simp
theorem derN_rng (S : RSt) (f t m b : Int) (mint : Bool) : derN S f t m b mint = 0 ∨ (1 ≤ derN S f t m b mint ∧ derN S f t m b mint ≤ 14) := by
  unfold derN
  split
  · have := endsN_few S f t; omega
  · split
    · unfold derC
      split
      · exact Cp.mint_code _ _ _
      · exact Cp.derive_code _ _
    · exact linkN_rng
theorem movN_rng (S : RSt) (f t gd n : Int) (mu : Bool) : movN S f t gd n mu = 0 ∨ (1 ≤ movN S f t gd n mu ∧ movN S f t gd n mu ≤ 14) := by
  unfold movN
  split
  · have := endsN_few S f t; omega
  · split
    · next h =>
      unfold movC at h ⊢
      split
      · exact Cp.mutate_code _ _ _
      · next e => rw [if_neg e] at h; exact absurd rfl h
    · exact replaceN_rng
theorem delN_rng (S : RSt) (i : Int) : delN S i = 0 ∨ (1 ≤ delN S i ∧ delN S i ≤ 14) := by
  unfold delN
  repeat' split
  all_goals omega
theorem oneA_rng (S : RSt) (i : Int) : (oneA S i).2 = 0 ∨ (1 ≤ (oneA S i).2 ∧ (oneA S i).2 ≤ 14) := by
  unfold oneA
  split
  · exact .inr ⟨by decide, by decide⟩
  · split
    · exact .inl rfl
    · exact delN_rng _ _
theorem stepN_rng (S : RSt) (d : D5) : stepN S d = 0 ∨ (1 ≤ stepN S d ∧ stepN S d ≤ 14) := by
  unfold stepN
  repeat' split
  all_goals first | exact derN_rng _ _ _ _ _ _ | exact movN_rng _ _ _ _ _ _ | exact delN_rng _ _ | exact oneA_rng _ _
end
theorem Dok.step {S : RSt} (h : Dok S) (d : D5) : Dok (stepS S d) := by
  unfold stepS
  repeat' split
  all_goals first | exact h.der _ _ _ _ _ | exact h.mov _ _ _ _ _ | exact h.del _ | exact h.one _
abbrev DeT : TypeId := 38
theorem d5_cells {w : World} {g : Nat} {d : D5} (h : Blk w g DeT d.arr) : w.cell? ⟨g, 0, none⟩ = some (.int .i64 d.what) ∧ w.cell? ⟨g, 1, none⟩ = some (.int .i64 d.a) ∧ w.cell? ⟨g, 2, none⟩ = some (.int .i64 d.b) ∧ w.cell? ⟨g, 3, none⟩ = some (.int .i64 d.m) ∧ w.cell? ⟨g, 4, none⟩ = some (.int .i64 d.n) := ⟨h.cell 0, h.cell 1, h.cell 2, h.cell 3, h.cell 4⟩
section
variable {g : Nat} {w : World} {S : RSt}
set_option maxRecDepth 100000 in
set_option maxHeartbeats 2000000 in
theorem do_any (hm : MemP g 738 UT w (wordsG S)) (hS : Dok S) (d : D5) (h0 : -9223372036854775808 ≤ d.what) (h1 : d.what ≤ 9223372036854775807) :
    Calls Try.prog 8 #[.iface PwT (.slice (some ⟨g, 0, none⟩) 738 738), .agg d.arr] w fun e w' => e = .returned (.tuple #[errV (stepN S d), .bool (stepO S d)]) ∧ MemP g 738 UT w' (wordsG (stepS S d)) ∧ Only [g] w w' := by
  have hm0 := hm.only ((Only.refl [] w).alloc (.cells d.arr DeT)) (by simp)
  have ho0 := (Only.refl [g] w).alloc (.cells d.arr DeT)
  have cP := pick8_any d.what h0 h1
  obtain ⟨k, hk⟩ : ∃ k, pk8 d.what = k := ⟨_, rfl⟩
  have h8 := pk8_eight d.what
  rw [hk] at cP h8
  have HK := Lib.hid hk
  have HM := Lib.hid (And.intro hm0 hS)
  have HO := Lib.hid ho0
  have HP := Lib.hid cP
  clear cP hk hm0 ho0 hm h0 h1
  rcases h8 with rfl | rfl | rfl | rfl | rfl | rfl | rfl | rfl
  · obtain ⟨s1, s2, s3⟩ := step_0 (S := S) HK.out
    rw [s1, s2, s3]
    clear s1 s2 s3
    have c1 := dcopy_is HM.out.1 HM.out.2 d.a d.b d.m
    go_enter Try.func8, Try.ntmps8
    go_wp2_with ((with_reducible refine (HP.out _).mono ?_); rintro e w' ⟨rfl, hw⟩; replace hw := hw.symm; subst hw)
    (with_reducible refine c1.mono ?_)
    clear c1
    rintro e w1 ⟨rfl, hm1, ho1⟩
    go_wp2_with fail
    go_ret2
    exact ⟨rfl, hm1, HO.out.trans ho1⟩
  · obtain ⟨s1, s2, s3⟩ := step_1 (S := S) HK.out
    rw [s1, s2, s3]
    clear s1 s2 s3
    have c1 := dcopy_is HM.out.1 HM.out.2 d.a d.b d.m
    go_enter Try.func8, Try.ntmps8
    go_wp2_with ((with_reducible refine (HP.out _).mono ?_); rintro e w' ⟨rfl, hw⟩; replace hw := hw.symm; subst hw)
    (with_reducible refine c1.mono ?_)
    clear c1
    rintro e w1 ⟨rfl, hm1, ho1⟩
    go_wp2_with fail
    go_ret2
    exact ⟨rfl, hm1, HO.out.trans ho1⟩
  · obtain ⟨s1, s2, s3⟩ := step_2 (S := S) HK.out
    rw [s1, s2, s3]
    clear s1 s2 s3
    have c1 := dmint_is HM.out.1 HM.out.2 d.a d.b d.m d.n
    go_enter Try.func8, Try.ntmps8
    go_wp2_with ((with_reducible refine (HP.out _).mono ?_); rintro e w' ⟨rfl, hw⟩; replace hw := hw.symm; subst hw)
    (with_reducible refine c1.mono ?_)
    clear c1
    rintro e w1 ⟨rfl, hm1, ho1⟩
    go_wp2_with fail
    go_ret2
    exact ⟨rfl, hm1, HO.out.trans ho1⟩
  · obtain ⟨s1, s2, s3⟩ := step_3 (S := S) HK.out
    rw [s1, s2, s3]
    clear s1 s2 s3
    have c1 := dmint_is HM.out.1 HM.out.2 d.a d.b d.m d.n
    go_enter Try.func8, Try.ntmps8
    go_wp2_with ((with_reducible refine (HP.out _).mono ?_); rintro e w' ⟨rfl, hw⟩; replace hw := hw.symm; subst hw)
    (with_reducible refine c1.mono ?_)
    clear c1
    rintro e w1 ⟨rfl, hm1, ho1⟩
    go_wp2_with fail
    go_ret2
    exact ⟨rfl, hm1, HO.out.trans ho1⟩
  · obtain ⟨s1, s2, s3⟩ := step_4 (S := S) HK.out
    rw [s1, s2, s3]
    clear s1 s2 s3
    have c1 := dmove_is HM.out.1 HM.out.2 d.a d.b
    go_enter Try.func8, Try.ntmps8
    go_wp2_with ((with_reducible refine (HP.out _).mono ?_); rintro e w' ⟨rfl, hw⟩; replace hw := hw.symm; subst hw)
    (with_reducible refine c1.mono ?_)
    clear c1
    rintro e w1 ⟨rfl, hm1, ho1⟩
    go_wp2_with fail
    go_ret2
    exact ⟨rfl, hm1, HO.out.trans ho1⟩
  · obtain ⟨s1, s2, s3⟩ := step_5 (S := S) HK.out
    rw [s1, s2, s3]
    clear s1 s2 s3
    have c1 := dmutate_is HM.out.1 HM.out.2 d.a d.b d.m d.n
    go_enter Try.func8, Try.ntmps8
    go_wp2_with ((with_reducible refine (HP.out _).mono ?_); rintro e w' ⟨rfl, hw⟩; replace hw := hw.symm; subst hw)
    (with_reducible refine c1.mono ?_)
    clear c1
    rintro e w1 ⟨rfl, hm1, ho1⟩
    go_wp2_with fail
    go_ret2
    exact ⟨rfl, hm1, HO.out.trans ho1⟩
  · obtain ⟨s1, s2, s3⟩ := step_6 (S := S) HK.out
    rw [s1, s2, s3]
    clear s1 s2 s3
    have c1 := ddelete_is HM.out.1 HM.out.2 d.a
    go_enter Try.func8, Try.ntmps8
    go_wp2_with ((with_reducible refine (HP.out _).mono ?_); rintro e w' ⟨rfl, hw⟩; replace hw := hw.symm; subst hw)
    (with_reducible refine c1.mono ?_)
    clear c1
    rintro e w1 ⟨rfl, hm1, ho1⟩
    go_wp2_with fail
    go_ret2
    exact ⟨rfl, hm1, HO.out.trans ho1⟩
  · obtain ⟨s1, s2, s3⟩ := step_7 (S := S) HK.out
    rw [s1, s2, s3]
    clear s1 s2 s3
    have c1 := done_is HM.out.1 HM.out.2 d.a
    go_enter Try.func8, Try.ntmps8
    go_wp2_with ((with_reducible refine (HP.out _).mono ?_); rintro e w' ⟨rfl, hw⟩; replace hw := hw.symm; subst hw)
    (with_reducible refine c1.mono ?_)
    clear c1
    rintro e w1 ⟨rfl, hm1, ho1⟩
    go_wp2_with fail
    go_ret2
    exact ⟨rfl, hm1, HO.out.trans ho1⟩
end
end Go.Proofs.Ytlhcigpllkigdaa
