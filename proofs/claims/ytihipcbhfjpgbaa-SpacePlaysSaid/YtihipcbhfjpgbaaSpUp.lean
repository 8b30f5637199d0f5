/- The example's state of layer 18: four frames, two spaces. -/
import Derived.Test.YtihipcbhfjpgbaaRefSp
import Derived.Test.YtihipcbhfjpgbaaJ6
import Derived.Test.YtihipcbhfjpgbaaJ9
namespace Go.Proofs.Ytihipcbhfjpgbaa
open Go.RowKit
theorem new_sok : Sok RSt.new := by
  have h := new_plainly
  exact ⟨h.tree, fun i _ => by rw [h.par, h.kids]; exact ⟨rfl, rfl⟩, fun _ => zero_may, fun i _ => h.ob i, ⟨show (0 : Int) ≤ 0 by decide, show (0 : Int) ≤ 18446744073709551615 by decide⟩, ⟨show (0 : Int) ≤ 0 by decide, show (0 : Int) ≤ 18446744073709551615 by decide⟩⟩
theorem begS_sok : ∀ n, Sok (begS n) := by
  intro n
  induction n with
  | zero => exact new_sok
  | succ n ih => exact ih.putO (fresh_fit (by split <;> exact ⟨by decide, by decide⟩))
theorem begS_sp : SP (begS 6) := by
  have hob : ∀ i : Int, (begS 6).ob i = RObj.fresh (if 0 ≤ i ∧ i < 4 then 6 else if 4 ≤ i ∧ i < 6 then 7 else 0) := fun i => by
    by_cases h0 : i = 0
    · subst h0; rfl
    by_cases h1 : i = 1
    · subst h1; rfl
    by_cases h2 : i = 2
    · subst h2; rfl
    by_cases h3 : i = 3
    · subst h3; rfl
    by_cases h4 : i = 4
    · subst h4; rfl
    by_cases h5 : i = 5
    · subst h5; rfl
    rw [if_neg (by omega), if_neg (by omega)]
    show (((((((RSt.new.putO 0 _).putO 1 _).putO 2 _).putO 3 _).putO 4 _).putO 5 _).ob i) = _
    rw [putO_ne h5, putO_ne h4, putO_ne h3, putO_ne h2, putO_ne h1, putO_ne h0]
    rfl
  refine ⟨?_, fun i => by rw [hob]; rfl, fun i => by rw [hob]; rfl, fun f hf => .inl (by rw [hob]; exact ⟨rfl, rfl⟩), fun s p hs hp => .inl ?_⟩
  · exact begS_sok 6
  · rw [hob]
    rcases p4 hp with rfl | rfl | rfl | rfl <;> exact ⟨rfl, rfl⟩
section
set_option maxRecDepth 100000 in
set_option maxHeartbeats 1000000 in
theorem begun_any (w : World) : Calls Try.prog 6 #[] w fun e w' =>
    ∃ gs go, e = .returned (.pointer (some ⟨w.heap.size, 0, none⟩)) ∧ RefM w' w.heap.size gs go (begS 6) ∧ w.heap.size ≤ gs ∧ w.heap.size ≤ go ∧ Only [] w w' := by
  go_enter Try.func6, Try.ntmps6
  go_wp2_with fail
  (with_reducible refine (new_any _).mono ?_)
  rintro e w1 ⟨gs, go, rfl, hr, hgs, hgo, ho⟩
  obtain ⟨p, hp⟩ : ∃ p, Hid (w.heap.size = p) := ⟨_, Lib.hid rfl⟩
  rw [hp.out] at hr hgs hgo ⊢
  go_wp2_with fail
  go_loopw [2] (fun i wr => ∃ k : Nat, k ≤ 6 ∧ i = .int .i64 k ∧ RefM wr p gs go (begS k) ∧ Only [] w wr) (fun i _ => 6 - (intOf i).toNat)
  case atStart => exact ⟨0, by omega, rfl, hr, ho⟩
  case round =>
    clear hr ho
    clear w1
    obtain ⟨k, hk, rfl, hr, ho⟩ := hrel
    by_cases hlt : k < 6
    · have hlt' : (k : Int) < 6 := by omega
      obtain ⟨co, c1⟩ := hr.cObjs
      obtain ⟨q, hq⟩ : ∃ q : Int, Hid ((if k < 4 then 6 else 7) = q) := ⟨_, Lib.hid rfl⟩
      have hdq : (6 : Int) + (k : Int).tdiv 4 = q := by
        rw [← hq.out, Int.tdiv_eq_ediv_of_nonneg (by omega)]
        split <;> omega
      have hwr1 : IntKind.i64.wrap ((k : Int) / 4) = (k : Int) / 4 := wrI (by omega) (by omega)
      have hwr2 : IntKind.i64.wrap (6 + (k : Int) / 4) = q := by
        rw [wrI (by omega) (by omega), ← hq.out]
        split <;> omega
      have hx0 : (0 : Int) ≤ (k : Int) := by omega
      have hx1 : (k : Int) < 32 := by omega
      clear hdq
      have hoy : Only [] wr wr.drew := (Only.refl _ _).drewN 1
      have HC := Lib.hid fun (W : World) (o : Only [] wr W) => (o.cell (p := ⟨p, 1, none⟩) hr.ltP (by simp)).trans c1
      have hS0 : wr.drew.cell? ⟨p, 1, none⟩ = some (.slice (some ⟨go, 0, none⟩) 32 co) := c1
      obtain ⟨FA, hFA⟩ : ∃ FA, Hid (freshA q = FA) := ⟨_, Lib.hid rfl⟩
      have hsz : FA.size = 32 := by rw [← hFA.out]; rfl
      have HFL : Hid (FA.toList = objRow (RObj.fresh q) (.slice none 0 0)) := Lib.hid (by rw [← hFA.out]; rfl)
      have HFO : Hid (FA.all (·.oneCell') = true) := Lib.hid (by rw [← hFA.out]; exact objRow_one (RObj.fresh q) none 0 0)
      have hpg : p ≠ go := Blk.ne_ hr.head.choose_spec.choose_spec hr.objs.choose_spec.1 (by decide)
      have hpz := hr.ltP
      have hgz := hr.ltO
      have cF := fresh_any q wr.drew
      rw [hFA.out] at cF
      have HR := Lib.hid hr
      have HO := Lib.hid ho
      clear hr ho
      go_upto_region 5 with fail
      go_region_held3 (fun W => W.cell? ⟨p, 1, none⟩ = some (.slice (some ⟨go, 0, none⟩) 32 co))
        (first | exact hS0 | exact HC.out _ hox | exact hS1 | fail)
        (first | ((with_reducible refine cF.mono ?_); clear cF; rintro e w3 ⟨rfl, ho3⟩; have hox := hoy.trans ho3; have hr3 := HR.out.only0 hox; have hst := run_cells_mid (P := Try.prog) w3 go (k * 32) FA (by rw [hsz]; exact hr3.thereO (by omega)) HFO.out; obtain ⟨hr4, ho4⟩ := hr3.setObj (by decide) (by decide) (by decide) (i := k) (by omega) (RObj.fresh q) (qv := .slice none 0 0) (NumsC.nil _ _); rw [← HFL.out] at hr4 ho4; have hS1 : (w3.setCells go (k * 32) FA.toList).cell? ⟨p, 1, none⟩ = some (.slice (some ⟨go, 0, none⟩) 32 co) := (ho4.cell (p := ⟨p, 1, none⟩) (Nat.lt_of_lt_of_le hpz hox.size) (by simpa using hpg)).trans (HC.out _ hox)) | fail)
      obtain ⟨w4, hw4⟩ : ∃ w4, Hid (w4 = w3.setCells go (k * 32) FA.toList) := ⟨_, Lib.hid rfl⟩
      rw [← hw4.out] at hr4 ho4 ⊢
      replace hr4 : RefM w4 p gs go ((begS k).putO (k : Int) (RObj.fresh q)) := hr4
      have hn : (begS k).putO (k : Int) (RObj.fresh q) = begS (k + 1) := by rw [← hq.out]; rfl
      rw [hn] at hr4
      have hgo' : w.heap.size ≤ go := by rw [hp.out]; exact hgo
      have HZ := Lib.hid (And.intro hr4 ((HO.out.trans hox).then ho4 (fun y hy => .inr (by simp at hy; rw [hy]; exact hgo'))))
      clear hr4 ho4 hw4 hn hst hS1 hr3 ho3 hox hS0 c1 hpg
      go_wp2_with fail
      exact ⟨⟨k + 1, by omega, by go_num, HZ.out.1, HZ.out.2⟩, by simp [intOf]; omega⟩
    · obtain rfl : k = 6 := by omega
      go_wp2_with fail
      go_ret
      exact ⟨gs, go, by rw [hp.out]; rfl, by rw [hp.out]; exact hr, by rw [hp.out]; exact hgs, by rw [hp.out]; exact hgo, ho⟩
end
end Go.Proofs.Ytihipcbhfjpgbaa
